import PyProof.Rows.All
import Wide.All
import OpenK.AllK
import Wide.FinOn
import Lean
import PyProof.EqAt
import PyProof.EqKinds
import PyProof.TupleCall
import PySem.Challenge.RW_nearland_k23_sides_and_areas
set_option Elab.async false
set_option linter.all false
set_option maxRecDepth 100000
namespace HD
open PySem PySem.W PySem.Calls
def EC (p:Program) (w:World) (n₀:Nat) (ann:Option Value):Nat→SharedT→Thread→Option SharedT
 | 0,_,_=>none
 | n+1,s,t=>match through t with
   | true=>some s
   | false=>match stepOk n₀ ann t with
     | false=>none
     | true=>match stepT (denote treeTable) p w s t with
       | some (s',t')=>EC p w n₀ ann n s' t'
       | none=>none
theorem zJ {p:Program} {w:World} {n₀:Nat} {ann:Option Value}:∀ {n:Nat} {s s':SharedT} {t:Thread},EC p w n₀ ann n s t=some s'→topRun treeTable p w n₀ ann n s.abs t=some s'.abs
 | 0,_,_,_,h=>nomatch h
 | n+1,s,s',t,h=>by
   unfold EC at h
   unfold topRun
   cases a:through t with
   | true=>rw [a] at h;cases h;rfl
   | false=>
     rw [a] at h
     dsimp only at h ⊢
     cases b:stepOk n₀ ann t with
     | false=>rw [b] at h;cases h
     | true=>
       rw [b] at h
       dsimp only at h ⊢
       cases c:stepT (denote treeTable) p w s t with
       | none=>rw [c] at h;cases h
       | some x=>
         obtain ⟨s1,t1⟩:=x
         rw [c] at h
         rw [stepT_spec c]
         exact zJ h
noncomputable def B5 (P:Params):BT:=((boot_heap P).objs.toList.foldl (fun x o=>(x.1.ins x.2 o,x.2+1)) (BT.nil,0)).1
theorem AN (P:Params):absHeap (B5 P) 11 (boot_heap P).life=boot_heap P:=by kernel_rfl
theorem AO (w:World):((boot_heap w.params).isNs mainGlobals && (#[]:Array GenState).size == 0,(boot_heap w.params).objs.size,(boot_heap w.params).nsMap mainGlobals "__annotations__")=(true,11,some (.ref 6)):=by kernel_rfl
theorem AQ {p q:Program} {loose:List Str} {Xt:Shared→Bool} {α:Type} {Yf:Shared→α} {Ya:World→α} {N M:Nat} (e:opening p=plainProg p.main.scope.names) (hN:Nat.ble 600 N=true) (f:∀ s,fenceModules? p s=some s) (le:Nat.ble M N=true)
 (run:∀ (w:World) (os:OsState),(EC p w 11 (some (.ref 6)) M ⟨B5 w.params,11,(boot_heap w.params).life,#[],boot_drawn,boot_toks,os⟩ (topStub p)).map (fun sT=>
  (staticsOk (importedModules p.main.body) (boot_heap w.params) sT.abs.heap && namesBound p sT.abs.heap && gensDone sT.abs && laidKept (boot_heap w.params) sT.abs.heap,openSeen q loose (importedModules p.main.body) Xt true sT.abs,Yf sT.abs))=some (true,openGood q loose,Ya w)):LeftO p q loose Xt Yf Ya N:=fun w=>by
 obtain ⟨⟨h,gs,d,k,os⟩,e,e'⟩:=Option.map_eq_some_iff.mp (boot_open e hN f w)
 obtain ⟨rfl,rfl,rfl,rfl⟩:h=boot_heap w.params∧gs=Array.mk []∧d=boot_drawn∧k=boot_toks:=by simpa using e'
 obtain ⟨z1,z2,z3⟩:_∧_∧_:=by simpa only [Prod.mk.injEq] using AO w
 obtain ⟨sT,e1,e2⟩:=Option.map_eq_some_iff.mp (run w os)
 obtain ⟨l1,l2,l3⟩:_∧_∧_:=by simpa only [Prod.mk.injEq] using e2
 have r:=topRun_mono (N - M) _ _ _ _ (zJ e1)
 rw [show M+(N - M)=N by have:=Nat.le_of_ble_eq_true le;omega] at r
 have a:SharedT.abs ⟨B5 w.params,11,(boot_heap w.params).life,#[],boot_drawn,boot_toks,os⟩= ⟨boot_heap w.params,Array.mk [],boot_drawn,boot_toks,os⟩:=by
  unfold SharedT.abs
  dsimp only
  rw [AN]
 rw [a] at r
 have t:topFrom treeTable p w N ⟨boot_heap w.params,Array.mk [],boot_drawn,boot_toks,os⟩=some sT.abs:=by
  unfold topFrom
  dsimp only
  rw [z1,z2,z3,r]
  show (match staticsOk (importedModules p.main.body) (boot_heap w.params) sT.abs.heap && namesBound p sT.abs.heap && gensDone sT.abs && laidKept (boot_heap w.params) sT.abs.heap with | true=>_ | false=>_)=_
  rw [l1]
 unfold openEnds
 rw [e]
 show (topFrom treeTable p w N _).map _=_
 rw [t]
 exact congrArg some (Prod.ext l2 l3)
def dA (s:Stmt):Arguments:=match s with
 | .FunctionDef _ a _ _ _ _ _ _ _ _=>a
 | _=>{ posonlyargs:=[],args:=[],vararg:=none,kwonlyargs:=[],kw_defaults:=[],kwarg:=none,defaults:=[] }
def dB (s:Stmt):List Stmt:=match s with
 | .FunctionDef _ _ b _ _ _ _ _ _ _=>b
 | _=>[]
def dS (s:Stmt):Scope:=match s with
 | .FunctionDef _ _ _ _ _ _ sc _ _ _=>sc
 | _=>{ kind:= .function,names:=[],isGenerator:=false,isCoroutine:=false }
abbrev pr (n:Str) (st:Stmt):Str ×Stmt:=(n,st)
def JN (h:Heap) (n:Str):Option (Option Value):=match h.get? mainGlobals with
 | some o=>nsIn [(mainGlobals,o)] mainGlobals n
 | none=>none
def fnAt (h:Heap) (n:Str):Option (Addr ×FuncData):=match JN h n with
 | some (some (.ref f))=>(match h.get? f with
   | some ⟨_,_,.func fd,_⟩=>some (f,fd)
   | _=>none)
 | _=>none
def j7 (h:Heap) (v:Value):Option Str:=match v with
 | .ref c=>(match h.get? c with
   | some ⟨_,_,.fields vs,_⟩=>(match vs.toList with
     | _ :: .str q _ :: _=>some q
     | _=>none)
   | _=>none)
 | _=>none
def blank (fd:FuncData):FuncData:={ fd with kwdefaults:= .none,doc:= .none,pyModule:= .none,annotations:=none,code:= .none,closureTuple:= .none }
abbrev Seen:=List (Option (FuncData ×Option Str)) ×List (Option (Option Value))
def yv (fs:List (Str ×Stmt)) (bs:List Str) (s:Shared):Seen:=
 (fs.map fun p=>(fnAt s.heap p.1).map fun x=>(blank x.2,j7 s.heap x.2.code),bs.map fun b=>JN s.heap b)
def good (fs:List (Str ×Stmt)) (bs:List Str):Seen:=
 (fs.map fun p=>some (fnOf p.1 p.1 (dA p.2) (dB p.2) (dS p.2) .none .none .none .none none .none .none,some p.1),bs.map fun _=>some none)
end HD
namespace  Pf
open PySem PySem.W PyProof.Rows
def top (i:Nat):Stmt:=PySem.Challenge.pw_nearland_k23_sides_and_areas.main.body.getD i (.Pass ⟨0,0,0,0⟩)
abbrev j8:Stmt:=top 21
abbrev iz:Stmt:=top 22
abbrev jk:Stmt:=top 23
abbrev jl:Stmt:=top 24
abbrev jm:Stmt:=top 25
abbrev iA:Stmt:=top 26
abbrev lW:Stmt:=top 31
abbrev j9:Stmt:=top 30
abbrev jn:Stmt:=top 27
abbrev dY:Stmt:=top 32
abbrev jo:Stmt:=top 33
abbrev gB:Stmt:=top 10
abbrev ql:Stmt:=top 12
abbrev cE:Stmt:=top 13
abbrev jq:Stmt:=top 15
abbrev yw:Stmt:=top 16
abbrev uF:Stmt:=top 3
abbrev uG:Stmt:=top 17
abbrev dH:Stmt:=top 28
abbrev yx:Stmt:=top 1
abbrev yy:Stmt:=top 4
abbrev gC:Stmt:=top 6
abbrev nR:Stmt:=top 7
abbrev jr:Stmt:=top 29
abbrev fL:Stmt:=top 8
abbrev iB:Stmt:=top 11
abbrev kX:Stmt:=top 19
abbrev jt:Stmt:=top 34
abbrev zK:Stmt:=top 35
def view:Program:={ PySem.Challenge.pw_nearland_k23_sides_and_areas with main:={ PySem.Challenge.pw_nearland_k23_sides_and_areas.main with body:=[top 35] } }
def loose:List Str:=(["sign","twice","turn","without_bays","outline","outline_sides","side_between","triangle_of","rounds","directed_sides","sides_of","ties","area","swept","_law_cell","_law_ringed","_law_lined","_law_great","_law_place","_law_places","_law_twice","_law_straight","_law_alike","_law_laid","_law_far","_law_flipped","_law_cover","_law_sides"]:List String).map Str.ofString
def fs:List (Str ×Stmt):=[HD.pr "_law_cell" j8,HD.pr "_law_ringed" iz,HD.pr "_law_lined" jk,HD.pr "_law_great" jl,HD.pr "_law_place" jm,HD.pr "_law_places" iA,HD.pr "_law_far" lW,HD.pr "_law_laid" j9,HD.pr "_law_twice" jn,HD.pr "_law_flipped" dY,HD.pr "_law_cover" jo,HD.pr "side_between" gB,HD.pr "rounds" ql,HD.pr "directed_sides" cE,HD.pr "sides_of" jq,HD.pr "ties" yw,HD.pr "twice" uF,HD.pr "area" uG,HD.pr "_law_straight" dH,HD.pr "sign" yx,HD.pr "turn" yy,HD.pr "without_bays" gC,HD.pr "outline" nR,HD.pr "_law_alike" jr,HD.pr "outline_sides" fL,HD.pr "triangle_of" iB,HD.pr "swept" kX,HD.pr "_law_sides" jt,HD.pr "law" zK]
def bs:List Str:=["len","range","min","sorted","max","set","list","zip","sum","reversed","isinstance","int","str","tuple","bool"]
set_option maxHeartbeats 0 in
theorem said:PySem.Challenge.rw_nearland_k23_sides_and_areas.wellSaid=true:=by
 unfold OpenLaw.wellSaid OpenRow.wellSaid OpenRow.partSaid looksOpen
 repeat' (with_reducible refine look_both ?_ ?_)
 all_goals decide +kernel
set_option maxHeartbeats 0 in
theorem left:LeftO PySem.Challenge.rw_nearland_k23_sides_and_areas.row.prog view loose (fun s=>xlAt view [] s && recOk (RowW.records (OpenRow.toRowW PySem.Challenge.rw_nearland_k23_sides_and_areas.row)) s) (HD.yv fs bs) (fun _=>HD.good fs bs) 2610:=HD.AQ (M:=1055) (by kernel_rfl) (by kernel_rfl) (fun s=>by kernel_rfl) (by kernel_rfl) (fun w os=>by kernel_rfl)
end Pf
namespace L2
open PySem PySem.Spec PyProof.Rows
abbrev Key:=Sum Int Str
def GH:Key→Value→Bool
 | .inl k,v=>Value.isInt k v
 | .inr x,v=>Value.isStrOf x v
def MF (w:World):Key→Int
 | .inl k=>hashInt k
 | .inr x=>hashStr w x
theorem cj:∀ {k:Key} {v:Value},GH k v=true→(∃ i t,k=Sum.inl i∧v=Value.int i t)∨(∃ x t,k=Sum.inr x∧v=Value.str x t)
 | .inl i,v,h=>by
   obtain ⟨t,e⟩:=Value.isInt_shape (k:=i) (v:=v) h
   exact .inl ⟨i,t,rfl,e⟩
 | .inr x,v,h=>by
   obtain ⟨t,e⟩:=Value.isStrOf_shape (x:=x) (v:=v) h
   exact .inr ⟨x,t,rfl,e⟩
theorem Hl (a b:Int):decide ((Sum.inl a:Key)=Sum.inl b)=(a == b):=by
 by_cases e:a=b
 ·subst e;simp
 ·have h:¬ (Sum.inl a:Key)=Sum.inl b:=fun q=>e (Sum.inl.inj q)
  rw [decide_eq_false h]
  exact (beq_eq_false_iff_ne.mpr e).symm
theorem Ho (a b:Str):decide ((Sum.inr a:Key)=Sum.inr b)=decide (a=b):=by
 by_cases e:a=b
 ·subst e;simp
 ·have h:¬ (Sum.inr a:Key)=Sum.inr b:=fun q=>e (Sum.inr.inj q)
  rw [decide_eq_false h,decide_eq_false e]
theorem Hq (a:Int) (b:Str):decide ((Sum.inl a:Key)=Sum.inr b)=false:=decide_eq_false (fun q=>nomatch q)
theorem Hr (a:Str) (b:Int):decide ((Sum.inr a:Key)=Sum.inl b)=false:=decide_eq_false (fun q=>nomatch q)
def zL (prog:Program) (w:World):PySem.KeyKind prog w Key where
 is:=GH
 hash:=MF w
 inj:=fun v a b ha hb=>by
  rcases cj ha with ⟨i,t,rfl,rfl⟩ | ⟨x,t,rfl,rfl⟩
  ·rcases cj hb with ⟨j,u,rfl,e⟩ | ⟨y,u,rfl,e⟩
   ·injection e with e1 _;rw [e1]
   ·exact nomatch e
  ·rcases cj hb with ⟨j,u,rfl,e⟩ | ⟨y,u,rfl,e⟩
   ·exact nomatch e
   ·injection e with e1 _;rw [e1]
 byValue:=fun k v h=>by
  rcases cj h with ⟨i,t,rfl,rfl⟩ | ⟨x,t,rfl,rfl⟩ <;> rfl
 pyHash:=fun hv h=>by
  rcases cj hv with ⟨i,t,rfl,rfl⟩ | ⟨x,t,rfl,rfl⟩
  ·exact wpAny_pyHash_int h
  ·exact wpAny_pyHash_str h
 eqBool:=fun hu hv h=>by
  rcases cj hu with ⟨i,t,rfl,rfl⟩ | ⟨x,t,rfl,rfl⟩
  ·rcases cj hv with ⟨j,u,rfl,rfl⟩ | ⟨y,u,rfl,rfl⟩
   ·rw [Hl] at h;exact wpAny_eqBool_int h
   ·rw [Hq] at h;exact SeqAt.EqAt.int_str i t y u _ _ _ _ h
  ·rcases cj hv with ⟨j,u,rfl,rfl⟩ | ⟨y,u,rfl,rfl⟩
   ·rw [Hr] at h;exact SeqAt.EqAt.str_int x t j u _ _ _ _ h
   ·rw [Ho] at h;exact wpAny_eqBool_str h
 «strs» :=fun k x t v h=>by
  rcases cj h with ⟨i,u,rfl,e⟩ | ⟨y,u,rfl,e⟩
  ·exact nomatch e
  ·injection e with e1 _
   subst e1
   cases v <;> rfl
end L2
namespace L2
open PySem PySem.Spec PyProof.Rows
inductive V where
 | bA | bl (b:Bool) | int (i:Int) | str (x:Str) | B6 (b:Array UInt8) | JO (b:UInt64) | ref (a:Addr) | ty (n:String)
 deriving DecidableEq
def RelV:V→Value→Prop
 | .bA,u=>u=Value.none
 | .bl b,u=>u=Value.bool b
 | .int i,u=> ∃ t,u=Value.int i t
 | .str x,u=> ∃ t,u=Value.str x t
 | .B6 b,u=> ∃ t,u=Value.bytes b t
 | .JO b,u=> ∃ t,u=Value.float b t
 | .ref a,u=>u=Value.ref a
 | .ty n,u=>u=Value.type n
abbrev Vals:List V→List Value→Prop:=Paired RelV
theorem Vals.length {xs:List V} {us:List Value} (r:Vals xs us):xs.length=us.length:=Paired.length r
theorem Vals.get:∀ {xs:List V} {us:List Value} {i:Nat} {x:V},Vals xs us→xs[i]?=some x→∃ u,us[i]?=some u∧RelV x u
 | _,_,_,_,.nil,e=>by simp at e
 | _,_,0,_,.cons r _,e=>by simp at e;subst e;exact ⟨_,rfl,r⟩
 | _,_,i+1,x,.cons _ t,e=>by
   obtain ⟨u,h1,h2⟩:=Vals.get (i:=i) (x:=x) t (by simpa using e)
   exact ⟨u,by simpa using h1,h2⟩
theorem Vals.append:∀ {xs ys:List V} {us ws:List Value},Vals xs us→Vals ys ws→Vals (xs ++ ys) (us ++ ws)
 | _,_,_,_,.nil,s=>s
 | _,_,_,_,.cons r t,s=> .cons r (Vals.append t s)
theorem Vals.take:∀ {xs:List V} {us:List Value} (n:Nat),Vals xs us→Vals (xs.take n) (us.take n)
 | _,_,0,_=> .nil
 | _,_,_+1,.nil=> .nil
 | _,_,n+1,.cons r t=> .cons r (Vals.take n t)
theorem Vals.drop:∀ {xs:List V} {us:List Value} (n:Nat),Vals xs us→Vals (xs.drop n) (us.drop n)
 | _,_,0,r=>r
 | _,_,_+1,.nil=> .nil
 | _,_,n+1,.cons _ t=>Vals.drop n t
def Hs:Option V→Option Value→Prop
 | some v,some u=>RelV v u
 | none,none=>True
 | _,_=>False
def KV {κ:Type}:List (κ ×V)→List (κ ×Value)→Prop:=Paired fun (p:κ ×V) (q:κ ×Value)=>p.1=q.1∧RelV p.2 q.2
def kV:Key→V
 | .inl i=> .int i
 | .inr x=> .str x
inductive HO where
 | lst (xs:List V)
 | tup (xs:List V)
 | dK (kvs:List (Key ×V)) | dT (kvs:List (List Key ×V))
 | set (S:Int→Bool) (n:Nat)
 | ins (C dx:Addr) (fs:List (Str ×V))
 | own (x:Addr)
 | xd (fs:List (Str ×V))
 | met (f x:Addr)
 | MG (lo hi:Int)
 | mK (o:Obj) (u:HO)
 | Ht (ps:Array Value)
 | ext (φ:Heap→Prop)
abbrev Hp:=Addr→Option HO
def upd (H:Hp) (a:Addr) (o:HO):Hp:=fun b=>if b=a then some o else H b
theorem dZ {H:Hp} {a:Addr} {o:HO}:upd H a o a=some o:=by unfold upd;rw [if_pos rfl]
theorem aW {H:Hp} {a b:Addr} {o:HO} (h:b≠a):upd H a o b=H b:=by unfold upd;rw [if_neg h]
theorem GI {H:Hp} {a b:Addr} {o u:HO} (h:H a=some o) (h':H b=some u) (d:o≠u):a≠b:=by
 intro e;subst e;rw [h] at h';exact d (Option.some.inj h')
theorem bR {H:Hp} {a b:Addr} {o:HO} (h:H a=some o) (h':H b=none):a≠b:=by
 intro e;subst e;rw [h] at h';cases h'
section
variable (P:Program) (w:World)
def c9 (H:Hp) (h:Heap) (a:Addr):HO→Prop
 | .lst xs=>xs.length≤sizeLine∧∃ (its:List Value) (n:Nat),Vals xs its∧h.get? a=some { cls:= .type "list",data:= .seq its.toArray n }
 | .tup xs=>xs.length≤sizeLine∧∃ its:List Value,Vals xs its∧IsTup h a its.toArray
 | .dK kvs=>kvs.length≤sizeLine∧(a == sysModules)=false∧∃ vs,KV kvs vs∧h.DictOf (zL P w) a vs
 | .dT kvs=>kvs.length≤sizeLine∧(a == sysModules)=false∧∃ xs:List (List Key ×Addr ×Value),
  Paired (fun (p:List Key ×V) (q:List Key ×Addr ×Value)=>p.1=q.1∧H q.2.1=some (.tup (p.1.map kV))∧RelV p.2 q.2.2) kvs xs∧
  ∃ o es ep,h.get? a=some o∧o.ExactDict∧o.data= .dict es ep∧es.toList=xs.map (entryOfKey (tupleKind (zL P w)))∧(xs.map (·.1)).Nodup
 | .set S n=>h.SetOf (intKind P w) a S n
 | .ins C dx fs=>H dx=some (.own a)∧fs.length≤1000∧dx≠a∧h.get? a=some (PySem.W.instObj C dx)∧
  ∃ mA,h.Ns1 dx mA∧(∀ f,Hs (fs.lookup f) (mA f))∧PySem.Within mA (fs.map (·.1))
 | .own _=> ∃ o,h.get? a=some o
 | .xd fs=> ∃ mA,h.Ns1 a mA∧∀ f,Hs (fs.lookup f) (mA f)
 | .MG lo hi=> ∃ t u v,h.get? a=some { cls:= .type "range",data:= .fields #[.int lo t,.int hi u,.int 1 v] }
 | .mK o u=>h.get? a=some o∧c9 H h a u
 | .Ht ps=>h.get? a=some { cls:= .none,data:= .fields ps }
 | .met f x=>h.get? a=some (PySem.W.methodObj (.ref f) (.ref x))
 | .ext φ=>φ h∧(∃ o,h.get? a=some o)∧∀ h1 h2:Heap,φ h1→(∀ o,h1.get? a=some o→h2.get? a=some o)→φ h2
def j3 (H:Hp) (h:Heap):Prop:= ∀ a o,H a=some o→c9 P w H h a o
end
section
variable {P:Program} {w:World} {H H':Hp} {h h':Heap} {a:Addr} {o:HO}
theorem c9.lt (x:c9 P w H h a o):a < h.objs.size:=by
 cases o with
 | lst xs=>obtain ⟨_,_,_,_,e⟩:=x;exact Heap.lt_size e
 | tup xs=>obtain ⟨_,_,_,p⟩:=x;exact p.lt
 | dK kvs=>obtain ⟨_,_,_,_,o,_,_,e,_⟩:=x;exact Heap.lt_size e
 | dT kvs=>obtain ⟨_,_,_,_,o,_,_,e,_⟩:=x;exact Heap.lt_size e
 | set S n=>obtain ⟨o,_,_,_,e,_⟩:=x;exact Heap.lt_size e
 | ins C dx fs=>obtain ⟨_,_,_,e,_⟩:=x;exact Heap.lt_size e
 | own y=>obtain ⟨_,e⟩:=x;exact Heap.lt_size e
 | xd fs=>obtain ⟨_,⟨_,_,_,e,_⟩,_⟩:=x;exact Heap.lt_size e
 | MG lo hi=>obtain ⟨_,_,_,e⟩:=x;exact Heap.lt_size e
 | mK ob u=>obtain ⟨e,_⟩:=x;exact Heap.lt_size e
 | Ht ps=>exact Heap.lt_size (show h.get? a=some _ from x)
 | met f y=>exact Heap.lt_size (show h.get? a=some _ from x)
 | ext φ=>obtain ⟨_,⟨_,e⟩,_⟩:=x;exact Heap.lt_size e
theorem Paired.Hu {α β:Type} {F G:α→β→Prop}:∀ {l₁:List α} {l₂:List β},Paired F l₁ l₂→(∀ a b,F a b→G a b)→Paired G l₁ l₂
 | _,_,.nil,_=> .nil
 | _,_,.cons r t,f=> .cons (f _ _ r) (Paired.Hu t f)
theorem c9.stay (x:c9 P w H h a o) (k:∀ b u,(b=a∨H b=some (.own a))→h.get? b=some u→h'.get? b=some u)
 (ho:∀ b,H b=some (.own a)→H' b=some (.own a)) (ht:∀ b xs,H b=some (.tup xs)→H' b=some (.tup xs)):c9 P w H' h' a o:=by
 induction o with
 | lst xs=>obtain ⟨z,its,n,r,e⟩:=x;exact ⟨z,its,n,r,k _ _ (.inl rfl) e⟩
 | tup xs=>obtain ⟨z,its,r,ob,e,c⟩:=x;exact ⟨z,its,r,ob,k _ _ (.inl rfl) e,c⟩
 | dK kvs=>obtain ⟨z,y,vs,r,ob,es,ep,e,c⟩:=x;exact ⟨z,y,vs,r,ob,es,ep,k _ _ (.inl rfl) e,c⟩
 | dT kvs=>
   obtain ⟨z,y,xs,r,ob,es,ep,e,c⟩:=x
   exact ⟨z,y,xs,Paired.Hu r fun p q z=>⟨z.1,ht _ _ z.2.1,z.2.2⟩,ob,es,ep,k _ _ (.inl rfl) e,c⟩
 | set S n=>obtain ⟨ob,es,ep,t,e,c⟩:=x;exact ⟨ob,es,ep,t,k _ _ (.inl rfl) e,c⟩
 | ins C dx fs=>
   obtain ⟨d,z,ne,e,mA,⟨od,es,ep,e2,c⟩,r⟩:=x
   exact ⟨ho _ d,z,ne,k _ _ (.inl rfl) e,mA,⟨od,es,ep,k _ _ (.inr d) e2,c⟩,r⟩
 | own y=>obtain ⟨ob,e⟩:=x;exact ⟨ob,k _ _ (.inl rfl) e⟩
 | xd fs=>obtain ⟨mA,⟨od,es,ep,e,c⟩,r⟩:=x;exact ⟨mA,⟨od,es,ep,k _ _ (.inl rfl) e,c⟩,r⟩
 | MG lo hi=>obtain ⟨t,u,v,e⟩:=x;exact ⟨t,u,v,k _ _ (.inl rfl) e⟩
 | mK ob u ih=>obtain ⟨e,q⟩:=x;exact ⟨k _ _ (.inl rfl) e,ih q⟩
 | Ht ps=>
   have e:h.get? a=some { cls:= .none,data:= .fields ps }:=x
   show h'.get? a=some { cls:= .none,data:= .fields ps }
   exact k a _ (.inl rfl) e
 | met f y=>
   have e:h.get? a=some (PySem.W.methodObj (.ref f) (.ref y)):=x
   show h'.get? a=some (PySem.W.methodObj (.ref f) (.ref y))
   exact k a _ (.inl rfl) e
 | ext φ=>obtain ⟨p,⟨o,e⟩,st⟩:=x;exact ⟨st _ _ p fun o q=>k _ _ (.inl rfl) q,⟨o,k _ _ (.inl rfl) e⟩,st⟩
theorem j3.lt (x:j3 P w H h) (e:H a=some o):a < h.objs.size:=(x a o e).lt
theorem j3.fresh (x:j3 P w H h) (e:h.objs.size≤a):H a=none:=by
 cases q:H a with
 | none=>rfl
 | some u=>exact absurd (Nat.lt_of_lt_of_le (x.lt q) e) (Nat.lt_irrefl _)
theorem j3.kept (x:j3 P w H h) (k:∀ b u,h.get? b=some u→h'.get? b=some u):j3 P w H h':=fun a o e=>
 (x a o e).stay (fun b u _ q=>k b u q) (fun _ q=>q) fun _ _ q=>q
theorem j3.laid (x:j3 P w H h) (k:∀ b u,h.get? b=some u→h'.get? b=some u) (hp:h.objs.size≤a) (new:c9 P w (upd H a o) h' a o):j3 P w (upd H a o) h':=fun b u e=>by
 have hn:=x.fresh hp
 by_cases hb:b=a
 ·subst hb;rw [dZ] at e;cases e;exact new
 ·rw [aW hb] at e
  exact (x b u e).stay (fun c v _ q=>k c v q) (fun c q=>by rw [aW (bR q hn)];exact q) fun c xs q=>by rw [aW (bR q hn)];exact q
end
def Rd (H:Hp) (a:Addr) (u:HO):Prop:=H a=some u∨∃ o,H a=some (.mK o u)
theorem Rd.ok {P:Program} {w:World} {H:Hp} {h:Heap} {a:Addr} {u:HO} (r:Rd H a u) (x:j3 P w H h):c9 P w H h a u:=by
 rcases r with r | ⟨o,r⟩
 ·exact x a u r
 ·obtain ⟨_,q⟩:=x a _ r
  exact q
def L0:Option HO→Prop
 | some (.lst _)=>True
 | some (.dK _)=>True
 | some (.dT _)=>True
 | some (.set _ _)=>True
 | some (.ins _ _ _)=>True
 | some (.ext _)=>True
 | _=>False
section
variable {P:Program} {w:World} {H:Hp} {h h':Heap} {x e:Addr} {o':HO}
theorem j3.write (ok:j3 P w H h) (mu:L0 (H x)) (he:e=x∨H e=some (.own x)) (k:∀ b u,b≠e→h.get? b=some u→h'.get? b=some u) (JP:∃ u,h'.get? e=some u)
 (new:c9 P w (upd H x o') h' x o'):j3 P w (upd H x o') h':=fun b u q=>by
 have J1:∀ c y,H c=some (.own y)→c≠x:=fun c y r z=>by subst z;rw [r] at mu;exact mu
 have MH:∀ c xs,H c=some (.tup xs)→c≠x:=fun c xs r z=>by subst z;rw [r] at mu;exact mu
 by_cases hb:b=x
 ·subst hb;rw [dZ] at q;cases q;exact new
 ·rw [aW hb] at q
  by_cases Hv:b=e
  ·have q':H b=some (.own x):=by
    rcases he with z | z
    ·exact absurd (Hv.trans z) hb
    ·rw [Hv];exact z
   rw [q] at q';cases q'
   obtain ⟨v,hv⟩:=JP
   exact ⟨v,by rw [Hv];exact hv⟩
  ·refine (ok b u q).stay (fun c v hc r=>k c v ?_ r) (fun c r=>by rw [aW (J1 c b r)];exact r) fun c xs r=>by rw [aW (MH c xs r)];exact r
   rcases hc with rfl | hc
   ·exact Hv
   ·rintro rfl
    rcases he with z | z
    ·exact J1 c b hc z
    ·rw [hc] at z;cases z;exact hb rfl
end
structure Un (fs ex:List Addr) (H H':Hp) (h h':Heap):Prop where
 keep:∀ b o,h.get? b=some o→H b=none→b∉fs→b∉ex→h'.get? b=some o
 slot:∀ b o,h.get? b=some o→H b=none→b∈fs→b∉ex→∃ sl,h'.get? b=some { o with slots:=sl }
 free:∀ b o,h.get? b=some o→H b=none→b∉ex→H' b=none
 there:∀ b o,h.get? b=some o→b∉ex→∃ o',h'.get? b=some o'
 tups:∀ b xs,H b=some (.tup xs)→H' b=some (.tup xs)
 uH:∀ b o u,H b=some (.mK o u)→H' b=some (.mK o u)
 wm:∀ b ps,H b=some (.Ht ps)→∃ more,H' b=some (.Ht (ps ++ more))
section
variable {fs fs' ex ex':List Addr} {H H1 H2:Hp} {h h1 h2 h':Heap} {a x e:Addr} {o:HO}
theorem Un.any (u:Un fs ex H H1 h h1) {b:Addr} {ob:Obj} (q:h.get? b=some ob) (n:H b=none) (hx:b∉ex):∃ sl,h1.get? b=some { ob with slots:=sl }:=by
 by_cases hb:b∈fs
 ·exact u.slot b ob q n hb hx
 ·exact ⟨ob.slots,u.keep b ob q n hb hx⟩
theorem Un.kept (k:∀ b u,h.get? b=some u→h'.get? b=some u):Un fs ex H H h h':=
 ⟨fun b ob q _ _ _=>k b ob q,fun b ob q _ _ _=>⟨ob.slots,k b ob q⟩,fun _ _ _ n _=>n,fun b ob q _=>⟨ob,k b ob q⟩,fun _ _ q=>q,fun _ _ _ q=>q,fun _ ps q=>⟨#[],by rw [q];simp⟩⟩
theorem Un.refl:Un fs ex H H h h:=Un.kept fun _ _ q=>q
theorem Un.laid (k:∀ b u,h.get? b=some u→h'.get? b=some u) (hp:h.objs.size≤a) (hn:H a=none):Un fs ex H (upd H a o) h h' where
 keep:=fun b u q _ _ _=>k b u q
 slot:=fun b u q _ _ _=>⟨u.slots,k b u q⟩
 free:=fun b u q n _=>by rw [aW (Nat.ne_of_lt (Nat.lt_of_lt_of_le (Heap.lt_size q) hp))];exact n
 there:=fun b u q _=>⟨u,k b u q⟩
 tups:=fun b xs q=>by rw [aW (bR q hn)];exact q
 uH:=fun b u xs q=>by rw [aW (bR q hn)];exact q
 wm:=fun b ps q=>⟨#[],by rw [aW (bR q hn),q];simp⟩
theorem Un.write (mu:L0 (H x)) (he:e=x∨H e=some (.own x)) (k:∀ b u,b≠e→h.get? b=some u→h'.get? b=some u) (JP:∃ u,h'.get? e=some u):Un fs ex H (upd H x o) h h':=by
 have hx:∀ b,H b=none→b≠x:=fun b n z=>by subst z;rw [n] at mu;exact mu
 have hb:∀ b,H b=none→b≠e:=fun b n z=>by
  subst z
  rcases he with r | r
  ·exact hx b n r
  ·rw [n] at r;cases r
 have hm:∀ b u,H b=some u→¬ L0 (some u)→b≠x:=fun b u q nm z=>by subst z;rw [q] at mu;exact nm mu
 refine ⟨fun b u q n _ _=>k b u (hb b n) q,fun b u q n _ _=>⟨u.slots,k b u (hb b n) q⟩,fun b u q n _=>by rw [aW (hx b n)];exact n,fun b u q _=>?_,
  fun b xs q=>by rw [aW (hm b _ q fun z=>z)];exact q,fun b u xs q=>by rw [aW (hm b _ q fun z=>z)];exact q,fun b ps q=>⟨#[],by rw [aW (hm b _ q fun z=>z),q];simp⟩⟩
 by_cases Hv:b=e
 ·subst Hv;exact JP
 ·exact ⟨u,k b u Hv q⟩
end
def L1 (h:Heap) (H:Hp):List Addr:=(List.range h.objs.size).filter fun a=>(H a).isSome
def uI (h:Heap) (H:Hp):Heap:=PySem.W.hideAll h (L1 h H)
theorem AR (h:Heap) (H:Hp):(uI h H).objs.size=h.objs.size:=PySem.W.hideAll_size _ _
theorem B7 {h:Heap} {H:Hp} {b:Addr} {o:Obj} (e:h.get? b=some o) (n:H b=none):(uI h H).get? b=some o:=
 PySem.W.hideAll_get _ e fun hm=>by
  have q:(H b).isSome=true:=(List.mem_filter.mp hm).2
  rw [n] at q;simp at q
theorem ED {h:Heap} {H:Hp} {b:Addr} {o:Obj} (e:(uI h H).get? b=some o):h.get? b=some o∧H b=none:=by
 have e':h.get? b=some o:=PySem.W.of_hideAll (L1 h H) e
 refine ⟨e',?_⟩
 cases q:H b with
 | none=>rfl
 | some x=>
   have hm:b∈L1 h H:=List.mem_filter.mpr ⟨List.mem_range.mpr (Heap.lt_size e'),by simp [q]⟩
   have z:(uI h H).get? b=none:=PySem.W.hideAll_none (L1 h H) hm
   rw [z] at e;cases e
def EE (g h:Heap) (L:Addr):List (Addr ×Obj):=(List.range h.objs.size).filterMap fun a=>if a=L∨(g.get? a).isSome=true then none else (h.get? a).map fun o=>(a,o)
def rest (g h:Heap) (L d:Addr):List (Addr ×Obj):=(EE g h L).filter fun p=>decide (p.1≠d)
end L2
namespace L2
open PySem PySem.Spec PyProof.Rows
structure Mod (K:PySem.W.Frag) (mg:Str→Option Value) (base:Heap):Prop where
 MI:K.In base
 glob:base.Ns mainGlobals mg
 blt:∃ mb,base.Ns builtinsNs mb∧∀ x:Str,x≠"__name__"→mb x=bootBuiltins x
 nolimit:base.NoLimit
structure Cx where
 prog:Program
 w:World
 K:PySem.W.Frag
 mg:Str→Option Value
 base:Heap
 A:Around
 N:List Str
 s₀:Shared
 H₀:Hp
 env:Env
 outer:List Env
 stack:List Env
 ex:List Addr
 fn:Str→Bool
 calm:Bool
 pn:List (Addr ×Obj)
 xe:Value→Shared→Prop
def frs (l:List Env):List Addr:=l.filterMap (·.frame)
abbrev Cx.fs (X:Cx):List Addr:=frs X.outer
def MJ (sc:Scope) (x:Str):Prop:=sc.names.lookup x=some .local∨sc.names.lookup x=some .cell∨sc.names.lookup x=some .free
def Loc (sc:Scope) (x:Str):Prop:=sc.names.lookup x=some .local∨sc.names.lookup x=some .cell
def Look (env:Env) (h:Heap) (m:Str→Option Value) (x:Str) (u:Value):Prop:=
 (env.kindOf x=some .local∧m x=some u)∨((env.kindOf x=some .cell∨env.kindOf x=some .free)∧∃ c,env.cells.lookup x=some c∧h.IsCell c (some u))
structure Cx.Ok (X:Cx):Prop where
 mod:Mod X.K X.mg X.base
 kind:X.env.scope.kind= .function
 glob:X.env.globals=mainGlobals
 blt:X.env.builtins=builtinsNs
 above:X.s₀.heap.objs.size≤X.env.locals
 inj:∀ x y c,X.env.cells.lookup x=some c→X.env.cells.lookup y=some c→x=y
 has:∀ x,(X.env.kindOf x=some .cell∨X.env.kindOf x=some .free)→∃ c,X.env.cells.lookup x=some c
 JQ:∀ x c,X.fn x=true→X.env.cells.lookup x=some c→X.s₀.heap.objs.size≤c
 hd:X.calm=true→X.A.handled=none
 frames:X.A.frames=some X.stack
 stk:X.stack=X.outer∨(X.stack=X.env :: X.outer∧X.env.frame=some X.env.locals)
 J2:∀ b∈X.ex,b≠X.env.locals∧∀ x c,X.env.cells.lookup x=some c→c≠b
 bs:∀ b o,X.base.get? b=some o→X.s₀.heap.get? b=some o∧X.H₀ b=none
 GJ:X.base.objs.size≤X.s₀.heap.objs.size
 AS:∀ b o,X.base.get? b=some o→b∉X.ex
 AU:∀ b∈X.ex,b∉X.fs
 pC:X.s₀.heap.FunFrames X.base X.outer
 Hw:∀ b∈X.fs,X.H₀ b=none
structure Inv (X:Cx) (pins:List (Addr ×Obj)) (σ:List (Option V)) (H:Hp) (s:Shared):Prop where
 ok:X.Ok
 os:s.os=X.s₀.os
 bare:AllBare s.gens
 base:Un X.fs X.ex X.H₀ H X.s₀.heap s.heap
 loc:∃ m,s.heap.Ns X.env.locals m∧∀ (i:Nat) (x:Str) (v:V),X.N[i]?=some x→σ[i]?=some (some v)→MJ X.env.scope x→∃ u,RelV v u∧Look X.env s.heap m x u
 cell:∀ x c,X.env.cells.lookup x=some c→∃ v,s.heap.IsCell c v
 free:H X.env.locals=none
 lF:∀ x c,X.env.cells.lookup x=some c→H c=none
 pin:∀ p∈X.pn ++ pins,s.heap.get? p.1=some p.2∧H p.1=none∧p.1≠X.env.locals∧p.1∉X.fs∧∀ v,p.2.data≠ .cell v
 hok:j3 X.prog X.w H s.heap
 len:σ.length=X.N.length
section
variable {X:Cx} {pins:List (Addr ×Obj)} {σ:List (Option V)} {H H':Hp} {s:Shared} {h':Heap}
theorem Cx.Ok.MK (ok:X.Ok) {b:Addr} {o:Obj} (e:X.base.get? b=some o):b∉X.fs:=fun hb=>by
 have:=(ok.pC.mem hb).1
 rw [e] at this;cases this
theorem Inv.bs (I:Inv X pins σ H s):∀ b o,X.base.get? b=some o→s.heap.get? b=some o∧H b=none:=fun b o e=>
 ⟨I.base.keep b o (I.ok.bs b o e).1 (I.ok.bs b o e).2 (I.ok.MK e) (I.ok.AS b o e),I.base.free b o (I.ok.bs b o e).1 (I.ok.bs b o e).2 (I.ok.AS b o e)⟩
theorem Inv.bk (I:Inv X pins σ H s):∀ b o,X.base.get? b=some o→s.heap.get? b=some o:=fun b o e=>(I.bs b o e).1
theorem Inv.mod (I:Inv X pins σ H s):Mod X.K X.mg X.base:=I.ok.mod
theorem Inv.we (I:Inv X pins σ H s):X.K.In s.heap:=I.ok.mod.MI.keeps I.bk
theorem Inv.lt (I:Inv X pins σ H s):X.env.locals < s.heap.objs.size:=let ⟨_,hn,_⟩:=I.loc;hn.lt
theorem Inv.sz (I:Inv X pins σ H s):X.s₀.heap.objs.size≤s.heap.objs.size:=Nat.le_trans I.ok.above (Nat.le_of_lt I.lt)
theorem Inv.ML (I:Inv X pins σ H s) {a:Addr} (h:s.heap.objs.size≤a):a∉X.fs:=fun hb=>by
 obtain ⟨_,o,ho,_⟩:=I.ok.pC.mem hb
 exact absurd (Nat.lt_of_lt_of_le (Heap.lt_size ho) (Nat.le_trans I.sz h)) (Nat.lt_irrefl _)
theorem Inv.Hx (I:Inv X pins σ H s):∀ x c,X.env.cells.lookup x=some c→c≠X.env.locals:=fun x c e z=>by
 obtain ⟨v,o,ho,hd⟩:=I.cell x c e
 obtain ⟨m,⟨o',es,ep,ho',hd',_⟩,_⟩:=I.loc
 rw [z,ho'] at ho;cases ho;rw [hd'] at hd;cases hd
theorem Inv.pC (I:Inv X pins σ H s):s.heap.FunFrames X.base X.outer:=by
 have all:∀ (l:List Env),(∀ b∈frs l,b∈X.fs)→X.s₀.heap.FunFrames X.base l→s.heap.FunFrames X.base l:=by
  intro l
  induction l with
  | nil=>intro _ _;trivial
  | cons env r ih=>
    intro hs hl
    obtain ⟨hk,⟨L,o,hf,hn,ho,hd⟩,hr⟩:=hl
    have hL:L∈X.fs:=hs L (by unfold frs;rw [List.filterMap_cons,hf];exact List.mem_cons_self)
    obtain ⟨sl,e⟩:=I.base.slot L o ho (I.ok.Hw L hL) hL fun z=>I.ok.AU L z hL
    exact ⟨hk,⟨L,_,hf,hn,e,hd⟩,ih (fun b hb=>hs b (by unfold frs;rw [List.filterMap_cons,hf];exact List.mem_cons_of_mem _ hb)) hr⟩
 exact all X.outer (fun _ hb=>hb) I.ok.pC
theorem Inv.stack (I:Inv X pins σ H s):s.heap.FunFrames X.base X.stack:=by
 rcases I.ok.stk with e | ⟨e,hf⟩
 ·rw [e];exact I.pC
 ·rw [e]
  obtain ⟨m,hn,_⟩:=I.loc
  refine .cons (by rw [I.ok.kind];decide) hf hn ?_ I.pC
  exact Heap.get?_none_of_le (Nat.le_trans I.ok.GJ I.ok.above)
theorem Inv.yz (I:Inv X pins σ H s):∀ b∈frs X.stack,b∈X.env.locals :: X.fs:=fun b hb=>by
 rcases I.ok.stk with e | ⟨e,hf⟩
 ·rw [e] at hb;exact List.mem_cons_of_mem _ hb
 ·rw [e] at hb
  unfold frs at hb
  rw [List.filterMap_cons,hf] at hb
  exact hb
theorem Inv.zM (I:Inv X pins σ H s):∀ b∈frs X.stack,H b=none:=fun b hb=>by
 rcases List.mem_cons.mp (I.yz b hb) with e | hb
 ·rw [e];exact I.free
 ·obtain ⟨_,o,ho,_⟩:=I.ok.pC.mem hb
  exact I.base.free b o ho (I.ok.Hw b hb) fun z=>I.ok.AU b z hb
theorem Inv.step {g':Array GenState} {t':Nat} {d':Drawn} {ch:List Addr} (I:Inv X pins σ H s)
 (hch:∀ b∈ch,(b∈X.ex∨X.s₀.heap.objs.size≤b)∧b≠X.env.locals∧(∀ x c,X.env.cells.lookup x=some c→c≠b)∧∀ p∈X.pn ++ pins,p.1≠b)
 (keep:∀ b o,b≠X.env.locals→b∉X.fs→b∉ch→s.heap.get? b=some o→H b=none→h'.get? b=some o)
 (slot:∀ b o,b≠X.env.locals→b∈X.fs→b∉ch→s.heap.get? b=some o→H b=none→∃ sl,h'.get? b=some { o with slots:=sl }) (free:∀ b o,b∉ch→s.heap.get? b=some o→H b=none→H' b=none)
 (there:∀ b o,b∉ch→s.heap.get? b=some o→∃ o',h'.get? b=some o')
 (tups:∀ b xs,H b=some (.tup xs)→H' b=some (.tup xs)) (uH:∀ b o u,H b=some (.mK o u)→H' b=some (.mK o u)) (wm:∀ b ps,H b=some (.Ht ps)→∃ more,H' b=some (.Ht (ps ++ more)))
 (ns:∀ m,s.heap.Ns X.env.locals m→h'.Ns X.env.locals m) (hok:j3 X.prog X.w H' h') (hg:AllBare g') :
 Inv X pins σ H' { s with heap:=h',gens:=g',drawn:=d',toks:=t' }:=by
 have Ph:∀ b o,X.s₀.heap.get? b=some o→b≠X.env.locals:=fun b o e=>Nat.ne_of_lt (Nat.lt_of_lt_of_le (Heap.lt_size e) I.ok.above)
 have L4:∀ b o,X.s₀.heap.get? b=some o→b∉X.ex→b∉ch:=fun b o e hx hb=>by
  rcases (hch b hb).1 with z | z
  ·exact hx z
  ·exact absurd (Nat.lt_of_lt_of_le (Heap.lt_size e) z) (Nat.lt_irrefl _)
 have cellK:∀ x c,X.env.cells.lookup x=some c→∀ v,s.heap.IsCell c v→h'.IsCell c v:=fun x c e v ⟨o,ho,hd⟩=>by
  have J3:c∉ch:=fun z=>(hch c z).2.2.1 x c e rfl
  by_cases hc:c∈X.fs
  ·obtain ⟨sl,q⟩:=slot c o (I.Hx x c e) hc J3 ho (I.lF x c e)
   exact ⟨_,q,hd⟩
  ·exact ⟨o,keep c o (I.Hx x c e) hc J3 ho (I.lF x c e),hd⟩
 refine ⟨I.ok,I.os,hg,⟨fun b o e n hb hx=>?_,fun b o e n hb hx=>?_,fun b o e n hx=>?_,fun b o e hx=>?_,fun b xs e=>tups b xs (I.base.tups b xs e),fun b o xs e=>uH b o xs (I.base.uH b o xs e),fun b ps e=>?_⟩,?_,fun x c e=>?_,?_,fun x c e=>?_,fun p hp=>?_,hok,I.len⟩
 ·exact keep b o (Ph b o e) hb (L4 b o e hx) (I.base.keep b o e n hb hx) (I.base.free b o e n hx)
 ·obtain ⟨sl,e1⟩:=I.base.slot b o e n hb hx
  obtain ⟨QB,e2⟩:=slot b _ (Ph b o e) hb (L4 b o e hx) e1 (I.base.free b o e n hx)
  exact ⟨QB,e2⟩
 ·obtain ⟨o',e1⟩:=I.base.there b o e hx
  exact free b o' (L4 b o e hx) e1 (I.base.free b o e n hx)
 ·obtain ⟨o',e1⟩:=I.base.there b o e hx
  exact there b o' (L4 b o e hx) e1
 ·obtain ⟨m1,e1⟩:=I.base.wm b ps e
  obtain ⟨m2,e2⟩:=wm b _ e1
  exact ⟨m1 ++ m2,by rw [e2,Array.append_assoc]⟩
 ·obtain ⟨m,hn,hl⟩:=I.loc
  refine ⟨m,ns m hn,fun i x v e1 e2 e3=>?_⟩
  obtain ⟨u,r,l⟩:=hl i x v e1 e2 e3
  refine ⟨u,r,?_⟩
  rcases l with l | ⟨k,c,e,z⟩
  ·exact .inl l
  ·exact .inr ⟨k,c,e,cellK x c e _ z⟩
 ·obtain ⟨v,z⟩:=I.cell x c e
  exact ⟨v,cellK x c e v z⟩
 ·obtain ⟨m,⟨o,_,_,ho,_⟩,_⟩:=I.loc
  exact free _ o (fun z=>(hch _ z).2.1 rfl) ho I.free
 ·obtain ⟨v,o,ho,hd⟩:=I.cell x c e
  exact free c o (fun z=>(hch c z).2.2.1 x c e rfl) ho (I.lF x c e)
 ·obtain ⟨e,n,ne,nf,d⟩:=I.pin p hp
  have J3:p.1∉ch:=fun z=>(hch p.1 z).2.2.2 p hp rfl
  exact ⟨keep p.1 p.2 ne nf J3 e n,free p.1 p.2 J3 e n,ne,nf,d⟩
theorem Inv.un {t':Nat} (I:Inv X pins σ H s) (u:Un X.fs [] H H' s.heap h') (hok:j3 X.prog X.w H' h'):Inv X pins σ H' { s with heap:=h',toks:=t' }:=by
 obtain ⟨m,⟨o,es,ep,ho,r⟩,_⟩:=id I.loc
 obtain ⟨sl,hL⟩:=u.any ho I.free (by simp)
 exact I.step (g':=s.gens) (d':=s.drawn) (ch:=[]) (fun _ z=>nomatch z) (fun b o _ hb _ e n=>u.keep b o e n hb (by simp)) (fun b o _ hb _ e n=>u.slot b o e n hb (by simp)) (fun b o _ e n=>u.free b o e n (by simp)) (fun b o _ e=>u.there b o e (by simp)) u.tups u.uH u.wm (fun m' hm=>by
  obtain ⟨o',es',Hy,ho',r'⟩:=hm
  rw [ho] at ho';cases ho'
  exact ⟨_,es',Hy,hL,r'⟩) hok I.bare
theorem Inv.call {g':Array GenState} {t':Nat} {d':Drawn} {ch:List Addr} (I:Inv X pins σ H s) (u:Un (frs X.stack) ch H H' s.heap h') (hok:j3 X.prog X.w H' h') (hg:AllBare g')
 (hch:∀ b∈ch,(b∈X.ex∨X.s₀.heap.objs.size≤b)∧b≠X.env.locals∧(∀ x c,X.env.cells.lookup x=some c→c≠b)∧∀ p∈X.pn ++ pins,p.1≠b) :
 Inv X pins σ H' { s with heap:=h',gens:=g',drawn:=d',toks:=t' }:=by
 obtain ⟨m,⟨o,es,ep,ho,r⟩,_⟩:=id I.loc
 obtain ⟨sl,hL⟩:=u.any ho I.free fun z=>(hch _ z).2.1 rfl
 exact I.step (ch:=ch) hch (fun b o hL hb hc e n=>u.keep b o e n (fun z=>(List.mem_cons.mp (I.yz b z)).elim hL hb) hc) (fun b o _ _ hc e n=>u.any e n hc) (fun b o hc e n=>u.free b o e n hc) (fun b o hc e=>u.there b o e hc) u.tups u.uH u.wm (fun m' hm=>by
  obtain ⟨o',es',Hy,ho',r'⟩:=hm
  rw [ho] at ho';cases ho'
  exact ⟨_,es',Hy,hL,r'⟩) hok hg
theorem Inv.turned {t':Nat} {it:Addr} (I:Inv X pins σ H s) (k:∀ b o,b≠it→s.heap.get? b=some o→h'.get? b=some o) (hn:H it=none) (hL:it≠X.env.locals)
 (h1:it∈X.ex∨X.s₀.heap.objs.size≤it) (h2:∀ x c,X.env.cells.lookup x=some c→c≠it) (h3:∀ p∈X.pn ++ pins,p.1≠it):Inv X pins σ H { s with heap:=h',toks:=t' }:=by
 have J4:∀ b u,H b=some u→b≠it:=fun b u e z=>by rw [z,hn] at e;cases e
 refine I.step (g':=s.gens) (d':=s.drawn) (ch:=[it]) (fun b hb=>?_) (fun b o _ _ hc e _=>k b o (fun z=>hc (by simp [z])) e) (fun b o _ _ hc e _=>⟨o.slots,k b o (fun z=>hc (by simp [z])) e⟩) (fun _ _ _ _ n=>n)
  (fun b o hc e=>⟨o,k b o (fun z=>hc (by simp [z])) e⟩) (fun _ _ e=>e) (fun _ _ _ e=>e) (fun b ps e=>⟨#[],by rw [e];simp⟩) (fun m hm=>?_) (fun b u e=>?_) I.bare
 ·have e:b=it:=by simpa using hb
  subst e
  exact ⟨h1,hL,h2,h3⟩
 ·obtain ⟨o,es,ep,ho,r⟩:=hm
  exact ⟨o,es,ep,k _ o (Ne.symm hL) ho,r⟩
 ·refine (I.hok b u e).stay (fun c v hc q=>k c v ?_ q) (fun _ q=>q) fun _ _ q=>q
  rcases hc with z | z
  ·rw [z];exact J4 b u e
  ·exact J4 c _ z
theorem Inv.tok (I:Inv X pins σ H s) (t:Nat):Inv X pins σ H { s with toks:=t }:=I.un (h':=s.heap) (t':=t) Un.refl I.hok
theorem Inv.kept {t':Nat} (I:Inv X pins σ H s) (k:∀ b u,s.heap.get? b=some u→h'.get? b=some u):Inv X pins σ H { s with heap:=h',toks:=t' }:=I.un (Un.kept k) (I.hok.kept k)
theorem Inv.laid {a:Addr} {o:HO} {t':Nat} (I:Inv X pins σ H s) (k:∀ b u,s.heap.get? b=some u→h'.get? b=some u) (hp:s.heap.objs.size≤a) (new:c9 X.prog X.w (upd H a o) h' a o) :
 Inv X pins σ (upd H a o) { s with heap:=h',toks:=t' }:=I.un (Un.laid k hp (I.hok.fresh hp)) (I.hok.laid k hp new)
theorem Inv.write {x e:Addr} {o:HO} {t':Nat} (I:Inv X pins σ H s) (mu:L0 (H x)) (he:e=x∨H e=some (.own x)) (k:∀ b u,b≠e→s.heap.get? b=some u→h'.get? b=some u) (JP:∃ u,h'.get? e=some u)
 (new:c9 X.prog X.w (upd H x o) h' x o):Inv X pins σ (upd H x o) { s with heap:=h',toks:=t' }:=I.un (Un.write mu he k JP) (I.hok.write mu he k JP new)
theorem Inv.qa {GK:List (Addr ×Obj)} (I:Inv X pins σ H s) (h:∀ p∈GK,s.heap.get? p.1=some p.2∧H p.1=none∧p.1≠X.env.locals∧p.1∉X.fs∧∀ v,p.2.data≠ .cell v):Inv X GK σ H s:=
 ⟨I.ok,I.os,I.bare,I.base,I.loc,I.cell,I.free,I.lF,fun p hp=>(List.mem_append.mp hp).elim (fun z=>I.pin p (List.mem_append_left _ z)) (h p),I.hok,I.len⟩
theorem wo {N:List Str} (hN:N.Nodup) {i j:Nat} {x:Str} (a:N[i]?=some x) (b:N[j]?=some x):i=j:=by
 obtain ⟨h1,e1⟩:=List.getElem?_eq_some_iff.mp a
 obtain ⟨h2,e2⟩:=List.getElem?_eq_some_iff.mp b
 exact (List.getElem_inj hN).mp (e1.trans e2.symm)
theorem AV {M:Model} {A:Around} {E:Value→Shared→Prop} {i:Nat} {x:Str} {v:V} {u:Value} {Q:Unit→Shared→Prop} (I:Inv X pins σ H s) (hN:X.N.Nodup) (hi:X.N[i]?=some x) (hx:Loc X.env.scope x) (r:RelV v u)
 (h:∀ s',Inv X pins (σ.set i (some v)) H s'→(∃ a,Heap.SameBut a s.heap s'.heap∧(a=X.env.locals∨X.env.cells.lookup x=some a))→Q () s') (hf:X.fn x=true∨X.env.scope.names.lookup x=some .local:=by first | exact .inl rfl | exact .inr rfl | assumption):wpAny M A (storeName X.env x u) Q E s:=by
 obtain ⟨m,hn,hl⟩:=id I.loc
 have hcls:(X.env.scope.kind == .class || (X.env.scope.kind == .module && X.env.locals !=X.env.globals))=false:=by rw [I.ok.kind];rfl
 have Pj:i < σ.length:=by rw [I.len];exact (List.getElem?_eq_some_iff.mp hi).1
 have Hx:=I.Hx
 have tracked:∀ {a:Addr} {h':Heap},(∃ o,s.heap.get? a=some o∧H a=none)→Heap.SameBut a s.heap h'→j3 X.prog X.w H h':=fun {a h'} ha hs b ob e=>by
  obtain ⟨_,_,hfree⟩:=ha
  refine (I.hok b ob e).stay (fun c w' hc q=>(hs.2 c ?_).trans q) (fun _ q=>q) fun _ _ q=>q
  rintro rfl
  rcases hc with rfl | hc
  ·rw [hfree] at e;cases e
  ·rw [hfree] at hc;cases hc
 rcases hx with hk | hk
 ·refine wpAny_storeName_local hk hn (fun h' hn' hs=>?_) hcls
  obtain ⟨oL,_,_,QC,_⟩:=id hn
  refine h _ ⟨I.ok,I.os,I.bare,⟨fun b o e n hb hx=>?_,fun b o e n hb hx=>?_,I.base.free,fun b o e hx=>?_,I.base.tups,I.base.uH,I.base.wm⟩,⟨_,hn',fun j y v' e1 e2 e3=>?_⟩,fun y c e=>?_,I.free,I.lF,fun p hp=>?_,tracked ⟨oL,QC,I.free⟩ hs,by simpa using I.len⟩ ⟨_,hs,.inl rfl⟩
  ·exact (hs.2 b (Nat.ne_of_lt (Nat.lt_of_lt_of_le (Heap.lt_size e) I.ok.above))).trans (I.base.keep b o e n hb hx)
  ·obtain ⟨sl,e1⟩:=I.base.slot b o e n hb hx
   exact ⟨sl,(hs.2 b (Nat.ne_of_lt (Nat.lt_of_lt_of_le (Heap.lt_size e) I.ok.above))).trans e1⟩
  ·obtain ⟨o',e1⟩:=I.base.there b o e hx
   exact ⟨o',(hs.2 b (Nat.ne_of_lt (Nat.lt_of_lt_of_le (Heap.lt_size e) I.ok.above))).trans e1⟩
  ·by_cases hj:j=i
   ·subst hj
    rw [hi] at e1;cases e1
    rw [List.getElem?_set_self Pj] at e2
    cases e2
    exact ⟨u,r,.inl ⟨hk,by simp⟩⟩
   ·rw [List.getElem?_set_ne (Ne.symm hj)] at e2
    obtain ⟨u',r',q⟩:=hl j y v' e1 e2 e3
    refine ⟨u',r',?_⟩
    rcases q with ⟨k,e⟩ | ⟨k,c,e,z⟩
    ·refine .inl ⟨k,?_⟩
     have:y≠x:=fun e=>hj (wo hN e1 (e▸hi))
     simp [this,e]
    ·exact .inr ⟨k,c,e,z.sameBut hs (Hx y c e)⟩
  ·obtain ⟨w',z⟩:=I.cell y c e
   exact ⟨w',z.sameBut hs (Hx y c e)⟩
  ·obtain ⟨e,n,ne,nf,d⟩:=I.pin p hp
   exact ⟨(hs.2 p.1 ne).trans e,n,ne,nf,d⟩
 ·have hfn:X.fn x=true:=by
   rcases hf with z | z
   ·exact z
   ·rw [z] at hk;cases hk
  obtain ⟨c,hc⟩:=I.ok.has x (.inl hk)
  obtain ⟨w',z⟩:=I.cell x c hc
  refine wpAny_storeName_cell I.ok.kind hk hc z (fun h' hc' hs=>?_)
  obtain ⟨oc,hoc,MM⟩:=id z
  refine h { s with heap:=h' } ⟨I.ok,I.os,I.bare,⟨fun b o e n hb hx=>?_,fun b o e n hb hx=>?_,I.base.free,fun b o e hx=>?_,I.base.tups,I.base.uH,I.base.wm⟩,⟨m,hn.sameBut hs (Ne.symm (Hx x c hc)),fun j y v' e1 e2 e3=>?_⟩,fun y c' e=>?_,I.free,I.lF,fun p hp=>?_,tracked ⟨oc,hoc,I.lF x c hc⟩ hs,by simpa using I.len⟩ ⟨c,hs,.inr hc⟩
  ·exact (hs.2 b (Nat.ne_of_lt (Nat.lt_of_lt_of_le (Heap.lt_size e) (I.ok.JQ x c hfn hc)))).trans (I.base.keep b o e n hb hx)
  ·obtain ⟨sl,e1⟩:=I.base.slot b o e n hb hx
   exact ⟨sl,(hs.2 b (Nat.ne_of_lt (Nat.lt_of_lt_of_le (Heap.lt_size e) (I.ok.JQ x c hfn hc)))).trans e1⟩
  ·obtain ⟨o',e1⟩:=I.base.there b o e hx
   exact ⟨o',(hs.2 b (Nat.ne_of_lt (Nat.lt_of_lt_of_le (Heap.lt_size e) (I.ok.JQ x c hfn hc)))).trans e1⟩
  ·by_cases hj:j=i
   ·subst hj
    rw [hi] at e1;cases e1
    rw [List.getElem?_set_self Pj] at e2
    cases e2
    exact ⟨u,r,.inr ⟨.inl hk,c,hc,hc'⟩⟩
   ·rw [List.getElem?_set_ne (Ne.symm hj)] at e2
    obtain ⟨u',r',q⟩:=hl j y v' e1 e2 e3
    refine ⟨u',r',?_⟩
    rcases q with q | ⟨k,c',e,z'⟩
    ·exact .inl q
    ·refine .inr ⟨k,c',e,z'.sameBut hs ?_⟩
     rintro rfl
     exact hj (wo hN e1 (I.ok.inj _ _ _ e hc▸hi))
  ·by_cases hcc:c'=c
   ·subst hcc;exact ⟨_,hc'⟩
   ·obtain ⟨w2,z2⟩:=I.cell y c' e
    exact ⟨w2,z2.sameBut hs hcc⟩
  ·obtain ⟨e,n,ne,nf,d⟩:=I.pin p hp
   refine ⟨(hs.2 p.1 ?_).trans e,n,ne,nf,d⟩
   intro q
   rw [q,hoc] at e
   have q':oc=p.2:=Option.some.inj e
   exact d w' (by rw [← q'];exact MM)
theorem mO {M:Model} {A:Around} {E:Value→Shared→Prop} {i:Nat} {x:Str} {v:V} {u:Value} {Q:Unit→Shared→Prop} (I:Inv X pins σ H s) (hN:X.N.Nodup) (hi:X.N[i]?=some x) (hx:Loc X.env.scope x) (r:RelV v u)
 (h:∀ s',Inv X pins (σ.set i (some v)) H s'→Q () s') (hf:X.fn x=true∨X.env.scope.names.lookup x=some .local:=by first | exact .inl rfl | exact .inr rfl | assumption):wpAny M A (storeName X.env x u) Q E s:=
 AV I hN hi hx r (fun s' I' _=>h s' I') hf
theorem Inv.J5 {s':Shared} {ch:List Addr} (I:Inv X pins σ H s) (ho:s'.os=s.os) (u:Un (frs X.stack) ch H H' s.heap s'.heap) (hok:j3 X.prog X.w H' s'.heap) (hg:AllBare s'.gens)
 (hch:∀ b∈ch,(b∈X.ex∨X.s₀.heap.objs.size≤b)∧b≠X.env.locals∧(∀ x c,X.env.cells.lookup x=some c→c≠b)∧∀ p∈X.pn ++ pins,p.1≠b):Inv X pins σ H' s':=by
 obtain ⟨h',g',d',t',o'⟩:=s'
 have e:o'=s.os:=ho
 subst e
 exact I.call (g':=g') (t':=t') (d':=d') u hok hg hch
end
abbrev XK:=Value→Option Addr→Hp→Prop
abbrev St:=List (Option V)
abbrev VK:=V→Hp→Prop
abbrev TE:=St→Hp→VK→Prop
abbrev TT:=St→Hp→(Bool→Hp→Prop)→Prop
abbrev TA:=St→Hp→(List V→Hp→Prop)→Prop
structure Ends where
 nx:St→Hp→Prop
 rt:VK
 bk:St→Hp→Prop:=fun _ _=>False
 ct:St→Hp→Prop:=fun _ _=>False
abbrev TS:=Ends→St→Hp→Prop
def EP (X:Cx) (pins:List (Addr ×Obj)) (σ:St) (Q:VK) (u:Value) (s':Shared):Prop:= ∃ v H',Inv X pins σ H' s'∧RelV v u∧Q v H'
def TP (X:Cx) (pins:List (Addr ×Obj)) (σ:St) (Q:Bool→Hp→Prop) (b:Bool) (s':Shared):Prop:= ∃ H',Inv X pins σ H' s'∧Q b H'
def AP (X:Cx) (pins:List (Addr ×Obj)) (σ:St) (Q:List V→Hp→Prop) (us:List Value) (s':Shared):Prop:= ∃ vs H',Inv X pins σ H' s'∧Vals vs us∧Q vs H'
def SP (X:Cx) (pins:List (Addr ×Obj)) (D:Ends) (f:Flow) (s':Shared):Prop:=
 match f with
 | .next=> ∃ σ' H',Inv X pins σ' H' s'∧D.nx σ' H'
 | .brk=> ∃ σ' H',Inv X pins σ' H' s'∧D.bk σ' H'
 | .cont=> ∃ σ' H',Inv X pins σ' H' s'∧D.ct σ' H'
 | .ret u=> ∃ v σ' H',Inv X pins σ' H' s'∧RelV v u∧D.rt v H'
def PE (X:Cx) (e:Expr) (t:TE):Prop:=
 ∀ (pins:List (Addr ×Obj)) (s:Shared) (σ:St) (H:Hp) (Q:VK),Inv X pins σ H s→t σ H Q→wpAny (model X.prog X.w) X.A (eval e X.env) (EP X pins σ Q) X.xe s
def PT (X:Cx) (e:Expr) (t:TT):Prop:=
 ∀ (pins:List (Addr ×Obj)) (s:Shared) (σ:St) (H:Hp) (Q:Bool→Hp→Prop),Inv X pins σ H s→t σ H Q→wpAny (model X.prog X.w) X.A (isTrue e X.env (eval e X.env)) (TP X pins σ Q) X.xe s
def PW (X:Cx) (e:Expr) (t:TT):Prop:=
 ∀ (whole:Sem Value) (pins:List (Addr ×Obj)) (s:Shared) (σ:St) (H:Hp) (Q:Bool→Hp→Prop),Inv X pins σ H s→t σ H Q→wpAny (model X.prog X.w) X.A (isTrue e X.env whole) (TP X pins σ Q) X.xe s
def PA (X:Cx) (es:List Expr) (t:TA):Prop:=
 ∀ (pos:Pos) (pins:List (Addr ×Obj)) (s:Shared) (σ:St) (H:Hp) (Q:List V→Hp→Prop),Inv X pins σ H s→t σ H Q→wpAny (model X.prog X.w) X.A (spliced (backTo pos (starEach es X.env))) (AP X pins σ Q) X.xe s
def PS (X:Cx) (st:Stmt) (t:TS):Prop:=
 ∀ (pins:List (Addr ×Obj)) (s:Shared) (σ:St) (H:Hp) (D:Ends),Inv X pins σ H s→t D σ H→wpAny (model X.prog X.w) X.A (exec st X.env) (SP X pins D) X.xe s
def yC (X:Cx) (st:List Stmt) (t:TS):Prop:=
 ∀ (pins:List (Addr ×Obj)) (s:Shared) (σ:St) (H:Hp) (D:Ends),Inv X pins σ H s→t D σ H→wpAny (model X.prog X.w) X.A (execs st X.env) (SP X pins D) X.xe s
theorem dc {α:Type} {t:Sem α} {Q Q':α→Shared→Prop} {M:Model} {A:Around} {E:Value→Shared→Prop} {s:Shared} (h:wpAny M A t Q E s) (hQ:∀ a s,Q a s→Q' a s):wpAny M A t Q' E s:=wpAny_mono h hQ fun _ _ x=>x
end L2
namespace L2
open PySem PySem.Spec PyProof.Rows
section
variable {X:Cx}
def MN (i:Nat):TE:=fun σ H Q=> ∃ v,σ[i]?=some (some v)∧Q v H
def tC (v:V):TE:=fun _ H Q=>Q v H
theorem Hz {i:Nat} {x:Str} {pos:Pos} (hN:X.N[i]?=some x) (hv:MJ X.env.scope x) (hd:(x == ("__debug__" :Str))=false:=by decide) (hcd:(x == ("__classdict__" :Str))=false:=by decide):PE X (.Name x pos) (MN i):=by
 intro pins s σ H Q I h
 obtain ⟨v,e,h⟩:=h
 obtain ⟨m,hn,hl⟩:=I.loc
 obtain ⟨u,r,l⟩:=hl i x v hN e hv
 have fin:EP X pins σ Q u s:=⟨v,H,I,r,h⟩
 rcases l with ⟨hk,hm⟩ | ⟨hk,c,hc,hcell⟩
 ·exact wpAny_Name (wpAny_loadName_local I.ok.kind hk hn hm fin) hd
 ·rcases hk with hk | hk
  ·exact wpAny_Name (wpAny_loadName_cell I.ok.kind hk hc hcell fin) hd
  ·exact wpAny_Name (wpAny_loadName_free I.ok.kind hk hc hcell fin hcd) hd
theorem HA {i j pos}:PE X (.Constant (.int i) j pos) (tC (.int i)):=fun _ _ _ H _ I h=>wpAny_Constant_int ⟨.int i,H,I.tok _,⟨_,rfl⟩,h⟩
theorem J6 {b j pos}:PE X (.Constant (.bool b) j pos) (tC (.bl b)):=fun _ _ _ H _ I h=>Constant_bool ⟨.bl b,H,I,rfl,h⟩
theorem HB {j pos}:PE X (.Constant .none j pos) (tC .bA):=fun _ _ _ H _ I h=>Constant_none ⟨.bA,H,I,rfl,h⟩
def Gl (X:Cx) (x:Str):Prop:=X.env.kindOf x=some .globalImplicit
theorem EF {E:Value→Shared→Prop} {pins:List (Addr ×Obj)} {s:Shared} {σ:St} {H:Hp} {x:Str} {u:Value} {pos:Pos} {Q:Value→Shared→Prop} (I:Inv X pins σ H s) (hg:Gl X x) (hm:X.mg x=some u) (h:Q u s)
 (hd:(x == ("__debug__" :Str))=false:=by decide):wpAny (model X.prog X.w) X.A (eval (.Name x pos) X.env) Q E s:=
 Calls.Name_function_global I.ok.kind hg (Calls.loadGlobal_global (by rw [I.ok.glob];exact I.mod.glob.keeps I.bk) hm h) hd
theorem iC {E:Value→Shared→Prop} {pins:List (Addr ×Obj)} {s:Shared} {σ:St} {H:Hp} {x:Str} {u:Value} {pos:Pos} {Q:Value→Shared→Prop} (I:Inv X pins σ H s) (hg:Gl X x) (hm:X.mg x=none) (hv:bootBuiltins x=some u) (h:Q u s)
 (hn:x≠"__name__" :=by decide) (hd:(x == ("__debug__" :Str))=false:=by decide):wpAny (model X.prog X.w) X.A (eval (.Name x pos) X.env) Q E s:=by
 obtain ⟨mb,h1,h2⟩:=I.mod.blt
 exact Calls.Name_function_global I.ok.kind hg (Calls.loadGlobal_builtin (by rw [I.ok.glob];exact I.mod.glob.keeps I.bk) hm (by rw [I.ok.blt];exact h1.keeps I.bk) ((h2 x hn).trans hv) h) hd
theorem EG {x:Str} {v:V} {u:Value} {pos:Pos} (hg:Gl X x) (hm:X.mg x=none) (hv:bootBuiltins x=some u) (r:RelV v u) (hn:x≠"__name__" :=by decide) (hd:(x == ("__debug__" :Str))=false:=by decide):PE X (.Name x pos) (tC v):=
 fun _ _ _ H _ I h=>iC I hg hm hv ⟨v,H,I,r,h⟩ hn hd
variable {a b:Expr} {ta tb:TE} {pos:Pos}
def tB (t:TE):TT:=fun σ H Q=>t σ H fun x H1=> ∃ c,x= .bl c∧Q c H1
variable {tA L5:TT} {rest:List Expr}
def MP (t u:TT):TT:=fun σ H Q=>t σ H fun c H1=>if c=true then u σ H1 Q else Q false H1
def QD (t u:TT):TT:=fun σ H Q=>t σ H fun c H1=>if c=true then Q true H1 else u σ H1 Q
def MQ (t:TT):TT:=fun σ H Q=>t σ H fun c H1=>Q (!c) H1
theorem pw_and1 (ha:PT X a tA):PW X (.BoolOp .And [a] pos) tA:=by
 intro wh pins s σ H Q I h
 refine isTrue_and (dc (ha pins s σ H Q I h) fun c s1 e=>?_)
 cases c with
 | true=>exact isTrue_and_nil e
 | false=>exact e
theorem pw_or1 (ha:PT X a tA):PW X (.BoolOp .Or [a] pos) tA:=by
 intro wh pins s σ H Q I h
 refine isTrue_or (dc (ha pins s σ H Q I h) fun c s1 e=>?_)
 cases c with
 | false=>exact isTrue_or_nil e
 | true=>exact e
theorem pw_and (ha:PT X a tA) (hb:PW X (.BoolOp .And (b :: rest) pos) L5):PW X (.BoolOp .And (a :: b :: rest) pos) (MP tA L5):=by
 intro wh pins s σ H Q I h
 refine isTrue_and (dc (ha pins s σ H _ I h) fun c s1 ⟨H1,I1,q1⟩=>?_)
 cases c with
 | true=>exact hb wh pins s1 σ H1 Q I1 q1
 | false=>exact ⟨H1,I1,q1⟩
theorem pw_or (ha:PT X a tA) (hb:PW X (.BoolOp .Or (b :: rest) pos) L5):PW X (.BoolOp .Or (a :: b :: rest) pos) (QD tA L5):=by
 intro wh pins s σ H Q I h
 refine isTrue_or (dc (ha pins s σ H _ I h) fun c s1 ⟨H1,I1,q1⟩=>?_)
 cases c with
 | true=>exact ⟨H1,I1,q1⟩
 | false=>exact hb wh pins s1 σ H1 Q I1 q1
theorem HC (ha:PT X a tA):PT X (.UnaryOp .Not a pos) (MQ tA):=by
 intro pins s σ H Q I h
 exact isTrue_not (ha pins s σ H (fun c H1=>Q (!c) H1) I h)
def J7 (ta tb:TE):TE:=fun σ H Q=>ta σ H fun x H1=> ∃ c,x= .bl c∧if c=true then tb σ H1 Q else Q (.bl false) H1
def J8 (ta:TE):TE:=fun σ H Q=>ta σ H fun x H1=> ∃ c,x= .bl c∧Q (.bl (!c)) H1
theorem HE (ha:PE X a ta) (hb:PE X (.BoolOp .And (b :: rest) pos) tb):PE X (.BoolOp .And (a :: b :: rest) pos) (J7 ta tb):=by
 intro pins s σ H Q I h
 refine BoolOp_and (dc (ha pins s σ H _ I h) fun v s1 ⟨x,H1,I1,r1,q1⟩=>?_)
 obtain ⟨c,rfl,q1⟩:=q1
 cases r1
 refine wpAny_truthy_bool ?_
 cases c with
 | true=>exact hb pins s1 σ H1 Q I1 q1
 | false=>exact ⟨.bl false,H1,I1,rfl,q1⟩
theorem HF (ha:PE X a ta):PE X (.UnaryOp .Not a pos) (J8 ta):=by
 intro pins s σ H Q I h
 refine UnaryOp_ (dc (ha pins s σ H _ I h) fun v s1 ⟨x,H1,I1,r1,q1⟩=>?_)
 obtain ⟨c,rfl,q1⟩:=q1
 cases r1
 exact not_of (wpAny_truthy_bool ⟨.bl (!c),H1,I1,rfl,q1⟩)
def QE (t:TT) (ta tb:TE):TE:=fun σ H Q=>t σ H fun c H1=>if c=true then ta σ H1 Q else tb σ H1 Q
theorem B8 {c:Expr} (hc:PT X c tA) (ha:PE X a ta) (hb:PE X b tb):PE X (.IfExp c a b pos) (QE tA ta tb):=by
 intro pins s σ H Q I h
 refine wpAny_IfExp (dc (hc pins s σ H _ I h) fun d s1 ⟨H1,I1,q1⟩=>?_)
 cases d with
 | true=>exact ha pins s1 σ H1 Q I1 q1
 | false=>exact hb pins s1 σ H1 Q I1 q1
end
end L2
namespace L2
open PySem PySem.Spec PyProof.Rows
def iD (K:PySem.W.Frag) (H:Hp) (a:Addr) (xs:List V):Prop:=
 Rd H a (.lst xs)∨
  ∃ (o:Obj) (its:Array Value) (n:Nat),K.lookup a=some o∧o.cls= .type "list"∧o.dict=none∧o.data= .seq its n∧its.size≤sizeLine∧Vals xs its.toList
def Eu (K:PySem.W.Frag) (H:Hp) (a:Addr) (xs:List V):Prop:=
 Rd H a (.tup xs)∨
  ∃ (o:Obj) (its:Array Value) (n:Nat),K.lookup a=some o∧o.cls= .type "tuple"∧o.data= .seq its n∧its.size≤sizeLine∧Vals xs its.toList
def J9:Value→Option V
 | .none=>some .bA
 | .bool b=>some (.bl b)
 | .int i _=>some (.int i)
 | .str x _=>some (.str x)
 | .bytes b _=>some (.B6 b)
 | .float b _=>some (.JO b)
 | .ref a=>some (.ref a)
 | .type n=>some (.ty n)
 | _=>none
theorem RelV.abs {x:V} {u:Value} (r:RelV x u):J9 u=some x:=by
 cases x with
 | bA=>cases r;rfl
 | bl _=>cases r;rfl
 | int _=>obtain ⟨t,rfl⟩:=r;rfl
 | str _=>obtain ⟨t,rfl⟩:=r;rfl
 | B6 _=>obtain ⟨t,rfl⟩:=r;rfl
 | JO _=>obtain ⟨t,rfl⟩:=r;rfl
 | ref _=>cases r;rfl
 | ty _=>cases r;rfl
theorem RelV.inj {x y:V} {u:Value} (r:RelV x u) (q:RelV y u):x=y:=Option.some.inj (r.abs.symm.trans q.abs)
theorem Vals.inj:∀ {xs ys:List V} {us:List Value},Vals xs us→Vals ys us→xs=ys
 | _,_,_,.nil,.nil=>rfl
 | _,_,_,.cons r t,.cons r' t'=>by rw [r.inj r',Vals.inj t t']
section
variable {X:Cx} {pins:List (Addr ×Obj)} {σ:St} {H:Hp} {s:Shared} {a:Addr} {xs ys:List V}
theorem iD.of {K:PySem.W.Frag} (h:H a=some (.lst xs)):iD K H a xs:= .inl (.inl h)
theorem Eu.of {K:PySem.W.Frag} (h:H a=some (.tup xs)):Eu K H a xs:= .inl (.inl h)
theorem Inv.list (I:Inv X pins σ H s) (h:iD X.K H a xs):∃ its:List Value,Vals xs its∧PlainL s.heap a its.toArray∧xs.length≤sizeLine:=by
 rcases h with h | ⟨o,its,n,hk,hc,hd,hs,hz,r⟩
 ·obtain ⟨z,its,n,r,e⟩:=h.ok I.hok
  exact ⟨its,r,⟨_,n,e,rfl,rfl,rfl⟩,z⟩
 ·refine ⟨its.toList,r,⟨o,n,I.we a o hk,hc,hd,by simpa using hs⟩,?_⟩
  have e:=r.length
  simp only [Array.length_toList] at e
  omega
theorem Inv.tuple (I:Inv X pins σ H s) (h:Eu X.K H a xs):∃ its:List Value,Vals xs its∧IsTup s.heap a its.toArray∧xs.length≤sizeLine:=by
 rcases h with h | ⟨o,its,n,hk,hc,hs,hz,r⟩
 ·obtain ⟨z,its,r,p⟩:=h.ok I.hok
  exact ⟨its,r,p,z⟩
 ·refine ⟨its.toList,r,⟨o,I.we a o hk,hc,n,by simpa using hs⟩,?_⟩
  have e:=r.length
  simp only [Array.length_toList] at e
  omega
theorem Inv.B9 (I:Inv X pins σ H s) (h:iD X.K H a xs) (h':iD X.K H a ys):xs=ys:=by
 obtain ⟨its,r,⟨o,n,e,_,_,d⟩,_⟩:=I.list h
 obtain ⟨its',r',⟨o',n',e',_,_,d'⟩,_⟩:=I.list h'
 rw [e] at e';cases e'
 rw [d] at d'
 injection d' with d1 _
 have:its=its':=by simpa using congrArg Array.toList d1
 subst this
 exact r.inj r'
end
abbrev Cx.sr (X:Cx) (E:Value→Shared→Prop):Cx:={ X with xe:=E }
abbrev Cx.Ew (X:Cx):Cx:=X.sr fun _ _=>False
theorem Cx.Ok.sr {X:Cx} (ok:X.Ok) (E:Value→Shared→Prop):(X.sr E).Ok:=
 ⟨ok.mod,ok.kind,ok.glob,ok.blt,ok.above,ok.inj,ok.has,ok.JQ,ok.hd,ok.frames,ok.stk,ok.J2,ok.bs,ok.GJ,ok.AS,ok.AU,ok.pC,ok.Hw⟩
theorem Cx.Ok.kc {X:Cx} {E:Value→Shared→Prop} (ok:(X.sr E).Ok):X.Ok:=
 ⟨ok.mod,ok.kind,ok.glob,ok.blt,ok.above,ok.inj,ok.has,ok.JQ,ok.hd,ok.frames,ok.stk,ok.J2,ok.bs,ok.GJ,ok.AS,ok.AU,ok.pC,ok.Hw⟩
section
variable {X:Cx} {pins:List (Addr ×Obj)} {σ:St} {H:Hp} {s:Shared} {E:Value→Shared→Prop}
theorem Inv.sr (I:Inv X pins σ H s) (E:Value→Shared→Prop):Inv (X.sr E) pins σ H s:=⟨I.ok.sr E,I.os,I.bare,I.base,I.loc,I.cell,I.free,I.lF,I.pin,I.hok,I.len⟩
theorem Inv.kc (I:Inv (X.sr E) pins σ H s):Inv X pins σ H s:=⟨I.ok.kc,I.os,I.bare,I.base,I.loc,I.cell,I.free,I.lF,I.pin,I.hok,I.len⟩
theorem SP.kc {D:Ends} {f:Flow} {s':Shared} (h:SP (X.sr E) pins D f s'):SP X pins D f s':=by
 cases f with
 | next=>obtain ⟨σ',H',I,q⟩:=h;exact ⟨σ',H',I.kc,q⟩
 | brk=>obtain ⟨σ',H',I,q⟩:=h;exact ⟨σ',H',I.kc,q⟩
 | cont=>obtain ⟨σ',H',I,q⟩:=h;exact ⟨σ',H',I.kc,q⟩
 | ret u=>obtain ⟨v,σ',H',I,r,q⟩:=h;exact ⟨v,σ',H',I.kc,r,q⟩
theorem yC.Ew {st:List Stmt} {t:TS} (h:yC X.Ew st t):yC X st t:=fun pins s σ H D I hw=>
 wpAny_mono (h pins s σ H D (I.sr _) hw) (fun _ _ q=>q.kc) fun _ _ z=>False.elim z
end
section
variable {X:Cx} {st:Stmt} {rest:List Stmt} {t u:TS} {e:Expr} {te:TE} {pos:Pos}
def Ka:TS:=fun D σ H=>D.nx σ H
def MR (t u:TS):TS:=fun D σ H=>t { D with nx:=u D } σ H
theorem EH:yC X [] Ka:=fun _ _ σ H _ I h=>wpAny_execs_nil ⟨σ,H,I,h⟩
theorem Ca (h1:PS X st t) (h2:yC X rest u):yC X (st :: rest) (MR t u):=by
 intro pins s σ H D I h
 refine wpAny_execs_cons (dc (h1 pins s σ H { D with nx:=u D } I h) fun f s1 q=>?_)
 cases f with
 | next=>
   obtain ⟨σ',H',I',q⟩:=q
   exact h2 pins s1 σ' H' D I' q
 | ret v=>exact q
 | brk=>exact q
 | cont=>exact q
theorem EI (h1:PS X st t):yC X [st] t:=by
 intro pins s σ H D I h
 refine wpAny_execs_cons (dc (h1 pins s σ H D I h) fun f s1 q=>?_)
 cases f with
 | next=>exact wpAny_execs_nil q
 | ret v=>exact q
 | brk=>exact q
 | cont=>exact q
theorem Inv.quiet {pins:List (Addr ×Obj)} {σ:St} {H:Hp} {s:Shared} (I:Inv X pins σ H s):interactive X.env=false:=by simp [interactive,I.ok.kind]
def Kc (te:TE):TS:=fun D σ H=>te σ H fun _ H1=>D.nx σ H1
theorem EJ (he:PE X e te) (hs:swapsWith e none pos.line X.env=pure false:=by rfl):PS X (.Expr e pos) (Kc te):=by
 intro pins s σ H D I h
 exact wpAny_Expr_any (dc (he pins s σ H _ I h) fun v s1 ⟨x,H1,I1,r1,q1⟩=>⟨σ,H1,I1,q1⟩) I.quiet hs
def MS (te:TE):TS:=fun D σ H=>te σ H D.rt
theorem HG (he:PE X e te):PS X (.Return (some e) pos) (MS te):=by
 intro pins s σ H D I h
 exact wpAny_Return_some (dc (he pins s σ H _ I h) fun v s1 ⟨x,H1,I1,r1,q1⟩=>⟨x,σ,H1,I1,r1,q1⟩)
def MT (c:TT) (t u:TS):TS:=fun D σ H=>c σ H fun b H1=>if b=true then t D σ H1 else u D σ H1
theorem Kd {c:Expr} {a b:List Stmt} {tc:TT} (hc:PT X c tc) (ha:yC X a t) (hb:yC X b u):PS X (.If c a b pos) (MT tc t u):=by
 intro pins s σ H D I h
 refine wpAny_If (dc (hc pins s σ H _ I h) fun d s1 ⟨H1,I1,q1⟩=>?_)
 cases d with
 | true=>exact ha pins s1 σ H1 D I1 q1
 | false=>exact hb pins s1 σ H1 D I1 q1
end
abbrev TG:=V→St→Hp→(St→Hp→Prop)→Prop
def PG (X:Cx) (target:Expr) (t:TG):Prop:=
 ∀ (pins:List (Addr ×Obj)) (s:Shared) (σ:St) (H:Hp) (v:V) (u:Value) (Q:St→Hp→Prop),Inv X pins σ H s→RelV v u→t v σ H Q→
   wpAny (model X.prog X.w) X.A (assign target X.env u) (fun _ s'=> ∃ σ' H',Inv X pins σ' H' s'∧Q σ' H') X.xe s
section
variable {X:Cx} {pos:Pos}
def GL (i:Nat):TG:=fun v σ H Q=>Q (σ.set i (some v)) H
theorem EK {i:Nat} {x:Str} (hN:X.N.Nodup) (hi:X.N[i]?=some x) (hx:Loc X.env.scope x) (hf:X.fn x=true∨X.env.scope.names.lookup x=some .local:=by first | exact .inl rfl | exact .inr rfl | assumption):PG X (.Name x pos) (GL i):=by
 intro pins s σ H v u Q I r h
 exact wpAny_assign_Name (mO I hN hi hx r (fun s' I'=>⟨_,H,I',h⟩) hf)
def MU (te:TE) (g:TG):TS:=fun D σ H=>te σ H fun x H1=>g x σ H1 D.nx
theorem HH {i:Nat} {x:Str} {e:Expr} {te:TE} {pos':Pos} (hN:X.N.Nodup) (hi:X.N[i]?=some x) (hx:Loc X.env.scope x) (he:PE X e te) (hs:swapsWith e (some (.Name x pos')) pos.line X.env=pure false:=by rfl) (hf:X.fn x=true∨X.env.scope.names.lookup x=some .local:=by first | exact .inl rfl | exact .inr rfl | assumption) :
 PS X (.Assign [.Name x pos'] e pos) (MU te (GL i)):=by
 intro pins s σ H D I h
 refine wpAny_Assign_Name (dc (he pins s σ H _ I h) fun v s1 ⟨y,H1,I1,r1,q1⟩=>?_) hs
 exact mO I1 hN hi hx r1 (fun s2 I2=>⟨_,H1,I2,q1⟩) hf
def MV (i j:Nat) (ta:TA):TS:=fun D σ H=>ta σ H fun vs H1=> ∃ v w,vs= [v,w]∧D.nx ((σ.set i (some v)).set j (some w)) H1
theorem HJ {i j:Nat} {x y:Str} {a b:Expr} {ta:TA} {px py pt:Pos} {kt k2 tL} (hc:X.calm=true) (hN:X.N.Nodup) (hi:X.N[i]?=some x) (hj:X.N[j]?=some y) (hij:i≠j)
 (hx:X.env.scope.names.lookup x=some .local) (hy:X.env.scope.names.lookup y=some .local) (ha:PA X [a,b] ta)
 (hw:swappedStores [.Tuple [.Name x px,.Name y py] kt pt] (.Tuple [a,b] k2 tL) X.env=pure (some [x,y]))
 (hs:swapsWithSole [.Tuple [.Name x px,.Name y py] kt pt] (.Tuple [a,b] k2 tL) pos.line X.env=pure false:=by rfl) :
 PS X (.Assign [.Tuple [.Name x px,.Name y py] kt pt] (.Tuple [a,b] k2 tL) pos) (MV i j ta):=by
 intro pins s σ H D I h
 rw [exec_Assign_arm]
 refine wpAny_bind (wpAny_standAt ?_)
 rw [hs]
 refine wpAny_bind (wpAny_pure ?_)
 rw [if_neg (by decide)]
 refine wpAny_bind (Tuple_ (dc (ha _ pins s σ H _ I h) fun us s1 ⟨vs,H1,I1,r1,q1⟩=>?_))
 obtain ⟨v,w,e1,q1⟩:=q1
 subst e1
 obtain ⟨u1,u2,rfl,rv,rw'⟩:∃ u1 u2,us= [u1,u2]∧RelV v u1∧RelV w u2:=by
  cases r1 with
  | cons p q=>
    cases q with
    | cons p' q'=>
      cases q'
      exact ⟨_,_,rfl,p,p'⟩
 refine wpAny_newObj_type ?_ (by show 2≤sizeLine;decide)
 have I2:Inv X pins σ H1 { s1 with heap:=s1.heap.push { cls:= .type "tuple",data:= .seq [u1,u2].toArray } }:=I1.kept (t':=s1.toks) fun b o e=>Heap.get?_push_of_some _ e
 rw [hw]
 refine wpAny_bind (wpAny_pure ?_)
 show wpAny (model X.prog X.w) X.A (do rule "assign.swapped-stores";let items ← unpackItems (.ref s1.heap.objs.size) 2 none;assignInOrder [fun v=>bindName X.env y v,fun v=>bindName X.env x v] items.reverse;pure Flow.next) _ _ _
 refine wpAny_bind (wpAny_rule (wpAny_bind (unpackItems_tuple (items:= #[u1,u2]) (I.ok.hd hc) (IsTup.new s1.heap _) fun h' hx'=>?_)))
 have I3:=I2.kept (h':=h') (t':=s1.toks) fun b o e=>hx' b o (Nat.ne_of_lt (Heap.lt_size e)) e
 show wpAny _ _ (assignInOrder [fun v=>bindName X.env y v,fun v=>bindName X.env x v] [u2,u1] >>= fun _=>pure Flow.next) _ _ _
 refine wpAny_bind (assignInOrder_cons (wpAny_bindName (mO I3 hN hj (.inl hy) rw' (fun s2 I4=>?_) (.inr hy))))
 refine assignInOrder_cons (wpAny_bindName (mO I4 hN hi (.inl hx) rv (fun s3 I5=>assignInOrder_nil (wpAny_pure ?_)) (.inr hx)))
 rw [List.set_comm _ _ (Ne.symm hij)] at I5
 exact ⟨_,H1,I5,q1⟩
end
section
variable {X:Cx} {pos:Pos}
def HK (c:TT) (tb:TS):TS:=fun D σ H=> ∃ W:Nat→St→Hp→Prop,(∃ m,W m σ H)∧∀ m σ H,W m σ H→
 c σ H fun b H1=>if b=true then ∃ N:St→Hp→Prop,(∀ σ' H',N σ' H'→∃ m',m' < m∧W m' σ' H')∧tb { D with nx:=N,ct:=N,bk:=D.nx } σ H1 else D.nx σ H1
theorem Cb {c:Expr} {body:List Stmt} {tc:TT} {tb:TS} (hp:PassesOwn (model X.prog X.w) X.A X.env X.xe) (hc:PT X c tc) (hb:yC X body tb):PS X (.While c body [] pos) (HK tc tb):=by
 intro pins s σ H D I h
 obtain ⟨W,⟨m0,w0⟩,turn⟩:=h
 refine wpAny_While (codeAny_whileLoop (fun n s'=> ∃ σ' H',Inv X pins σ' H' s'∧W n σ' H') ?_ m0 ⟨σ,H,I,w0⟩)
 rintro n s1 ⟨σ1,H1,I1,w1⟩
 refine wpAny_passesOwn hp (dc (hc pins s1 σ1 H1 _ I1 (turn n σ1 H1 w1)) fun b s2 ⟨H2,I2,q2⟩=>?_)
 cases b with
 | true=>
   obtain ⟨N,hN,q2⟩:=q2
   rw [if_pos rfl]
   refine wpAny_passesOwn hp (dc (hb pins s2 σ1 H2 _ I2 q2) fun f s3 q3=>?_)
   cases f with
   | next=>
     obtain ⟨σ3,H3,I3,n3⟩:=q3
     obtain ⟨m',hm,w3⟩:=hN σ3 H3 n3
     exact ⟨m',hm,σ3,H3,I3,w3⟩
   | cont=>
     obtain ⟨σ3,H3,I3,n3⟩:=q3
     obtain ⟨m',hm,w3⟩:=hN σ3 H3 n3
     exact ⟨m',hm,σ3,H3,I3,w3⟩
   | brk=>exact q3
   | ret v=>exact q3
 | false=>
   rw [if_neg Bool.false_ne_true]
   exact wpAny_execs_nil ⟨σ1,H2,I2,q2⟩
end
structure It where
 go:Nat→Hp→Prop
 EL:Nat→Hp→V→Hp→Prop
 stop:Nat→Hp→Prop
def j4 (X:Cx) (pins:List (Addr ×Obj)) (H:Hp) (b:Addr):Prop:=
 H b=none∧b≠X.env.locals∧b∉X.fs∧(b∈X.ex∨X.s₀.heap.objs.size≤b)∧(∀ x c,X.env.cells.lookup x=some c→c≠b)∧∀ p∈X.pn ++ pins,p.1≠b
theorem Inv.Cc {X:Cx} {pins:List (Addr ×Obj)} {σ:St} {H H':Hp} {s:Shared} {b:Addr} (I:Inv X pins σ H s) (hb:s.heap.objs.size≤b) (hn:H' b=none):j4 X pins H' b:=by
 refine ⟨hn,Nat.ne_of_gt (Nat.lt_of_lt_of_le I.lt hb),I.ML hb,.inr (Nat.le_trans I.sz hb),fun x c e z=>?_,fun p hp z=>?_⟩
 ·obtain ⟨v,q⟩:=I.cell x c e
  exact absurd (Nat.lt_of_lt_of_le q.lt (by rw [z];exact hb)) (Nat.lt_irrefl _)
 ·exact absurd (Nat.lt_of_lt_of_le (Heap.lt_size (I.pin p hp).1) (by rw [z];exact hb)) (Nat.lt_irrefl _)
structure Turn (P:Program) (w:World) (K:PySem.W.Frag) (tg:Expr) (J:It) (fp:List Addr) (it:Addr) (tn:Nat→Heap→Prop):Prop where
 mem:it∈fp
 obj:∀ i h,tn i h→∀ b∈fp,∃ o,h.get? b=some o∧∀ v,o.data≠ .cell v
 keep:∀ i h h',tn i h→(∀ b∈fp,∀ o,h.get? b=some o→h'.get? b=some o)→tn i h'
 item:∀ (X:Cx),X.prog=P→X.w=w→X.K=K→X.calm=true→∀ (i:Nat) (pins:List (Addr ×Obj)) (s:Shared) (σ:St) (H:Hp) (E:Value→Shared→Prop),Inv X pins σ H s→(∀ b∈fp,j4 X pins H b)→tn i s.heap→J.go i H→
  wpAny (model P w) X.A (pyNext (.ref it)) (fun r s1=> ∃ u,r=some u∧
   wpAny (model P w) X.A (letOwnedTupleGo tg (.ref it) u) (fun _ s2=> ∃ x H',Inv X pins σ H' s2∧RelV x u∧J.EL i H x H'∧tn (i+1) s2.heap∧∀ b∈fp,H' b=none) E s1) E s
 done:∀ (X:Cx),X.prog=P→X.w=w→X.K=K→X.calm=true→∀ (i:Nat) (pins:List (Addr ×Obj)) (s:Shared) (σ:St) (H:Hp) (E:Value→Shared→Prop),Inv X pins σ H s→(∀ b∈fp,j4 X pins H b)→tn i s.heap→J.stop i H→
  wpAny (model P w) X.A (pyNext (.ref it)) (fun r s1=>r=none∧Inv X pins σ H s1) E s
 self:∀ (A:Around) (i:Nat) (s:Shared) (Q:Value→Shared→Prop) (E:Value→Shared→Prop),tn i s.heap→Q (.ref it) s→wpAny (model P w) A (pyIter (.ref it)) Q E s
abbrev TI:=St→Hp→(It→Hp→Prop)→Prop
def MW (X:Cx) (pins:List (Addr ×Obj)) (σ:St) (tg:Expr) (R:It→Hp→Prop) (itv:Value) (s2:Shared):Prop:=
 ∃ (it:Addr) (fp:List Addr) (tn:Nat→Heap→Prop) (J:It) (H':Hp),itv= .ref it∧Inv X pins σ H' s2∧Turn X.prog X.w X.K tg J fp it tn∧tn 0 s2.heap∧(∀ b∈fp,j4 X pins H' b)∧R J H'
def PI (X:Cx) (tg iter:Expr) (wi:TI):Prop:=
 ∀ (pins:List (Addr ×Obj)) (s:Shared) (σ:St) (H:Hp) (R:It→Hp→Prop),Inv X pins σ H s→wi σ H R→
   wpAny (model X.prog X.w) X.A (eval iter X.env) (fun v s1=>wpAny (model X.prog X.w) X.A (pyIter v) (MW X pins σ tg R) X.xe s1) X.xe s
theorem GN {M:Model} {A:Around} {E:Value→Shared→Prop} {s:Shared} {tg:Expr} {it:Addr} {u:Value} {o:Obj} {n:String} {vs:Array Value} {Q:Unit→Shared→Prop} (ho:s.heap.get? it=some o) (hc:o.cls= .type n) (hd:o.data= .fields vs)
 (hn: ["enumerate","zip","dict_itemiterator","dict_reverseitemiterator","odict_iterator","itertools.zip_longest","itertools.pairwise"].contains n=false) (hQ:Q () s):wpAny M A (letOwnedTupleGo tg (.ref it) u) Q E s:=by
 unfold letOwnedTupleGo
 cases tg <;> first
  | exact wpAny_pure hQ
  | (cases u <;> first
   | exact wpAny_pure hQ
   | (refine wpAny_bind (wpAny_load ho ?_)
      rw [hc,hd]
      show wpAny M A (if (["enumerate","zip","dict_itemiterator","dict_reverseitemiterator","odict_iterator","itertools.zip_longest","itertools.pairwise"].contains n && vs[0]? == some (rawInt _))=true then _ else _) Q E s
      rw [if_neg (by intro h;rw [hn,Bool.false_and] at h;cases h)]
      exact wpAny_pure hQ))
def MX (K:PySem.W.Frag) (a:Addr):It:=
 ⟨fun i H=> ∃ xs x,iD K H a xs∧xs[i]?=some x,fun i H x H'=>H'=H∧∀ xs,iD K H a xs→xs[i]?=some x,fun i H=> ∃ xs,iD K H a xs∧xs.length≤i⟩
def L6 (lo:Int) (n:Nat):It:=⟨fun i _=>i < n,fun i H x H'=>H'=H∧x= .int (lo+i),fun i _=>n≤i⟩
theorem AW {P:Program} {w:World} {K:PySem.W.Frag} {tg:Expr} (a it:Addr):Turn P w K tg (MX K a) [it] it (fun i h=>h.IsListIter it a i) where
 mem:=by simp
 obj:=fun i h st b hb=>by
  have e:b=it:=by simpa using hb
  subst e
  obtain ⟨o,e,c,d⟩:=st
  exact ⟨o,e,fun v z=>by rw [d] at z;cases z⟩
 keep:=fun i h h' st k=>st.at fun o e=>k it (by simp) o e
 item:=by
  intro X hP hw hK hc i pins s σ H E I hf st hg
  subst hP hw hK
  obtain ⟨xs,x,hq,hx⟩:=hg
  obtain ⟨its,rv,p,hz⟩:=I.list hq
  obtain ⟨u,hu,ru⟩:=rv.get hx
  obtain ⟨f0,f1,f2,f3,f4,f5⟩:=hf it (by simp)
  refine wpAny_pyNext_list_item st p.isList (x:=u) (by simpa using hu) fun h' st' sb=>?_
  have I1:Inv X pins σ H { s with heap:=h' }:=I.turned (t':=s.toks) (fun b o hb e=>(sb.2 b hb).trans e) f0 f1 f3 f4 f5
  obtain ⟨o,e,c,d⟩:=id st'
  exact ⟨u,rfl,GN (s:={ s with heap:=h' }) e c d (by decide) ⟨x,H,I1,ru,⟨rfl,fun ys hy=>by rw [I.B9 hy hq];exact hx⟩,st',fun b hb=>(hf b hb).1⟩⟩
 done:=by
  intro X hP hw hK hc i pins s σ H E I hf st hg
  subst hP hw hK
  obtain ⟨xs,hq,hx⟩:=hg
  obtain ⟨its,rv,p,hz⟩:=I.list hq
  obtain ⟨f0,f1,f2,f3,f4,f5⟩:=hf it (by simp)
  have hl:=rv.length
  exact wpAny_pyNext_list_end (I.ok.hd hc) st p.isList (by simp;omega) fun h' eb=>⟨rfl,I.turned (t':=s.toks) (fun b o hb e=>eb b o hb e) f0 f1 f3 f4 f5⟩
 self:=fun _ _ _ _ _ st h=>wpAny_pyIter_listiter st h
theorem yD {P:Program} {w:World} {K:PySem.W.Frag} {tg:Expr} (it:Addr) (lo:Int) (n:Nat):Turn P w K tg (L6 lo n) [it] it (fun i h=>IsRangeIter h it (lo+(i:Nat)*1) ((n:Int) - (i:Nat)) 1) where
 mem:=by simp
 obj:=fun i h st b hb=>by
  have e:b=it:=by simpa using hb
  subst e
  exact ⟨_,st,fun v z=>by
   have z':Data.fields _=Data.cell v:=z
   cases z'⟩
 keep:=fun i h h' st k=>k it (by simp) _ st
 item:=by
  intro X hP hw hK hc i pins s σ H E I hf st hg
  subst hP hw hK
  obtain ⟨f0,f1,f2,f3,f4,f5⟩:=hf it (by simp)
  have W:=Walks.range (prog:=X.prog) (w:=X.w) (I.ok.hd hc) it lo 1 n
  refine W.item i s _ _ hg st fun v h' tk hv st' kk=>?_
  obtain ⟨t,rfl⟩:=hv
  have I1:Inv X pins σ H { s with heap:=h',toks:=tk }:=I.turned (fun b o hb e=>kk b o (by simpa using hb) e) f0 f1 f3 f4 f5
  refine ⟨_,rfl,GN (s:={ s with heap:=h',toks:=tk }) (n:= "range_iterator") st' rfl rfl (by decide) ⟨.int (lo+i),H,I1,⟨t,?_⟩,⟨rfl,rfl⟩,st',fun b hb=>(hf b hb).1⟩⟩
  rw [Int.mul_one]
 done:=by
  intro X hP hw hK hc i pins s σ H E I hf st hg
  subst hP hw hK
  obtain ⟨f0,f1,f2,f3,f4,f5⟩:=hf it (by simp)
  exact wpAny_pyNext_range_end (I.ok.hd hc) st (by have:n≤i:=hg;omega) fun h' eb=>⟨rfl,I.turned (t':=s.toks) (fun b o hb e=>eb b o hb e) f0 f1 f3 f4 f5⟩
 self:=fun _ _ _ _ _ st h=>wpAny_pyIter_rangeiter st h
end L2
namespace L2
open PySem PySem.Spec PyProof.Rows
section
variable {X:Cx} {tg:Expr}
def Ke (K:PySem.W.Frag) (tl:TE):TI:=fun σ H R=>tl σ H fun x H1=> ∃ a,x= .ref a∧(∃ xs,iD K H1 a xs)∧R (MX K a) H1
theorem zN {l:Expr} {tl:TE} (hl:PE X l tl):PI X tg l (Ke X.K tl):=by
 intro pins s σ H R I h
 refine dc (hl pins s σ H _ I h) fun v s1 ⟨x,H1,I1,r1,q1⟩=>?_
 obtain ⟨a,e,⟨xs,hq⟩,q⟩:=q1
 subst e
 cases r1
 obtain ⟨its,rv,p,hz⟩:=I1.list hq
 refine wpAny_pyIter_list p.isList ?_
 refine ⟨s1.heap.objs.size,[s1.heap.objs.size],_,_,H1,rfl,I1.kept (t':=s1.toks) fun b o e=>Heap.get?_push_of_some _ e,AW a _,⟨_,Heap.get?_push_size _ rfl,rfl,rfl⟩,fun b hb=>?_,q⟩
 have e:b=s1.heap.objs.size:=by simpa using hb
 subst e
 exact I1.Cc (Nat.le_refl _) (I1.hok.fresh (Nat.le_refl _))
theorem Cd {pins:List (Addr ×Obj)} {σ:St} {H:Hp} {s:Shared} {R:It→Hp→Prop} {E:Value→Shared→Prop} {lo hi:Int} {t u v:Tok} {tk:Nat} (I:Inv X pins σ H s) (h1: -(2 ^ 62)≤lo) (h2:lo < 2 ^ 62) (h3: -(2 ^ 62)≤hi) (h4:hi < 2 ^ 62)
 (q:R (L6 lo (hi - lo).toNat) H):wpAny (model X.prog X.w) X.A (pyIter (.ref s.heap.objs.size)) (MW X pins σ tg R) E { s with heap:=s.heap.push { cls:= .type "range",data:= .fields #[.int lo t,.int hi u,.int 1 v] },toks:=tk }:=by
 refine wpAny_pyIter_range (IsRange.new ..) (small_one h1 h2 h3 h4) ?_
 have I1:Inv X pins σ H { s with heap:=s.heap.push { cls:= .type "range",data:= .fields #[.int lo t,.int hi u,.int 1 v] },toks:=tk }:=I.kept fun b o e=>Heap.get?_push_of_some _ e
 refine ⟨(s.heap.push { cls:= .type "range",data:= .fields #[.int lo t,.int hi u,.int 1 v] }).objs.size,[(s.heap.push { cls:= .type "range",data:= .fields #[.int lo t,.int hi u,.int 1 v] }).objs.size],_,_,H,rfl,
  I1.kept (t':=tk) fun b o e=>Heap.get?_push_of_some _ e,yD _ lo (hi - lo).toNat,?_,fun b hb=>?_,q⟩
 ·have e1:lo+((0:Nat):Int)*1=lo:=by simp
  have e2:(((hi - lo).toNat:Nat):Int) - ((0:Nat):Int)=Builtin.Range.rangeSize lo hi 1:=by rw [rangeSize_one];split <;> omega
  show IsRangeIter _ _ (lo+((0:Nat):Int)*1) ((((hi - lo).toNat:Nat):Int) - ((0:Nat):Int)) 1
  rw [e1,e2]
  exact Heap.get?_push_size _ rfl
 ·have e:b=(s.heap.push { cls:= .type "range",data:= .fields #[.int lo t,.int hi u,.int 1 v] }).objs.size:=by simpa using hb
  subst e
  exact I1.Cc (Nat.le_refl _) (I1.hok.fresh (Nat.le_refl _))
def Kf (ta:TA):TI:=fun σ H R=>ta σ H fun vs H1=> ∃ j:Int,vs= [.int j]∧ -(2 ^ 62)≤j∧j < 2 ^ 62∧R (L6 0 j.toNat) H1
theorem tM {a:Expr} {ta:TA} {p pos:Pos} (hg:Gl X "range") (hm:X.mg "range" =none) (ha:PA X [a] ta) (hs:starEach [a] X.env= [(false,eval a X.env)]:=by rfl):PI X tg (.Call (.Name "range" p) [a] [] pos) (Kf ta):=by
 intro pins s σ H R I h
 refine Call_ (iC I hg hm boot_range (PyProof.Rows.callWith_type1 (dc (ha pos pins s σ H _ I h) fun us s1 ⟨vs,H1,I1,r1,q1⟩=>?_) hs rfl))
 obtain ⟨j,e,q1,q2,q⟩:=q1
 subst e
 cases r1 with
 | cons r rr=>
   cases rr
   obtain ⟨t,rfl⟩:=r
   exact call_range_1 (Cd I1 (by omega) (by omega) q1 q2 (by simpa using q))
def MY (wi:TI) (g:TG) (tb:TS):TS:=fun D σ H=>wi σ H fun J H1=> ∃ W:Nat→Nat→St→Hp→Prop,(∃ m,W 0 m σ H1)∧∀ i m σ H,W i m σ H→
 (J.stop i H∧D.nx σ H)∨(J.go i H∧∃ N:St→Hp→Prop,(∀ σ' H',N σ' H'→∃ m',m' < m∧W (i+1) m' σ' H')∧∀ x H',J.EL i H x H'→g x σ H' fun σ2 H2=>tb { D with nx:=N,ct:=N,bk:=D.nx } σ2 H2)
def qm (fp:List Addr) (h:Heap):List (Addr ×Obj):=fp.filterMap fun b=>(h.get? b).map fun o=>(b,o)
theorem lX {fp:List Addr} {h:Heap} {b:Addr} {o:Obj} (hb:b∈fp) (e:h.get? b=some o):(b,o)∈qm fp h:=List.mem_filterMap.mpr ⟨b,hb,by rw [e];rfl⟩
theorem AX {fp:List Addr} {h:Heap} {p:Addr ×Obj} (hp:p∈qm fp h):p.1∈fp∧h.get? p.1=some p.2:=by
 obtain ⟨b,hb,e⟩:=List.mem_filterMap.mp hp
 cases q:h.get? b with
 | none=>rw [q] at e;cases e
 | some o=>
   rw [q] at e
   have e':(b,o)=p:=Option.some.inj e
   subst e'
   exact ⟨hb,q⟩
theorem Inv.pinned {pins:List (Addr ×Obj)} {σ:St} {H:Hp} {s:Shared} {fp:List Addr} (I:Inv X pins σ H s) (hf:∀ b∈fp,j4 X pins H b) (ho:∀ b∈fp,∃ o,s.heap.get? b=some o∧∀ v,o.data≠ .cell v):Inv X (pins ++ qm fp s.heap) σ H s:=
 I.qa fun p hp=>(List.mem_append.mp hp).elim (fun z=>I.pin p (List.mem_append_right _ z)) fun z=>by
   obtain ⟨hb,e⟩:=AX z
   obtain ⟨f0,f1,f2,_⟩:=hf p.1 hb
   obtain ⟨o,e',d⟩:=ho p.1 hb
   rw [e] at e';cases e'
   exact ⟨e,f0,f1,f2,d⟩
theorem Inv.kg {pins pl:List (Addr ×Obj)} {σ:St} {H:Hp} {s:Shared} (I:Inv X (pins ++ pl) σ H s):Inv X pins σ H s:=I.qa fun p hp=>I.pin p (List.mem_append_right _ (List.mem_append_left _ hp))
theorem Ce {iter:Expr} {body:List Stmt} {wi:TI} {g:TG} {tb:TS} {pos:Pos} (hp:PassesOwn (model X.prog X.w) X.A X.env X.xe) (hc:X.calm=true) (hi:PI X tg iter wi) (hg:PG X tg g) (hb:yC X body tb)
 (hs:∀ x,foldedSetIterable iter X.env x=pure x:=by intro _;rfl):PS X (.For tg iter body [] pos) (MY wi g tb):=by
 intro pins s σ H D I h
 refine wpAny_For (dc (hi pins s σ H _ I h) fun v s1 h1=>dc h1 fun itv s2 h2=>?_) hs
 obtain ⟨it,fp,tn,J,H2,e,I2,T,st2,f2,W,⟨m0,w0⟩,turn⟩:=h2
 subst e
 have stat:∀ {H':Hp},(∀ b∈fp,H' b=none)→∀ b∈fp,j4 X pins H' b:=fun hn b hb=>⟨hn b hb,(f2 b hb).2⟩
 refine codeAny_forLoop_any (fun n s'=> ∃ i σ' H',Inv X pins σ' H' s'∧tn i s'.heap∧(∀ b∈fp,H' b=none)∧W i n σ' H') ?_ m0 ⟨0,σ,H2,I2,st2,fun b hb=>(f2 b hb).1,w0⟩
 rintro n s3 ⟨i,σ3,H3,I3,st3,Pk,w3⟩
 rcases turn i n σ3 H3 w3 with ⟨stop,qn⟩ | ⟨go,N,hN,step⟩
 ·refine wpAny_passesOwn hp (dc (T.done X rfl rfl rfl hc i pins s3 σ3 H3 X.xe I3 (stat Pk) st3 stop) fun r s4 ⟨hr,I4⟩=>?_)
  subst hr
  exact wpAny_execs_nil ⟨σ3,H3,I4,qn⟩
 ·refine wpAny_passesOwn hp (dc (T.item X rfl rfl rfl hc i pins s3 σ3 H3 X.xe I3 (stat Pk) st3 go) fun r s4 ⟨u,hr,h4⟩=>?_)
  subst hr
  refine wpAny_passesOwn hp (dc h4 fun _ s5 ⟨x,H5,I5,r5,y5,JR,EM⟩=>?_)
  have QF:=I5.pinned (stat EM) (T.obj _ _ JR)
  refine wpAny_passesOwn hp (dc (hg _ s5 σ3 H5 x u _ QF r5 (step x H5 y5)) fun _ s6 ⟨σ6,H6,I6,q6⟩=>?_)
  refine wpAny_passesOwn hp (dc (hb _ s6 σ6 H6 _ I6 q6) fun f s7 q7=>?_)
  have again:∀ {σ7:St} {H7:Hp},Inv X (pins ++ qm fp s5.heap) σ7 H7 s7→N σ7 H7→∃ m,m < n∧∃ i σ' H',Inv X pins σ' H' s7∧tn i s7.heap∧(∀ b∈fp,H' b=none)∧W i m σ' H':=fun {σ7 H7} I7 n7=>by
   obtain ⟨m',hm,w7⟩:=hN σ7 H7 n7
   refine ⟨m',hm,i+1,σ7,H7,I7.kg,T.keep _ _ _ JR fun b hb o e=>(I7.pin (b,o) (List.mem_append_right _ (List.mem_append_right _ (lX hb e)))).1,fun b hb=>?_,w7⟩
   obtain ⟨o,e,d⟩:=T.obj _ _ JR b hb
   exact (I7.pin (b,o) (List.mem_append_right _ (List.mem_append_right _ (lX hb e)))).2.1
  cases f with
  | next=>obtain ⟨σ7,H7,I7,n7⟩:=q7;exact again I7 n7
  | cont=>obtain ⟨σ7,H7,I7,n7⟩:=q7;exact again I7 n7
  | brk=>obtain ⟨σ7,H7,I7,q7⟩:=q7;exact ⟨σ7,H7,I7.kg,q7⟩
  | ret v=>obtain ⟨x7,σ7,H7,I7,r7,q7⟩:=q7;exact ⟨x7,σ7,H7,I7.kg,r7,q7⟩
end
end L2
namespace L2
open PySem PySem.Spec PyProof.Rows
abbrev R2:=V→V→Hp→VK→Prop
def wu (X:Cx) (f:Value→Value→Sem Value) (r:R2):Prop:=
 ∀ (pins:List (Addr ×Obj)) (s:Shared) (σ:St) (H:Hp) (x y:V) (v u:Value) (Q:VK),Inv X pins σ H s→RelV x v→RelV y u→r x y H Q→
   wpAny (model X.prog X.w) X.A (f v u) (EP X pins σ Q) X.xe s
def MZ (X:Cx) (f:Value→Sem Value) (r:V→Hp→VK→Prop):Prop:=
 ∀ (pins:List (Addr ×Obj)) (s:Shared) (σ:St) (H:Hp) (x:V) (v:Value) (Q:VK),Inv X pins σ H s→RelV x v→r x H Q→
   wpAny (model X.prog X.w) X.A (f v) (EP X pins σ Q) X.xe s
def zO (X:Cx) (f:Value) (r:List V→Hp→VK→Prop):Prop:=
 ∀ (pins:List (Addr ×Obj)) (s:Shared) (σ:St) (H:Hp) (xs:List V) (us:List Value) (Q:VK),Inv X pins σ H s→Vals xs us→r xs H Q→
   wpAny (model X.prog X.w) X.A (call f us) (EP X pins σ Q) X.xe s
def QG (r:R2) (ta tb:TE):TE:=fun σ H Q=>ta σ H fun x H1=>tb σ H1 fun y H2=>r x y H2 Q
def QH (r:V→Hp→VK→Prop) (ta:TE):TE:=fun σ H Q=>ta σ H fun x H1=>r x H1 Q
def rI (C:Int→Int→Prop) (g:Int→Int→V):R2:=fun x y H Q=> ∃ i j,x= .int i∧y= .int j∧C i j∧Q (g i j) H
def EN (g:Int→Int→V):R2:=fun x y H Q=> ∃ i j,x= .int i∧y= .int j∧Q (g i j) H
def rU (g:Int→V):V→Hp→VK→Prop:=fun x H Q=> ∃ i,x= .int i∧Q (g i) H
section
variable {X:Cx} {a b c:Expr} {ta tb tc:TE} {pos:Pos}
theorem Na (ha:PE X a ta) (hb:PE X b tb) {pins:List (Addr ×Obj)} {s:Shared} {σ:St} {H:Hp} {R:V→V→Hp→Prop} (I:Inv X pins σ H s)
 (h:ta σ H fun x H1=>tb σ H1 fun y H2=>R x y H2) {Q:Value→Shared→Prop} {f:Value→Value→Sem Value}
 (hf:∀ v u s2 x y H2,Inv X pins σ H2 s2→RelV x v→RelV y u→R x y H2→wpAny (model X.prog X.w) X.A (f v u) Q X.xe s2) :
 wpAny (model X.prog X.w) X.A (eval a X.env) (fun v s₁=>wpAny (model X.prog X.w) X.A (eval b X.env) (fun u s₂=>wpAny (model X.prog X.w) X.A (f v u) Q X.xe s₂) X.xe s₁) X.xe s:=by
 refine dc (ha pins s σ H _ I h) fun v s1 ⟨x,H1,I1,r1,q1⟩=>?_
 refine dc (hb pins s1 σ H1 _ I1 q1) fun u s2 ⟨y,H2,I2,r2,q2⟩=>?_
 exact hf v u s2 x y H2 I2 r1 r2 q2
theorem Kg {op:UnaryOp} {r:V→Hp→VK→Prop} (ho:MZ X (unaryOp op) r) (ha:PE X a ta):PE X (.UnaryOp op a pos) (QH r ta):=by
 intro pins s σ H Q I h
 exact UnaryOp_ (dc (ha pins s σ H _ I h) fun v s1 ⟨x,H1,I1,r1,q1⟩=>ho pins s1 σ H1 x v Q I1 r1 q1)
theorem Kh {f:Value→Value→Sem Value} {C:Int→Int→Prop} {g:Int→Int→Int}
 (rule:∀ (i j:Int) (t u:Tok) (s:Shared) (Q:Value→Shared→Prop) (E:Value→Shared→Prop),C i j→Q (.int (g i j) s.toks) { s with toks:=s.toks+1 }→wpAny (model X.prog X.w) X.A (f (.int i t) (.int j u)) Q E s) :
 wu X f (rI C fun i j=> .int (g i j)):=by
 intro pins s σ H x y v u Q I rx ry h
 obtain ⟨i,j,rfl,rfl,hc,q⟩:=h
 obtain ⟨t,rfl⟩:=rx
 obtain ⟨t',rfl⟩:=ry
 exact rule i j t t' s _ _ hc ⟨.int (g i j),H,I.tok _,⟨_,rfl⟩,q⟩
theorem Km {f:Value→Value→Sem Value} {g:Int→Int→Int}
 (rule:∀ (i j:Int) (t u:Tok) (s:Shared) (Q:Value→Shared→Prop) (E:Value→Shared→Prop),Q (.int (g i j) s.toks) { s with toks:=s.toks+1 }→wpAny (model X.prog X.w) X.A (f (.int i t) (.int j u)) Q E s) :
 wu X f (EN fun i j=> .int (g i j)):=by
 intro pins s σ H x y v u Q I rx ry h
 obtain ⟨i,j,rfl,rfl,q⟩:=h
 obtain ⟨t,rfl⟩:=rx
 obtain ⟨t',rfl⟩:=ry
 exact rule i j t t' s _ _ ⟨.int (g i j),H,I.tok _,⟨_,rfl⟩,q⟩
theorem HL {f:Value→Value→Sem Value} {g:Int→Int→Bool}
 (rule:∀ (i j:Int) (t u:Tok) (s:Shared) (Q:Value→Shared→Prop) (E:Value→Shared→Prop),Q (.bool (g i j)) s→wpAny (model X.prog X.w) X.A (f (.int i t) (.int j u)) Q E s) :
 wu X f (EN fun i j=> .bl (g i j)):=by
 intro pins s σ H x y v u Q I rx ry h
 obtain ⟨i,j,rfl,rfl,q⟩:=h
 obtain ⟨t,rfl⟩:=rx
 obtain ⟨t',rfl⟩:=ry
 exact rule i j t t' s _ _ ⟨.bl (g i j),H,I,rfl,q⟩
def HM (i j:Int):Prop:=(-(2 ^ 64) < i∧i < 2 ^ 64)∨(-(2 ^ 64) < j∧j < 2 ^ 64)
theorem HM.ok {i j:Int} (h:HM i j):IntMulOk i j:=by
 rcases h with ⟨h1,h2⟩ | ⟨h1,h2⟩
 ·exact .of_left (intBits_le_64 h1 h2)
 ·exact .of_right (intBits_le_64 h1 h2)
theorem HN:wu X (binaryOp .Add) (EN fun i j=> .int (i+j)):=Km fun _ _ _ _ _ _ _ q=>add_int q
theorem HP:wu X (binaryOp .Sub) (EN fun i j=> .int (i - j)):=Km fun _ _ _ _ _ _ _ q=>sub_int q
theorem HQ:wu X (binaryOp .Mod) (rI (fun _ j=>0 < j) fun i j=> .int (i % j)):=Kh fun i j _ _ _ _ _ hc q=>by
 have h1:(0:Int) < j:=hc
 exact mod_int' (by omega) (by rw [Int.fmod_eq_emod_of_nonneg i (by omega)];exact q)
theorem QI {f:Value→Sem Value} {g:Int→Int}
 (rule:∀ (i:Int) (t:Tok) (s:Shared) (Q:Value→Shared→Prop) (E:Value→Shared→Prop),Q (.int (g i) s.toks) { s with toks:=s.toks+1 }→wpAny (model X.prog X.w) X.A (f (.int i t)) Q E s) :
 MZ X f (rU fun i=> .int (g i)):=by
 intro pins s σ H x v Q I rx h
 obtain ⟨i,rfl,q⟩:=h
 obtain ⟨t,rfl⟩:=rx
 exact rule i t s _ _ ⟨.int (g i),H,I.tok _,⟨_,rfl⟩,q⟩
theorem HR:MZ X (unaryOp .USub) (rU fun i=> .int (-i)):=QI fun _ _ _ _ _ q=>neg_int q
end
def HS:V→V→Bool
 | .bA,.bA=>true | .bA,.int _=>true | .int _,.bA=>true | .bA,.bl _=>true | .bl _,.bA=>true | .bA,.str _=>true | .str _,.bA=>true
 | .int _,.int _=>true | .bl _,.bl _=>true | .str _,.str _=>true | .B6 _,.B6 _=>true
 | .int _,.str _=>true | .str _,.int _=>true | .bl _,.str _=>true | .str _,.bl _=>true
 | _,_=>false
def QJ:R2:=fun x y H Q=>HS x y=true∧Q (.bl (decide (x=y))) H
def QK:R2:=fun x y H Q=>HS x y=true∧Q (.bl (!decide (x=y))) H
theorem zP {i j:Int}:decide (V.int i=V.int j)=(i == j):=by
 rw [Bool.eq_iff_iff]
 simp
theorem Cf {i j:Bool}:decide (V.bl i=V.bl j)=(i == j):=by
 rw [Bool.eq_iff_iff]
 simp
theorem zQ {i j:Str}:decide (V.str i=V.str j)=(i == j):=by
 rw [Bool.eq_iff_iff]
 simp
theorem zR {i j:Array UInt8}:decide (V.B6 i=V.B6 j)=(i.toList == j.toList):=by
 rw [Bool.eq_iff_iff]
 cases i
 cases j
 simp
section
variable {X:Cx} {a b c:Expr} {ta tb tc:TE} {pos:Pos}
theorem br {pins:List (Addr ×Obj)} {σ:St} {H:Hp} {s:Shared} {Q:VK} {k k':Bool} (I:Inv X pins σ H s) (q:Q (.bl k) H) (e:k=k'):EP X pins σ Q (.bool k') s:=by
 subst e
 exact ⟨.bl k,H,I,rfl,q⟩
theorem Kn:wu X (compareOp .Eq) QJ:=by
 intro pins s σ H x y v u Q I rx ry h
 obtain ⟨hs,q⟩:=h
 cases x with
 | bA=>
   cases rx
   cases y with
   | bA=>cases ry;exact PySem.EqNone.eq_none_none (br I q (by simp))
   | bl j=>cases ry;exact PySem.EqNone.eq_none_bool (br I q (by simp))
   | int j=>obtain ⟨t',rfl⟩:=ry;exact PySem.EqNone.eq_none_int (br I q (by simp))
   | str j=>obtain ⟨t',rfl⟩:=ry;exact PySem.EqNone.eq_none_str (br I q (by simp))
   | _=>exact absurd (show false=true from hs) Bool.false_ne_true
 | bl i=>
   cases rx
   cases y with
   | bA=>cases ry;exact PySem.EqNone.eq_bool_none (br I q (by simp))
   | bl j=>cases ry;exact eq_bool (br I q Cf)
   | str j=>obtain ⟨t',rfl⟩:=ry;exact PySem.EqMixed.eq_bool_str (br I q (by simp))
   | _=>exact absurd (show false=true from hs) Bool.false_ne_true
 | int i=>
   obtain ⟨t,rfl⟩:=rx
   cases y with
   | bA=>cases ry;exact PySem.EqNone.eq_int_none (br I q (by simp))
   | int j=>obtain ⟨t',rfl⟩:=ry;exact eq_int (br I q zP)
   | str j=>obtain ⟨t',rfl⟩:=ry;exact PySem.EqMixed.eq_int_str (br I q (by simp))
   | _=>exact absurd (show false=true from hs) Bool.false_ne_true
 | str i=>
   obtain ⟨t,rfl⟩:=rx
   cases y with
   | bA=>cases ry;exact PySem.EqNone.eq_str_none (br I q (by simp))
   | bl j=>cases ry;exact PySem.EqMixed.eq_str_bool (br I q (by simp))
   | int j=>obtain ⟨t',rfl⟩:=ry;exact PySem.EqMixed.eq_str_int (br I q (by simp))
   | str j=>obtain ⟨t',rfl⟩:=ry;exact eq_str (br I q zQ)
   | _=>exact absurd (show false=true from hs) Bool.false_ne_true
 | B6 i=>
   obtain ⟨t,rfl⟩:=rx
   cases y with
   | B6 j=>obtain ⟨t',rfl⟩:=ry;exact PySem.W.eq_bytes (br I q zR)
   | _=>exact absurd (show false=true from hs) Bool.false_ne_true
 | _=>cases y <;> exact absurd (show false=true from hs) Bool.false_ne_true
theorem Ko:wu X (compareOp .NotEq) QK:=by
 intro pins s σ H x y v u Q I rx ry h
 obtain ⟨hs,q⟩:=h
 cases x with
 | bA=>
   cases rx
   cases y with
   | bA=>cases ry;exact PySem.EqNone.ne_none_none (br I q (by simp))
   | bl j=>cases ry;exact PySem.EqNone.ne_none_bool (br I q (by simp))
   | int j=>obtain ⟨t',rfl⟩:=ry;exact PySem.EqNone.ne_none_int (br I q (by simp))
   | str j=>obtain ⟨t',rfl⟩:=ry;exact PySem.EqNone.ne_none_str (br I q (by simp))
   | _=>exact absurd (show false=true from hs) Bool.false_ne_true
 | bl i=>
   cases rx
   cases y with
   | bA=>cases ry;exact PySem.EqNone.ne_bool_none (br I q (by simp))
   | bl j=>cases ry;exact ne_bool (br I q (congrArg not Cf))
   | str j=>obtain ⟨t',rfl⟩:=ry;exact PySem.EqMixed.ne_bool_str (br I q (by simp))
   | _=>exact absurd (show false=true from hs) Bool.false_ne_true
 | int i=>
   obtain ⟨t,rfl⟩:=rx
   cases y with
   | bA=>cases ry;exact PySem.EqNone.ne_int_none (br I q (by simp))
   | int j=>obtain ⟨t',rfl⟩:=ry;exact ne_int (br I q (congrArg not zP))
   | str j=>obtain ⟨t',rfl⟩:=ry;exact PySem.EqMixed.ne_int_str (br I q (by simp))
   | _=>exact absurd (show false=true from hs) Bool.false_ne_true
 | str i=>
   obtain ⟨t,rfl⟩:=rx
   cases y with
   | bA=>cases ry;exact PySem.EqNone.ne_str_none (br I q (by simp))
   | bl j=>cases ry;exact PySem.EqMixed.ne_str_bool (br I q (by simp))
   | int j=>obtain ⟨t',rfl⟩:=ry;exact PySem.EqMixed.ne_str_int (br I q (by simp))
   | str j=>obtain ⟨t',rfl⟩:=ry;exact ne_str (br I q (congrArg not zQ))
   | _=>exact absurd (show false=true from hs) Bool.false_ne_true
 | B6 i=>
   obtain ⟨t,rfl⟩:=rx
   cases y with
   | B6 j=>obtain ⟨t',rfl⟩:=ry;exact PySem.W.ne_bytes (br I q (congrArg not zR))
   | _=>exact absurd (show false=true from hs) Bool.false_ne_true
 | _=>cases y <;> exact absurd (show false=true from hs) Bool.false_ne_true
theorem Kp:wu X (compareOp .Lt) (EN fun i j=> .bl (decide (i < j))):=HL fun _ _ _ _ _ _ _ q=>lt_int q
theorem Kq:wu X (compareOp .Gt) (EN fun i j=> .bl (decide (j < i))):=HL fun _ _ _ _ _ _ _ q=>gt_int q
theorem Kr:wu X (compareOp .GtE) (EN fun i j=> .bl (decide (j≤i))):=HL fun _ _ _ _ _ _ _ q=>ge_int q
theorem HU:wu X (compareOp .Is) (fun x y H Q=>y= .bA∧Q (.bl (decide (x= .bA))) H):=by
 intro pins s σ H x y v u Q I rx ry h
 obtain ⟨rfl,q⟩:=h
 cases ry
 refine is_none_gen (br I q ?_)
 cases x <;> first
  | (cases rx;rfl)
  | (obtain ⟨t,rfl⟩:=rx;rfl)
theorem aC (b:Expr) {op:CmpOp} (h:op≠ .In:=by decide) (h2:op≠ .NotIn:=by decide):behindInMarks op b=false:=by
 have e1:(op == CmpOp.In)=false:=by cases op <;> first | rfl | exact absurd rfl h
 have e2:(op == CmpOp.NotIn)=false:=by cases op <;> first | rfl | exact absurd rfl h2
 cases b <;> simp [behindInMarks,e1,e2]
theorem yE:(sizeLine:Nat) < 2 ^ 63:=by rw [sizeLine_eq];decide
theorem vals1 {x:V} {us:List Value} (r:Vals [x] us):∃ u,us= [u]∧RelV x u:=by
 cases r with
 | cons r1 r2=>cases r2;exact ⟨_,rfl,r1⟩
theorem vals2 {x y:V} {us:List Value} (r:Vals [x,y] us):∃ u w',us= [u,w']∧RelV x u∧RelV y w':=by
 cases r with
 | cons r1 r2=>
   cases r2 with
   | cons r3 r4=>cases r4;exact ⟨_,_,rfl,r1,r3⟩
theorem AY (hc:X.calm=true):zO X (.builtin "min") (fun xs H Q=> ∃ i j,xs= [.int i,.int j]∧Q (.int (if j < i then j else i)) H):=by
 intro pins s σ H xs us Q I r h
 obtain ⟨i,j,rfl,q⟩:=h
 obtain ⟨u,w',rfl,⟨t,rfl⟩,⟨t',rfl⟩⟩:=vals2 r
 refine min_two_ints (I.ok.hd hc) fun h' tk k=>⟨_,H,I.kept k,?_,q⟩
 by_cases hj:j < i
 ·rw [if_pos hj,if_pos hj];exact ⟨_,rfl⟩
 ·rw [if_neg hj,if_neg hj];exact ⟨_,rfl⟩
end
end L2
namespace L2
open PySem PySem.Spec PyProof.Rows
structure HV (h:Heap) (x dx C:Addr) (mA:Str→Option Value):Prop where
 obj:h.get? x=some (PySem.W.instObj C dx)
 ns:h.Ns1 dx mA
 ne:dx≠x
theorem AZ {h:Heap} {dx:Addr} {mA:Str→Option Value} (n:h.Ns1 dx mA):∃ od,h.get? dx=some od∧∀ name,PySem.W.lookIn name od=some (mA name):=by
 obtain ⟨o,es,ep,ho,hd,hk,_,hm⟩:=n
 refine ⟨o,ho,fun name=>?_⟩
 have e:=hm name
 unfold nsFind findBy at e
 rw [← Array.find?_toList] at e
 unfold PySem.W.lookIn
 rw [hd]
 dsimp only
 split
 ·rename_i y q
  rw [q] at e
  exact congrArg some e
 ·rename_i q
  rw [q] at e
  have a:es.toList.any (·.refKey)=false:=by
   rw [List.any_eq_false]
   intro y hy
   obtain ⟨z,t,hkey⟩:=hk y (Array.mem_toList_iff.mp hy)
   simp [DictEntry.refKey,hkey]
  have a':¬ es.toList.any (·.refKey)=true:=by rw [a];exact Bool.false_ne_true
  rw [if_neg a']
  exact congrArg some e
theorem HV.look {h:Heap} {x dx C:Addr} {mA:Str→Option Value} (I:HV h x dx C mA):∃ od,PySem.W.InstAt h x (PySem.W.instObj C dx) C (some od)∧∀ name,PySem.W.lookIn name od=some (mA name):=
 let ⟨od,ho,hl⟩:=AZ I.ns
 ⟨od,⟨I.obj,rfl,rfl,ho⟩,hl⟩
section
variable {prog:Program} {w:World} {A:Around} {E:Value→Shared→Prop} {s:Shared} {K:PySem.W.Frag} {x dx C f:Addr} {mA:Str→Option Value} {name:Str} {v:Value}
end
section
variable {P:Program} {w:World} {H H':Hp} {h h':Heap} {a C dx:Addr} {fs fs':List (Str ×V)}
theorem EO (hok:j3 P w H h) (e:H a=some (.ins C dx fs)):∃ mA,HV h a dx C mA∧(∀ f,Hs (fs.lookup f) (mA f))∧PySem.Within mA (fs.map (·.1))∧fs.length≤1000∧H dx=some (.own a):=by
 obtain ⟨d,z,ne,ob,mA,n,r,q⟩:=(show c9 P w H h a (.ins C dx fs) from hok a _ e)
 exact ⟨mA,⟨ob,n,ne⟩,r,q,z,d⟩
end
structure Nb (K:PySem.W.Frag) (C:Addr):Prop where
 pg:PySem.W.plainGet K C Str.empty=true
 hd:PySem.W.hasDictIn K C=true
 po:PySem.W.plainOver K C=true
 sa:PySem.W.findIn K (.ref C) "__setattr__" =some (some (.builtin "object.__setattr__"))
theorem Nb.get {K:PySem.W.Frag} {C:Addr} (c:Nb K C) (f:Str):PySem.W.plainGet K C f=true:=c.pg
structure Td (K:PySem.W.Frag) (C:Addr) (f:Str) (v:V) (u:Value):Prop where
 at_:PySem.W.findIn K (.ref C) f=some (some u)
 rel:RelV v u
 get:PySem.W.specialIn K u "__get__" =some none
 cp:PySem.W.copiedNames.contains f=false
structure Meth (K:PySem.W.Frag) (C:Addr) (m:Str) (f:Addr):Prop where
 at_:PySem.W.findIn K (.ref C) m=some (some (.ref f))
 fn:PySem.W.isFn K (.ref f)=true
 kp:PySem.W.keepIn K (.ref f)=true
section
variable {X:Cx} {pins:List (Addr ×Obj)} {σ:St} {H:Hp} {s:Shared} {a C dx:Addr} {fs:List (Str ×V)} {f:Str} {v:V} {A:Around} {E:Value→Shared→Prop}
end
section
variable {X:Cx} {o e value:Expr} {f:Str} {pos pos' tpos:Pos} {ta tv:TE}
end
section
variable {X:Cx} {pins:List (Addr ×Obj)} {σ:St} {H:Hp} {s:Shared} {A:Around} {E:Value→Shared→Prop} {Q:Value→Shared→Prop} {c:Value} {b:Bool}
inductive pF (K:PySem.W.Frag) (H:Hp):V→Value→Prop where
 | bA:pF K H .bA (.type "NoneType")
 | bl (x:Bool):pF K H (.bl x) (.type "bool")
 | int (i:Int):pF K H (.int i) (.type "int")
 | str (x:Str):pF K H (.str x) (.type "str")
 | JO (x:UInt64):pF K H (.JO x) (.type "float")
 | lst {a:Addr} {xs:List V} (e:H a=some (.lst xs)):pF K H (.ref a) (.type "list")
 | mK {a:Addr} {o:Obj} {xs:List V} (e:H a=some (.mK o (.lst xs))):pF K H (.ref a) (.type "list")
 | tup {a:Addr} {xs:List V} (e:H a=some (.tup xs)):pF K H (.ref a) (.type "tuple")
 | dK {a:Addr} {kvs:List (Key ×V)} (e:H a=some (.dK kvs)):pF K H (.ref a) (.type "dict")
 | dT {a:Addr} {kvs:List (List Key ×V)} (e:H a=some (.dT kvs)):pF K H (.ref a) (.type "dict")
 | ins {a C dx:Addr} {fs:List (Str ×V)} (e:H a=some (.ins C dx fs)) (cl:Nb K C) (ha:PySem.W.findIn K (.ref C) "__class__" =some (some (.builtin "object.__class__")))
  (hn:PySem.W.specialIn K (.builtin "object.__class__") "__get__" =some (some (.builtin "getset_descriptor.__get__"))) (htk:PySem.W.takesIn K (.builtin "object.__class__")=some true)
  (hm:PySem.W.mroIn K C (.type "object")=some true):pF K H (.ref a) (.ref C)
theorem gu {x:V} {u t:Value} (I:Inv X pins σ H s) (rx:RelV x u) (ty:pF X.K H x t) (e:PySem.W.kitOne X.K t c=some b) (h:∀ tk,Q (.bool b) { s with toks:=tk }) :
 wpAny (model X.prog X.w) A (call (.builtin "isinstance") [u,c]) Q E s:=by
 cases ty with
 | bA=>cases (show u=Value.none from rx);exact PySem.W.kia_one PySem.W.kitx_none I.we True.intro e (fun z=>nomatch z) h
 | bl y=>cases (show u=Value.bool y from rx);exact PySem.W.kia_one PySem.W.kitx_bool I.we True.intro e (fun z=>nomatch z) h
 | int i=>obtain ⟨t,q⟩:=(show ∃ t,u=Value.int i t from rx);cases q;exact PySem.W.kia_one PySem.W.kitx_int I.we True.intro e (fun z=>nomatch z) h
 | str y=>obtain ⟨t,q⟩:=(show ∃ t,u=Value.str y t from rx);cases q;exact PySem.W.kia_one PySem.W.kitx_str I.we True.intro e (fun z=>nomatch z) h
 | JO y=>obtain ⟨t,q⟩:=(show ∃ t,u=Value.float y t from rx);cases q;exact PySem.W.kia_one PySem.W.kitx_float I.we True.intro e (fun z=>nomatch z) h
 | @lst a xs ea=>
   cases (show u=Value.ref a from rx)
   obtain ⟨_,_,n,_,h1⟩:=(show c9 X.prog X.w H s.heap a (.lst xs) from I.hok a _ ea)
   exact PySem.W.kia_one PySem.W.kitx_list I.we ⟨_,h1,rfl⟩ e (fun z=>nomatch z) h
 | @mK a ob xs ea=>
   cases (show u=Value.ref a from rx)
   obtain ⟨_,_,_,n,_,h1⟩:=(show c9 X.prog X.w H s.heap a (.mK ob (.lst xs)) from I.hok a _ ea)
   exact PySem.W.kia_one PySem.W.kitx_list I.we ⟨_,h1,rfl⟩ e (fun z=>nomatch z) h
 | @tup a xs ea=>
   cases (show u=Value.ref a from rx)
   obtain ⟨_,_,_,p⟩:=(show c9 X.prog X.w H s.heap a (.tup xs) from I.hok a _ ea)
   obtain ⟨o,h1,h2,_⟩:=p
   exact PySem.W.kia_one PySem.W.kitx_tuple I.we ⟨o,h1,h2⟩ e (fun z=>nomatch z) h
 | @dK a kvs ea=>
   cases (show u=Value.ref a from rx)
   obtain ⟨_,_,vs,_,p⟩:=(show c9 X.prog X.w H s.heap a (.dK kvs) from I.hok a _ ea)
   obtain ⟨o,es,ep,h1,h2,_⟩:=p
   exact PySem.W.kia_one PySem.W.kitx_dict I.we ⟨o,h1,h2.1⟩ e (fun z=>nomatch z) h
 | @dT a kvs ea=>
   cases (show u=Value.ref a from rx)
   obtain ⟨_,_,xs,_,o,es,ep,h1,h2,_⟩:=(show c9 X.prog X.w H s.heap a (.dT kvs) from I.hok a _ ea)
   exact PySem.W.kia_one PySem.W.kitx_dict I.we ⟨o,h1,h2.1⟩ e (fun z=>nomatch z) h
 | @ins a C dx fs ea cl ha hn htk hm=>
   cases (show u=Value.ref a from rx)
   obtain ⟨mA,O,_⟩:=EO I.hok ea
   obtain ⟨od,J,_⟩:=O.look
   exact PySem.W.kia_one (PySem.W.kitx_own (cl.get _) cl.hd ha hn htk hm) I.we J e (fun z=>nomatch z) h
end
end L2
namespace L2
open PySem PySem.Spec PyProof.Rows
structure iE (k:Nat) (A:Around):Prop where
 hd:A.handled=none
 dp:A.depth+3*k+5 < recursionLimit
 un:A.units+16*k+200 < cLine
theorem iE.mono {j k:Nat} {A:Around} (r:iE k A) (h:j≤k):iE j A:=⟨r.hd,by have:=r.dp;omega,by have:=r.un;omega⟩
theorem iE.deeper {k:Nat} {A:Around} (r:iE (k+1) A) (env:Env):iE k (A.deeper env):=
 ⟨r.hd,by have:=r.dp;show A.depth+1+3*k+5 < _;omega,by have:=r.un;show A.units+3+16*k+200 < _;omega⟩
theorem iE.depth {k:Nat} {A:Around} (r:iE k A):A.depth < recursionLimit:=by have:=r.dp;omega
theorem iE.units {k:Nat} {A:Around} (r:iE k A):A.units+64 < cLine:=by have:=r.un;omega
def HW:TA:=fun _ H Q=>Q [] H
def Cg (ta:TE) (tr:TA):TA:=fun σ H Q=>ta σ H fun x H1=>tr σ H1 fun xs H2=>Q (x :: xs) H2
section
variable {X:Cx} {e:Expr} {es:List Expr} {te:TE} {t:TA} {pos:Pos}
theorem nS:PA X [] HW:=fun _ _ _ _ H Q I h=>Calls.spliced_nil ⟨[],H,I,.nil,h⟩
theorem kY (ha:PE X e te) (hr:PA X es t) (hs:starEach (e :: es) X.env=(false,eval e X.env) :: starEach es X.env:=by rfl):PA X (e :: es) (Cg te t):=by
 intro pos pins s σ H Q I h
 rw [hs]
 show wpAny _ _ (spliced ((false,eval e X.env) :: backTo pos (starEach es X.env))) _ _ s
 refine Calls.spliced_cons (dc (ha pins s σ H _ I h) fun u s1 ⟨x,H1,I1,r1,q1⟩=>?_)
 exact dc (hr pos pins s1 σ H1 _ I1 q1) fun us s2 ⟨xs,H2,I2,r2,q2⟩=>⟨x :: xs,H2,I2,.cons r1 r2,q2⟩
def Nc (t:TA):TE:=fun σ H Q=>t σ H fun xs H1=>xs.length≤sizeLine∧∀ p,H1 p=none→Q (.ref p) (upd H1 p (.tup xs))
def Nd (t:TA):TE:=fun σ H Q=>t σ H fun xs H1=>xs.length≤sizeLine∧∀ p,H1 p=none→Q (.ref p) (upd H1 p (.lst xs))
theorem HX {x1} (h:PA X es t):PE X (.Tuple es x1 pos) (Nc t):=by
 intro pins s σ H Q I hq
 refine wpAny_Tuple_spliced (dc (h pos pins s σ H _ I hq) fun us s1 ⟨xs,H1,I1,r,z,q⟩=>⟨by rw [← r.length];exact z,?_⟩)
 have hf:H1 s1.heap.objs.size=none:=I1.hok.fresh (Nat.le_refl _)
 refine ⟨.ref s1.heap.objs.size,upd H1 s1.heap.objs.size (.tup xs),I1.laid (t':=s1.toks) (fun b u e=>Heap.get?_push_of_some _ e) (Nat.le_refl _) ?_,rfl,q _ hf⟩
 exact ⟨z,us,r,⟨_,Heap.get?_push_size _ rfl,rfl,_,rfl⟩⟩
theorem HY (h:PA X es t):PE X (.List es pos) (Nd t):=by
 intro pins s σ H Q I hq
 refine wpAny_List_spliced (dc (h pos pins s σ H _ I hq) fun us s1 ⟨xs,H1,I1,r,z,q⟩=>⟨by rw [← r.length];exact z,?_⟩)
 have hf:H1 s1.heap.objs.size=none:=I1.hok.fresh (Nat.le_refl _)
 refine ⟨.ref s1.heap.objs.size,upd H1 s1.heap.objs.size (.lst xs),I1.laid (t':=s1.toks) (fun b u e=>Heap.get?_push_of_some _ e) (Nat.le_refl _) ?_,rfl,q _ hf⟩
 exact ⟨z,us,0,r,Heap.get?_push_size _ rfl⟩
end
abbrev Sp:=List V→Hp→VK→XK→Prop
abbrev Ci:=List Env→Hp→Shared→XK→Value→Shared→Prop
structure ER (P:Program) (w:World) (K:PySem.W.Frag) (mg:Str→Option Value) (base:Heap) (A:Around) (outer:List Env) (s:Shared) (H:Hp):Prop where
 frames:A.frames=some outer
 mod:Mod K mg base
 bs:∀ b o,base.get? b=some o→s.heap.get? b=some o∧H b=none
 GJ:base.objs.size≤s.heap.objs.size
 pC:s.heap.FunFrames base outer
 Hw:∀ b∈frs outer,H b=none
 hok:j3 P w H s.heap
 bare:AllBare s.gens
def CE (outer:List Env) (P:Program) (w:World) (H:Hp) (s:Shared) (Q:VK) (u:Value) (s':Shared):Prop:=
 ∃ v H',s'.os=s.os∧AllBare s'.gens∧Un (frs outer) [] H H' s.heap s'.heap∧j3 P w H' s'.heap∧RelV v u∧Q v H'
def CR (CX:Ci) (outer:List Env) (P:Program) (w:World) (H:Hp) (s:Shared) (Q:VK) (E:XK) (r:Result) (s':Shared):Prop:=
 match r with
 | .ok (.ret u)=>CE outer P w H s Q u s'
 | .ok _=>False
 | .error e=>CX outer H s E e s'
structure b8 (P:Program) (w:World) (K:PySem.W.Frag) (mg:Str→Option Value) (base:Heap) (CX:Ci) (k:Nat) (f:Addr) (fd:FuncData) (ps:List Str) (sp:Sp):Prop where
 len:∀ vs H Q E,sp vs H Q E→vs.length=ps.length
 run:∀ (A:Around) (outer:List Env) (s:Shared) (H:Hp) (args:Args) (us:List Value) (vs:List V) (Q:VK) (E:XK),iE k A→ER P w K mg base A outer s H→BindsTo s fd args (ps.zip us)→Vals vs us→sp vs H Q E→
  codeAny (model P w) A (.call (.ref f) args) (CR CX outer P w H s Q E) s
section
variable {X:Cx} {pins:List (Addr ×Obj)} {σ:St} {H:Hp} {s s':Shared}
theorem Inv.Nf (I:Inv X pins σ H s):ER X.prog X.w X.K X.mg X.base X.A X.stack s H:=
 ⟨I.ok.frames,I.ok.mod,I.bs,Nat.le_trans I.ok.GJ I.sz,I.stack,I.zM,I.hok,I.bare⟩
theorem Inv.after {Q:VK} {u:Value} (I:Inv X pins σ H s) (h:CE X.stack X.prog X.w H s Q u s'):EP X pins σ Q u s':=by
 obtain ⟨v,H',os,bare,un,hok,r,q⟩:=h
 obtain ⟨hh,g,d,t,os'⟩:=s'
 obtain rfl:os'=s.os:=os
 exact ⟨v,H',I.call (h':=hh) (g':=g) (d':=d) (t':=t) (ch:=[]) un hok bare (fun b z=>absurd z (by simp)),r,q⟩
end
def Ks (sp:Sp) (BZ:List V) (E:XK) (t:TA):TE:=fun σ H Q=>t σ H fun vs H1=>sp (vs ++ BZ) H1 Q E
def Binds (K:PySem.W.Frag) (fd:FuncData) (ps:List Str) (ds:List Value):Prop:=
 ∀ (s:Shared) (us:List Value),K.In s.heap→(us ++ ds).length=ps.length→BindsTo s fd ⟨us,[]⟩ (ps.zip (us ++ ds))
theorem Binds.all {K:PySem.W.Frag} {fd:FuncData} {ps:List Str} (h:∀ us:List Value,us.length=ps.length→bindArgs fd ⟨us,[]⟩=pure (ps.zip us)):Binds K fd ps []:=fun s us _ hl=>by
 rw [List.append_nil] at hl ⊢
 exact .of_eq (h us hl)
def Passes (CX:Ci) (X:Cx) (E:XK):Prop:= ∀ (pins:List (Addr ×Obj)) (σ:St) (H:Hp) (s:Shared) (e:Value) (s':Shared),Inv X pins σ H s→CX X.stack H s E e s'→X.xe e s'
section
variable {X:Cx} {CX:Ci} {k:Nat} {f C:Addr} {fd:FuncData} {ps:List Str} {sp:Sp} {BZ:List V} {ds:List Value} {E:XK} {x m:Str} {p pos apos:Pos} {e o:Expr} {es:List Expr} {ta:TE} {t:TA}
theorem HZ {pins:List (Addr ×Obj)} {σ:St} {H:Hp} {s:Shared} {Q:VK} {us:List Value} {vs:List V} (F:b8 X.prog X.w X.K X.mg X.base CX k f fd ps sp) (hr:iE k X.A) (hb:Binds X.K fd ps ds) (hd:Vals BZ ds) (hx:Passes CX X E)
 (I:Inv X pins σ H s) (r:Vals vs us) (h:sp (vs ++ BZ) H Q E):wpAny (model X.prog X.w) X.A (call (.ref f) us) (EP X pins σ Q) X.xe s:=by
 have r2:Vals (vs ++ BZ) (us ++ ds):=r.append hd
 have hl:(us ++ ds).length=ps.length:=by rw [← r2.length];exact F.len _ _ _ _ h
 refine wpAny_call (codeAny_mono (F.run X.A X.stack s H ⟨us,[]⟩ (us ++ ds) (vs ++ BZ) Q E hr I.Nf (hb s us I.we hl) r2 h) fun r s' hq=>?_)
 cases r with
 | error e=>exact hx pins σ H s e s' I hq
 | ok fl=>
   cases fl with
   | ret u=>exact I.after hq
   | next=>exact False.elim hq
   | brk=>exact False.elim hq
   | cont=>exact False.elim hq
theorem zS (F:b8 X.prog X.w X.K X.mg X.base CX k f fd ps sp) (hr:iE k X.A) (hg:Gl X x) (hm:X.mg x=some (.ref f)) (hk:PySem.W.keepIn X.K (.ref f)=true) (hb:Binds X.K fd ps ds) (hd:Vals BZ ds) (hx:Passes CX X E)
 (ha:PA X (e :: es) t) (hdb:(x == ("__debug__" :Str))=false:=by decide) (he:starEach (e :: es) X.env=(false,eval e X.env) :: starEach es X.env:=by rfl) (hpl:(backTo pos (starEach es X.env)).any (·.1)=false:=by rfl) :
 PE X (.Call (.Name x p) (e :: es) [] pos) (Ks sp BZ E t):=by
 intro pins s σ H Q I h
 refine wpAny_Call_Name_kw (EF I hg hm ?_ hdb)
 refine PySem.W.callWith_K (h₀:=X.base) I.ok.mod.MI hk (dc (ha pos pins s σ H _ I h) fun us s1 ⟨vs,H1,I1,r,q⟩=>⟨I1.we,?_⟩) he hpl
 exact HZ F hr hb hd hx I1 r q
structure Mk (K:PySem.W.Frag) (C f:Addr):Prop where
 makes:PySem.W.makesIn K C=true
 init:PySem.W.findIn K (.ref C) "__init__" =some (some (.ref f))
 fn:PySem.W.isFn K (.ref f)=true
 kp:PySem.W.keepIn K (.ref C)=true
end
section
variable {X:Cx} {CX:Ci} {k:Nat} {f C:Addr} {fd:FuncData} {ps ks:List Str} {sp:Sp} {E:XK} {x m:Str} {p pos apos kpos:Pos} {e o:Expr} {es:List Expr} {kws:List Keyword} {te ta:TE} {t tk:TA} {nm:Option Str}
structure Ng (K:PySem.W.Frag) (fd:FuncData) (ps ks:List Str) (g:List Value→List Value→List Value) (gV:List V→List V→List V):Prop where
 to:∀ (s:Shared) (us ws:List Value),K.In s.heap→(g us ws).length=ps.length→BindsTo s fd ⟨us,ks.zip ws⟩ (ps.zip (g us ws))
 rel:∀ {vs:List V} {us:List Value} {zs:List V} {ws:List Value},Vals vs us→Vals zs ws→Vals (gV vs zs) (g us ws)
variable {g:List Value→List Value→List Value} {gV:List V→List V→List V}
end
structure aO (N P:List Str) (sc:Scope):Prop where
 kind:sc.kind= .function
 co:sc.isCoroutine=false
 gen:sc.isGenerator=false
 nd:N.Nodup
 pre:N.take P.length=P
 par:∀ x∈P,sc.names.lookup x=some .local∨sc.names.lookup x=some .cell
 Ia:∀ y∈sc.names,y.2≠ .free
theorem tN {kindOf:Str→Option NameKind} {x:Str}:∀ {binds:List (Str ×Value)} {m:Str→Option Value},(∀ v,(x,v)∉binds)→bindL kindOf binds m x=m x
 | [],_,_=>rfl
 | (n,v) :: r,m,h=>by
   unfold bindL
   rw [tN fun w hw=>h w (List.mem_cons_of_mem _ hw)]
   split
   ·have:x≠n:=by rintro rfl;exact h v List.mem_cons_self
    simp [this]
   ·rfl
theorem tO {kindOf:Str→Option NameKind} {x:Str}:∀ {binds:List (Str ×Value)} {m:Str→Option Value},(∀ v,(x,v)∉binds)→bindC kindOf binds m x=m x
 | [],_,_=>rfl
 | (n,v) :: r,m,h=>by
   unfold bindC
   rw [tO fun w hw=>h w (List.mem_cons_of_mem _ hw)]
   split
   ·rfl
   ·have:x≠n:=by rintro rfl;exact h v List.mem_cons_self
    simp [this]
theorem tP {kindOf:Str→Option NameKind} {x:Str} {v:Value}:∀ {P:List Str} {vs:List Value} {i:Nat} {m:Str→Option Value},P.Nodup→P[i]?=some x→vs[i]?=some v→kindOf x=some .local→
 bindL kindOf (P.zip vs) m x=some v
 | [],_,_,_,_,h,_,_=>by simp at h
 | _ :: _,[],_,_,_,_,h,_=>by simp at h
 | p :: P,w :: vs,0,m,nd,h1,h2,hk=>by
   simp at h1 h2;subst h1;subst h2
   show bindL kindOf ((p,w) :: P.zip vs) m p=_
   unfold bindL
   rw [tN fun v hv=>(List.nodup_cons.mp nd).1 (List.of_mem_zip hv).1,if_pos hk]
   simp
 | p :: P,w :: vs,i+1,m,nd,h1,h2,hk=>by
   show bindL kindOf ((p,w) :: P.zip vs) m x=_
   unfold bindL
   exact tP (i:=i) (List.nodup_cons.mp nd).2 (by simpa using h1) (by simpa using h2) hk
theorem tQ {kindOf:Str→Option NameKind} {x:Str} {v:Value}:∀ {P:List Str} {vs:List Value} {i:Nat} {m:Str→Option Value},P.Nodup→P[i]?=some x→vs[i]?=some v→kindOf x≠some .local→
 bindC kindOf (P.zip vs) m x=some v
 | [],_,_,_,_,h,_,_=>by simp at h
 | _ :: _,[],_,_,_,_,h,_=>by simp at h
 | p :: P,w :: vs,0,m,nd,h1,h2,hk=>by
   simp at h1 h2;subst h1;subst h2
   show bindC kindOf ((p,w) :: P.zip vs) m p=_
   unfold bindC
   rw [tO fun v hv=>(List.nodup_cons.mp nd).1 (List.of_mem_zip hv).1,if_neg hk]
   simp
 | p :: P,w :: vs,i+1,m,nd,h1,h2,hk=>by
   show bindC kindOf ((p,w) :: P.zip vs) m x=_
   unfold bindC
   exact tQ (i:=i) (List.nodup_cons.mp nd).2 (by simpa using h1) (by simpa using h2) hk
def start (N:List Str) (vs:List V):St:=vs.map some ++ List.replicate (N.length - vs.length) none
def pG (CX:Ci) (P:Program) (w:World) (K:PySem.W.Frag) (mg:Str→Option Value) (base:Heap) (N:List Str) (qual:Str) (scope:Scope) (f:Addr) (cd:Value) (A:Around) (outer:List Env) (s:Shared) (H:Hp) (E:XK):Cx where
 prog:=P
 w:=w
 K:=K
 mg:=mg
 base:=base
 A:=A.deeper (envOfC qual scope s.heap.objs.size f cd)
 N:=N
 s₀:=s
 H₀:=H
 env:=envOfC qual scope s.heap.objs.size f cd
 outer:=outer
 stack:=envOfC qual scope s.heap.objs.size f cd :: outer
 ex:=[]
 calm:=true
 fn:=fun _=>true
 pn:=[]
 xe:=fun e s'=>wpAny (model P w) (A.deeper (envOfC qual scope s.heap.objs.size f cd)) (leaving (envOfC qual scope s.heap.objs.size f cd) e) (fun _ s''=>CX outer H s E e s'') (fun e' s''=>CX outer H s E e' s'') s'
theorem wz {sc:Scope} {n:Nat} {x:Str} (h:sc.names.lookup x=some .cell):∃ c,(cellsFrom n sc.names []).lookup x=some c:=by
 have q:=PySem.W.cellsFrom_some sc.names n [] (.inl h)
 exact Option.isSome_iff_exists.mp q
theorem A0 {CX:Ci} {P:Program} {w:World} {K:PySem.W.Frag} {mg:Str→Option Value} {base:Heap} {N ps:List Str} {qual:Str} {scope:Scope} {f:Addr} {cd:Value} {A:Around} {outer:List Env} {s s1:Shared} {H:Hp} {E:XK} {us:List Value} {vs:List V}
 (S:aO N ps scope) (hd:A.handled=none) (e0:ER P w K mg base A outer s H) (hl:vs.length=ps.length) (r:Vals vs us)
 (x:InCallC s s.heap.objs.size (bindL (envOfC qual scope s.heap.objs.size f cd).kindOf (ps.zip us) fun _=>none) (cellsFrom (s.heap.objs.size+1) scope.names []) (bindC (envOfC qual scope s.heap.objs.size f cd).kindOf (ps.zip us) fun _=>none) s1) :
 Inv (pG CX P w K mg base N qual scope f cd A outer s H E) [] (start N vs) H s1:=by
 have hpl:ps.length≤N.length:=by have:=congrArg List.length S.pre;rw [List.length_take] at this;omega
 obtain ⟨h1,tk,rfl,hk⟩:=x.done
 have Ku:∀ b:Addr,b∉(pG CX P w K mg base N qual scope f cd A outer s H E).ex:=fun b z=>absurd (show b∈([]:List Addr) from z) (by simp)
 refine ⟨⟨e0.mod,S.kind,rfl,rfl,Nat.le_refl _,fun y z c h1 h2=>?_,fun y hy=>?_,fun y c _ h=>?_,fun _=>hd,Around.frames_deeper e0.frames,.inr ⟨rfl,rfl⟩,fun b z=>absurd z (Ku b),e0.bs,e0.GJ,fun b _ _=>Ku b,fun b z=>absurd z (Ku b),e0.pC,e0.Hw⟩,
  rfl,e0.bare,Un.kept hk,⟨_,x.toInCall.ns,fun i y v h1 h2 h3=>?_⟩,fun y c h=>⟨_,x.cell y c h⟩,e0.hok.fresh (Nat.le_refl _),fun y c h=>?_,fun p hp=>absurd (show p∈([]:List (Addr ×Obj)) from hp) (by simp),e0.hok.kept hk,?_⟩
 ·exact name_of_addr x.apart (PySem.mem_of_lookup h1) (PySem.mem_of_lookup h2)
 ·have hy:scope.names.lookup y=some .cell∨scope.names.lookup y=some .free:=hy
  rcases hy with hy | hy
  ·exact wz hy
  ·exact absurd rfl (S.Ia _ (PySem.mem_of_lookup hy))
 ·exact Nat.le_of_lt (x.above y c (PySem.mem_of_lookup h))
 ·have hi:i < vs.length:=by
   unfold start at h2
   by_cases hi:i < vs.length
   ·exact hi
   ·rw [List.getElem?_append_right (by simpa using hi)] at h2
    rw [List.getElem?_replicate] at h2
    split at h2 <;> cases h2
  have ha:vs[i]?=some v:=by
   unfold start at h2
   rw [List.getElem?_append_left (by simpa using hi),List.getElem?_map] at h2
   cases e:vs[i]? with
   | none=>rw [e] at h2;cases h2
   | some a=>rw [e] at h2;cases h2;rfl
  obtain ⟨u,hu,rv⟩:=r.get ha
  have hp:ps[i]?=some y:=by
   rw [← S.pre,List.getElem?_take_of_lt (by omega)];exact h1
  have Pn:ps.Nodup:=by rw [← S.pre];exact S.nd.sublist (List.take_sublist _ _)
  refine ⟨u,rv,?_⟩
  rcases S.par y (List.mem_of_getElem? hp) with k | k
  ·exact .inl ⟨k,tP Pn hp hu k⟩
  ·obtain ⟨c,e⟩:=wz (n:=s.heap.objs.size+1) k
   refine .inr ⟨.inl k,c,e,?_⟩
   have q:=x.cell y c e
   rw [tQ Pn hp hu (by show scope.names.lookup y≠_;rw [k];decide)] at q
   exact q
 ·exact e0.hok.fresh (Nat.le_of_lt (x.above y c (PySem.mem_of_lookup h)))
 ·unfold start
  show _=N.length
  rw [List.length_append,List.length_map,List.length_replicate]
  omega
theorem Kv {CX:Ci} {P:Program} {w:World} {K:PySem.W.Frag} {mg:Str→Option Value} {base:Heap} {k:Nat} {f:Addr} {name qual:Str} {params:Arguments} {body:List Stmt} {scope:Scope} {dV kV doc pm cdv ct oc:Value} {an od:Option Addr}
 {osl:Array (Option Value)} {N ps:List Str} {sp:Sp} (lk:K.lookup f=some ⟨oc,od,.func (PySem.W.fnOf name qual params body scope dV kV doc pm an cdv ct),osl⟩) (hcd:PySem.W.codeIn K cdv qual=true) (S:aO N ps scope)
 (len:∀ vs H Q E,sp vs H Q E→vs.length=ps.length)
 (hbody:∀ (A:Around) (outer:List Env) (s:Shared) (H:Hp) (vs:List V) (Q:VK) (E:XK),iE k (A.deeper (envOfC qual scope s.heap.objs.size f cdv))→sp vs H Q E→
  ∃ t,yC (pG CX P w K mg base N qual scope f cdv A outer s H E) body t∧t { nx:=fun _ H'=>Q .bA H',rt:=Q } (start N vs) H) :
 b8 P w K mg base CX (k+1) f (PySem.W.fnOf name qual params body scope dV kV doc pm an cdv ct) ps sp:=by
 refine ⟨len,fun A outer s H args us vs Q E hr e0 hb r GO=>?_⟩
 have hl:=len _ _ _ _ GO
 have KX:K.In s.heap:=e0.mod.MI.keeps fun b o e=>(e0.bs b o e).1
 have lim:s.heap.NoLimit:=e0.mod.nolimit.keeps fun b o e=>(e0.bs b o e).1
 have hkind:∀ y∈ps.zip us,scope.names.lookup y.1=some .local∨(scope.names.lookup y.1=some .cell∧((cellsFrom (s.heap.objs.size+1) scope.names []).lookup y.1).isSome=true):=fun ⟨n,v⟩ hy=>by
  rcases S.par n (List.of_mem_zip hy).1 with q | q
  ·exact .inl q
  ·exact .inr ⟨q,PySem.W.cellsFrom_some _ _ _ (.inl q)⟩
 refine codeAny_call_function hr.depth (KX _ _ lk) rfl S.co S.gen rfl (PySem.W.codeRec_of KX hcd) (hb _ _ _ _ ?_)
 refine wpAny_newFunctionEnv_cells S.kind hkind fun env he s1 x=>?_
 subst he
 refine ⟨lim.keeps x.toInCall.keep,codeAny_func ?_⟩
 obtain ⟨t,ht,hq⟩:=hbody A outer s H vs Q E (hr.deeper _) GO
 have I:Inv (pG CX P w K mg base N qual scope f cdv A outer s H E) [] (start N vs) H s1:=A0 S hr.hd e0 hl r x
 refine wpAny_mono (ht [] s1 (start N vs) H _ I hq) (fun fl s' hs=>?_) fun e s' hs=>hs
 have fin:∀ {σ':St} {H':Hp} {v:V} {u:Value},Inv (pG CX P w K mg base N qual scope f cdv A outer s H E) [] σ' H' s'→RelV v u→Q v H'→CE outer P w H s Q u s':=
  fun {σ' H' v u} J rv q=>⟨v,H',J.os,J.bare,J.base,J.hok,rv,q⟩
 cases fl with
 | ret u=>
   obtain ⟨v,σ',H',J,rv,q⟩:=hs
   exact fin J rv q
 | next=>
   obtain ⟨σ',H',J,q⟩:=hs
   exact fin (v:=V.bA) (u:=Value.none) J rfl q
 | brk=>
   obtain ⟨_,_,_,q⟩:=hs
   exact False.elim q
 | cont=>
   obtain ⟨_,_,_,q⟩:=hs
   exact False.elim q
end L2
namespace L2
open PySem PySem.Spec PyProof.Rows
section
variable {X:Cx} {x:Str} {p pos:Pos} {e:Expr} {es:List Expr} {t:TA} {id T:String} {r:List V→Hp→VK→Prop}
end
end L2
namespace HT
open PySem PyProof.Rows
def lexLt:List Int→List Int→Bool
 | [],[]=>false
 | [],_ :: _=>true
 | _ :: _,[]=>false
 | x :: xs,y :: ys=>if x=y then lexLt xs ys else decide (x < y)
theorem ju (x y:Int) (xs ys:List Int):lexLt (x :: xs) (y :: ys)=if x=y then lexLt xs ys else decide (x < y):=rfl
theorem iF:lexLt [] []=false:=rfl
theorem kh (y:Int) (ys:List Int):lexLt [] (y :: ys)=true:=rfl
theorem ki (x:Int) (xs:List Int):lexLt (x :: xs) []=false:=rfl
theorem wA (A:Around) (s:Shared) (a:Int) (t:Tok) (c:Int) (u:Tok):∃ e,SeqAt.EqAt A s (.int a t) (.int c u) e∧(e=true↔a=c):=
 ⟨(a == c),SeqAt.EqAt.int_int a t c u,by simp⟩
theorem Cj (A:Around) (s:Shared) (a:Int) (t:Tok) (c:Int) (u:Tok) (prog:Program) (w:World) (E:Value→Shared→Prop) (Q:Value→Shared→Prop) (h:Q (.bool (decide (a < c))) s) :
 wpAny (model prog w) A (richCompare .Lt (.int a t) (.int c u)) Q E s:=
 (PyProof.Rows.lt_int h:wpAny (model prog w) A (compareOp .Lt (.int a t) (.int c u)) Q E s)
section
open PySem.SeqAt
open PySem.AutoSeq1 (wpAny_loadPart')
open PySem.MeetsSeq PySem.MeetsSeq2 PySem.MeetsSeq3
theorem sA (l b:Addr) (items items2:Array Value) (n n2:Nat) (dd dd2:Option Addr) (sl sl2:Array (Option Value)) (ns ms:List Int) (hi:IntsAre items.toList ns) (hj:IntsAre items2.toList ms) :
 Meets (Builtin.«tuple.__lt__» ⟨[.ref l,.ref b],[]⟩)
  (fun _ R s=>s.heap.get? l=some { cls:= .type "tuple",dict:=dd,data:= .seq items n,slots:=sl }∧s.heap.get? b=some { cls:= .type "tuple",dict:=dd2,data:= .seq items2 n2,slots:=sl2 }∧
   R (.ok (.ret (.bool (lexLt ns ms)))) s):=
 .of_wp fun prog w A R s h=>by
  obtain ⟨hp,g,d,tk,os⟩:=s;obtain ⟨hl,hb,h⟩:=h
  have f2:=AutoSeq1.sub_tuple_tuple
  have z1:items.size=ns.length:=by rw [← hi.length];simp
  have z2:items2.size=ms.length:=by rw [← hj.length];simp
  wp_walk using wpAny_loadPart' hl,wpAny_loadPart' hb,wpAny_forIn_list _ (fun rest b s'=>b.1=none∧s'= ⟨hp,g,d,tk,os⟩∧∃ (vs ws:List Value) (ns' ms':List Int),rest=vs.zip ws∧
   IntsAre vs ns'∧IntsAre ws ms'∧ns'.length+items2.size=ms'.length+items.size∧R (.ok (.ret (.bool (lexLt ns' ms')))) ⟨hp,g,d,tk,os⟩) _
  case turn=>
   rintro ⟨y,x⟩ rest b s' ⟨hb',rfl,vs,ws,ns',ms',hz,Ib,hwi,hlen,hR⟩
   cases Ib with
   | nil=>rw [List.zip_nil_left] at hz;cases hz
   | cons a t Ic=>
     cases hwi with
     | nil=>rw [List.zip_nil_right] at hz;cases hz
     | cons c u Ie=>
       rw [List.zip_cons_cons] at hz
       injection hz with hyx hrest
       injection hyx with hy hx
       subst hy hx
       rw [ju] at hR
       simp only [List.length_cons] at hlen
       obtain ⟨e,he,hiff⟩:=wA A.in1 ⟨hp,g,d,tk,os⟩ a t c u
       refine wpAny_bind (he prog w _ _ ?_)
       cases e with
       | true=>
         rw [if_pos (hiff.mp rfl)] at hR
         wp_walk
         exact ⟨rfl,rfl,_,_,_,_,hrest,Ic,Ie,by omega,hR⟩
       | false=>
         rw [if_neg (fun q=>absurd (hiff.mpr q) Bool.false_ne_true)] at hR
         have Nh:=Cj A.in1 ⟨hp,g,d,tk,os⟩ a t c u prog w
         wp_walk using Nh
         exact ⟨_,rfl,by simpa using hR⟩
  case fin=>
   rintro ⟨b1,b2⟩ s' ⟨hb',rfl,vs,ws,ns',ms',hz,Ib,hwi,hlen,hR⟩
   simp only at hb'
   subst hb'
   have hv:lexLt ns' ms'=decide (items.size < items2.size):=by
    cases Ib with
    | nil=>
      cases hwi with
      | nil=>
        simp only [List.length_nil] at hlen
        rw [iF]
        exact (decide_eq_false (by omega)).symm
      | cons c u hw=>
        simp only [List.length_nil,List.length_cons] at hlen
        rw [kh]
        exact (decide_eq_true (by omega)).symm
    | cons a t hv=>
      cases hwi with
      | nil=>
        simp only [List.length_nil,List.length_cons] at hlen
        rw [ki]
        exact (decide_eq_false (by omega)).symm
      | cons c u hw=>
        rw [List.zip_cons_cons] at hz
        cases hz
   rw [hv] at hR
   wp_walk
   exact ⟨_,rfl,by simpa [Builtin.Tuple.tupleCompareSizes] using hR⟩
  case h=>
   exact ⟨rfl,rfl,items.toList,items2.toList,ns,ms,rfl,hi,hj,by omega,h⟩
end
section
variable {prog:Program} {w:World} {A:Around} {E:Value→Shared→Prop} {s:Shared}
theorem lY {l b:Addr} {items items2:Array Value} {ns ms:List Int} {Q:Value→Shared→Prop} (hl:IsTup s.heap l items) (hb:IsTup s.heap b items2) (hi:IntsAre items.toList ns) (hj:IntsAre items2.toList ms)
 (hu:A.units < cLine) (h:Q (.bool (lexLt ns ms)) s):wpAny (model prog w) A (compareOp .Lt (.ref l) (.ref b)) Q E s:=by
 obtain ⟨⟨cls,dd,data,sl⟩,ho,hc,n,hd⟩:=id hl
 obtain ⟨⟨Ni,dd2,data2,sl2⟩,ho2,hc2,n2,hd2⟩:=id hb
 simp only at hc hd hc2 hd2
 subst hc hd hc2 hd2
 exact richCompare_meets_room (op:= .Lt) ⟨_,ho,rfl⟩ ⟨_,ho2,rfl⟩ PySem.F.slot_tuple_lt PySem.F.entry_tuple_lt (PySem.F.args_tuple_lt_2 _ _) (sA l b items items2 n n2 dd dd2 sl sl2 ns ms hi hj)
  ⟨ho,ho2,show Value.bool (lexLt ns ms)≠Value.notImplemented∧Q (.bool (lexLt ns ms)) s from ⟨(fun x=>nomatch x),h⟩⟩ hu
def oU (n d:Nat):Option Int→Nat
 | none=>d
 | some v=>if v < 0 then (v+(n:Int)).toNat else min v.toNat n
theorem wB (n d:Nat):oU n d none=d:=rfl
theorem zT (n d k:Nat):oU n d (some (k:Int))=min k n:=by
 show (if (k:Int) < 0 then ((k:Int)+(n:Int)).toNat else min (k:Int).toNat n)=min k n
 rw [if_neg (by omega),Int.toNat_natCast]
end
end HT
namespace L2
open PySem PySem.Spec PyProof.Rows
abbrev TO:=St→Hp→(Option Int→Hp→Prop)→Prop
def PO (X:Cx) (e:Option Expr) (t:TO):Prop:=
 ∀ (pins:List (Addr ×Obj)) (s:Shared) (σ:St) (H:Hp) (Q:Option Int→Hp→Prop),Inv X pins σ H s→t σ H Q→
   wpAny (model X.prog X.w) X.A (evalPart e X.env) (fun u s'=> ∃ o H',Inv X pins σ H' s'∧IsPart u o∧Q o H') X.xe s
def zU:TO:=fun _ H Q=>Q none H
def GP (t:TE):TO:=fun σ H Q=>t σ H fun x H1=> ∃ i,x= .int i∧Q (some i) H1
theorem intsAre_of {ns:List Int}:∀ {us:List Value},Vals (ns.map V.int) us→IntsAre us ns:=by
 induction ns with
 | nil=>intro us r;rw [List.map_nil] at r;cases r;exact .nil
 | cons n ns ih=>
   intro us r
   rw [List.map_cons] at r
   cases r with
   | cons r1 r2=>
     obtain ⟨t,e⟩:=r1
     subst e
     exact .cons n t (ih r2)
section
variable {X:Cx} {e:Expr} {te:TE} {lo hi:Option Expr} {tl th:TO} {pos p2:Pos}
theorem ES:PO X none zU:=by
 intro pins s σ H Q I h
 rw [evalPart_none]
 exact wpAny_pure ⟨none,H,I,.none,h⟩
theorem ET (h:PE X e te):PO X (some e) (GP te):=by
 intro pins s σ H Q I hw
 rw [evalPart_some]
 refine dc (h pins s σ H _ I hw) fun u s1 ⟨x,H1,I1,r1,q1⟩=>?_
 obtain ⟨i,rfl,q⟩:=q1
 obtain ⟨t,rfl⟩:=r1
 exact ⟨some i,H1,I1,.int i t,q⟩
def Po (X:Cx) (r:V→Option Int→Option Int→Hp→VK→Prop):Prop:=
 ∀ (pins:List (Addr ×Obj)) (s:Shared) (σ:St) (H:Hp) (x:V) (v vl vu:Value) (lo hi:Option Int) (sl:Addr) (Q:VK),Inv X pins σ H s→RelV x v→s.heap.IsSliceOf sl vl vu .none→IsPart vl lo→IsPart vu hi→r x lo hi H Q→
   ∃ T id,typeLookup (.type T) "__getitem__" =pure (some (.builtin id))∧s.TypeIs v T∧wpAny (model X.prog X.w) X.A (getItem v (.ref sl)) (EP X pins σ Q) X.xe s
def QL (r:V→Option Int→Option Int→Hp→VK→Prop) (te:TE) (tl th:TO):TE:=fun σ H Q=>te σ H fun x H1=>tl σ H1 fun l H2=>th σ H2 fun u H3=>r x l u H3 Q
theorem Ck {r:V→Option Int→Option Int→Hp→VK→Prop} (hr:Po X r) (he:PE X e te) (hl:PO X lo tl) (hu:PO X hi th):PE X (.Subscript e (.Slice lo hi none p2) pos) (QL r te tl th):=by
 intro pins s σ H Q I h
 refine Subscript_ (dc (he pins s σ H _ I h) fun v s1 ⟨x,H1,I1,r1,q1⟩=>?_)
 refine wpAny_Slice (dc (hl pins s1 σ H1 _ I1 q1) fun vl s2 ⟨l,H2,I2,pl,q2⟩=>dc (hu pins s2 σ H2 _ I2 q2) fun vu s3 ⟨u,H3,I3,pu,q3⟩=>?_)
 rw [evalPart_none]
 refine wpAny_pure ?_
 have I4:Inv X pins σ H3 { s3 with heap:=s3.heap.push { cls:= .type "slice",data:= .fields #[vl,vu,.none] } }:=I3.kept (t':=s3.toks) fun b ob q=>Heap.get?_push_of_some _ q
 obtain ⟨T,id,hT,ht,hg⟩:=hr pins { s3 with heap:=s3.heap.push { cls:= .type "slice",data:= .fields #[vl,vu,.none] } } σ H3 x v vl vu l u s3.heap.objs.size Q I4 r1 (Heap.IsSliceOf.new ..) pl pu q3
 show wpAny (model X.prog X.w) X.A (subscriptTail e (.Slice lo hi none p2) v (.ref s3.heap.objs.size)) (EP X pins σ Q) X.xe { s3 with heap:=s3.heap.push { cls:= .type "slice",data:= .fields #[vl,vu,.none] } }
 exact tail_any (ops:=[.ref s3.heap.objs.size,v]) ht hT hg (by with_unfolding_all rfl)
def EU (xs:List V) (lo hi:Option Int):List V:=(xs.drop (HT.oU xs.length 0 lo)).take (HT.oU xs.length xs.length hi - HT.oU xs.length 0 lo)
theorem wC (xs:List V) (lo hi:Option Int):(EU xs lo hi).length≤xs.length:=by
 unfold EU
 rw [List.length_take,List.length_drop]
 omega
def Kw (K:PySem.W.Frag):R2:=fun x y H Q=> ∃ a b ns ms,x= .ref a∧y= .ref b∧Eu K H a (ns.map V.int)∧Eu K H b (ms.map V.int)∧Q (.bl (HT.lexLt ns ms)) H
end
end L2
namespace L2
open PySem PySem.Spec PyProof.Rows
def B0 (n:Nat) (i:Int):Option Nat:=if 0≤i then (if i < n then some i.toNat else none) else if -(n:Int)≤i then some (i+n).toNat else none
def oV {α:Type} (xs:List α) (i:Int):Option α:=(B0 xs.length i).bind fun j=>xs[j]?
theorem EV {n:Nat} {i:Int} {j:Nat} (h:B0 n i=some j):seqIndex? i n=some j∧j < n∧ -(n:Int)≤i∧i < n:=by
 unfold B0 at h
 by_cases h0:0≤i
 ·rw [if_pos h0] at h
  by_cases h1:i < n
  ·rw [if_pos h1] at h
   have e:i.toNat=j:=Option.some.inj h
   exact ⟨by rw [seqIndex_of h0 h1,e],by omega,by omega,h1⟩
  ·rw [if_neg h1] at h;cases h
 ·rw [if_neg h0] at h
  by_cases h1: -(n:Int)≤i
  ·rw [if_pos h1] at h
   have e:(i+n).toNat=j:=Option.some.inj h
   exact ⟨by rw [seqIndex_neg (by omega) h1,e],by omega,h1,by omega⟩
  ·rw [if_neg h1] at h;cases h
theorem zV {α:Type} {xs:List α} {i:Int} {v:α} (h:oV xs i=some v):∃ j,seqIndex? i xs.length=some j∧xs[j]?=some v∧j < xs.length∧ -(xs.length:Int)≤i∧i < xs.length:=by
 unfold oV at h
 cases e:B0 xs.length i with
 | none=>rw [e] at h;cases h
 | some j=>
   rw [e] at h
   obtain ⟨h1,h2,h3,h4⟩:=EV e
   exact ⟨j,h1,h,h2,h3,h4⟩
theorem bJ {α:Type} {xs:List α} {j:Nat} {v:α} (h:xs[j]?=some v):oV xs (j:Int)=some v:=by
 have hj:j < xs.length:=(List.getElem?_eq_some_iff.mp h).1
 have e:B0 xs.length (j:Int)=some j:=by
  unfold B0
  rw [if_pos (by omega),if_pos (by omega)];simp
 unfold oV;rw [e];exact h
theorem wD {α:Type} (xs:List α) (v:α):oV (xs ++ [v]) (-1)=some v:=by
 have hl:(xs ++ [v]).length=xs.length+1:=by simp
 have e:B0 (xs ++ [v]).length (-1)=some xs.length:=by
  unfold B0
  rw [hl,if_neg (by decide),if_pos (by omega)]
  congr 1
  omega
 unfold oV
 rw [e]
 show (xs ++ [v])[xs.length]?=some v
 simp
def zW (b:Expr):Prop:= ∀ o i,subscripted b false o i=operate [o,i] (getItem o i)
def Ig (X:Cx) (r:R2):Prop:=
 ∀ (value slice:Expr) (pins:List (Addr ×Obj)) (s:Shared) (σ:St) (H:Hp) (x y:V) (v u:Value) (Q:VK),Inv X pins σ H s→RelV x v→RelV y u→r x y H Q→
   subscripted slice false v u=operate [v,u] (getItem v u)→wpAny (model X.prog X.w) X.A (subscriptTail value slice v u) (EP X pins σ Q) X.xe s
def Pp (X:Cx) (id:String) (r:V→List V→Hp→VK→Prop):Prop:=
 ∀ (pins:List (Addr ×Obj)) (s:Shared) (σ:St) (H:Hp) (x:V) (xs:List V) (v:Value) (us:List Value) (Q:VK),Inv X pins σ H s→RelV x v→Vals xs us→r x xs H Q→
   wpAny (model X.prog X.w) X.A (call (.builtin id) (v :: us)) (EP X pins σ Q) X.xe s
section
variable {X:Cx} {a b:Expr} {ta tb:TE} {pos:Pos}
theorem Ig.or {r r':R2} (h:Ig X r) (h':Ig X r'):Ig X (fun x y H Q=>r x y H Q∨r' x y H Q):=by
 intro value slice pins s σ H x y v u Q I rx ry q hs
 rcases q with q | q
 ·exact h value slice pins s σ H x y v u Q I rx ry q hs
 ·exact h' value slice pins s σ H x y v u Q I rx ry q hs
theorem Kx {r:R2} (hr:Ig X r) (ha:PE X a ta) (hb:PE X b tb) (hs:zW b):PE X (.Subscript a b pos) (QG r ta tb):=by
 intro pins s σ H Q I h
 exact Subscript_ (Na ha hb I h fun v u s2 x y H2 I2 rx ry q=>hr a b pins s2 σ H2 x y v u Q I2 rx ry q (hs _ _))
def Nj (K:PySem.W.Frag):R2:=fun x y H Q=> ∃ p xs i v,x= .ref p∧y= .int i∧iD K H p xs∧oV xs i=some v∧Q v H
def Nk (K:PySem.W.Frag):R2:=fun x y H Q=> ∃ p xs i v,x= .ref p∧y= .int i∧Eu K H p xs∧oV xs i=some v∧Q v H
theorem EW:Ig X (Nj X.K):=by
 intro value slice pins s σ H x y v u Q I rx ry h hs
 obtain ⟨p,xs,i,z,rfl,rfl,hq,he,q⟩:=h
 cases rx
 obtain ⟨t,rfl⟩:=ry
 obtain ⟨its,r,pl,hz⟩:=I.list hq
 obtain ⟨j,h1,h2,h3,h4,h5⟩:=zV he
 obtain ⟨w,ew,rw'⟩:=r.get h2
 have hl:=r.length
 have hn:=yE
 have fin:EP X pins σ Q w s:=⟨z,H,I,rw',q⟩
 by_cases h0:0≤i
 ·have hj:i.toNat=j:=by
   rw [seqIndex_of h0 h5] at h1
   exact Option.some.inj h1
  exact item_listR pl.isList h0 (by omega) (by rw [hj];simpa using ew) fin hs
 ·have hj:(i+(its.toArray.size:Int)).toNat=j:=by
   rw [seqIndex_neg (by omega) h4] at h1
   rw [List.size_toArray,← hl]
   exact Option.some.inj h1
  exact subscriptTail_builtinR (x:=w) pl.isList.typeIs slot_list_getitem.lookup
   (wpAny_getItem_list_neg (Q:=fun r s'=>r=w∧EP X pins σ Q r s') pl.isList (by omega) (by rw [List.size_toArray] <;> omega) (by omega) (by rw [hj];simpa using ew) ⟨rfl,fin⟩) hs
theorem Ih:Ig X (Nk X.K):=by
 intro value slice pins s σ H x y v u Q I rx ry h hs
 obtain ⟨p,xs,i,z,rfl,rfl,hq,he,q⟩:=h
 cases rx
 obtain ⟨t,rfl⟩:=ry
 obtain ⟨its,r,pl,hz⟩:=I.tuple hq
 obtain ⟨j,h1,h2,h3,h4,h5⟩:=zV he
 obtain ⟨w,ew,rw'⟩:=r.get h2
 have hl:=r.length
 have hn:=yE
 have fin:EP X pins σ Q w s:=⟨z,H,I,rw',q⟩
 exact subscriptTail_builtinR (x:=w) pl.typeIs slot_tuple_getitem.lookup
  (getItem_tuple (j:=j) (Q:=fun r s'=>r=w∧EP X pins σ Q r s') pl (by omega) (by omega) (by rw [List.size_toArray,← hl];exact h1) (by simpa using ew) ⟨rfl,fin⟩) hs
theorem uJ (lo hi:Option Int) (n:Nat):(sliceBounds lo hi none n).1=((HT.oU n 0 lo:Nat):Int)∧(sliceBounds lo hi none n).2.1=((HT.oU n n hi:Nat):Int)∧(sliceBounds lo hi none n).2.2=1:=by
 refine ⟨?_,?_,rfl⟩
 ·cases lo with
  | none=>simp [sliceBounds,HT.oU]
  | some i=>
    simp only [sliceBounds,HT.oU,Option.getD_none,show (1:Int) > 0 by decide,if_true]
    by_cases h:i < 0
    ·simp only [h,if_true] <;> omega
    ·simp only [h,if_false] <;> omega
 ·cases hi with
  | none=>simp [sliceBounds,HT.oU]
  | some i=>
    simp only [sliceBounds,HT.oU,Option.getD_none,show (1:Int) > 0 by decide,if_true]
    by_cases h:i < 0
    ·simp only [h,if_true] <;> omega
    ·simp only [h,if_false] <;> omega
theorem sC (its:List Value) (lo hi:Option Int):slicePick its.toArray lo hi none=((its.drop (HT.oU its.length 0 lo)).take (HT.oU its.length its.length hi - HT.oU its.length 0 lo)).toArray:=by
 obtain ⟨h1,h2,h3⟩:=uJ lo hi its.toArray.size
 unfold slicePick
 rw [h1,h2,h3]
 simp only [sliceRange_one,pick_run,List.size_toArray] <;> rfl
def Nl (K:PySem.W.Frag):V→Option Int→Option Int→Hp→VK→Prop:=fun x lo hi H Q=> ∃ a xs,x= .ref a∧iD K H a xs∧∀ p,H p=none→Q (.ref p) (upd H p (.lst (EU xs lo hi)))
theorem EX:Po X (Nl X.K):=by
 intro pins s σ H x v vl vu lo hi sl Q I rx hs pl pu h
 obtain ⟨a,xs,rfl,hx,q⟩:=h
 cases rx
 obtain ⟨its,r,ht,hz⟩:=I.list hx
 have hlen:=r.length
 refine ⟨"list",_,slot_list_getitem.lookup,ht.isList.typeIs,?_⟩
 refine wpAny_getItem_list_slice ht.isList hs pl pu .none (by simp) ?_ (by rw [List.size_toArray] <;> omega)
 rw [sC,← hlen]
 refine ⟨.ref s.heap.objs.size,_,I.laid (t':=s.toks) (o:= .lst (EU xs lo hi)) (fun b ob q=>Heap.get?_push_of_some _ q) (Nat.le_refl _) ?_,rfl,q _ (I.hok.fresh (Nat.le_refl _))⟩
 exact ⟨Nat.le_trans (wC xs lo hi) hz,_,0,(r.drop (HT.oU xs.length 0 lo)).take (HT.oU xs.length xs.length hi - HT.oU xs.length 0 lo),Heap.get?_push_size _ rfl⟩
theorem uK:zO X (.builtin "len") (fun xs H Q=> ∃ p ys,xs= [.ref p]∧(iD X.K H p ys∨Eu X.K H p ys)∧Q (.int ys.length) H):=by
 intro pins s σ H xs us Q I r h
 obtain ⟨p,ys,rfl,hq,q⟩:=h
 obtain ⟨u,rfl,rx⟩:=vals1 r
 cases rx
 have hn:=yE
 rcases hq with hq | hq
 ·obtain ⟨its,r',pl,hz⟩:=I.list hq
  have hlen:=r'.length
  exact Calls.call_len_list pl.isList (by simp only [List.size_toArray] <;> omega) ⟨.int ys.length,H,I.tok _,⟨s.toks+1,by rw [List.size_toArray,hlen]⟩,q⟩
 ·obtain ⟨its,r',pl,hz⟩:=I.tuple hq
  have hlen:=r'.length
  exact len_tuple pl (by simp only [List.size_toArray] <;> omega) ⟨.int ys.length,H,I.tok _,⟨s.toks+1,by rw [List.size_toArray,hlen]⟩,q⟩
theorem uL:zO X (.type "list") (fun xs H Q=> ∃ p ys,xs= [.ref p]∧(iD X.K H p ys∨Eu X.K H p ys)∧∀ l,H l=none→Q (.ref l) (upd H l (.lst ys))):=by
 intro pins s σ H xs us Q I r h
 obtain ⟨p,ys,rfl,hq,q⟩:=h
 obtain ⟨u,rfl,rx⟩:=vals1 r
 cases rx
 have fin:∀ (its:List Value),Vals ys its→ys.length≤sizeLine→∀ (h':Heap) (c':Nat),(∀ b o',s.heap.get? b=some o'→h'.get? b=some o')→
  h'.get? s.heap.objs.size=some { cls:= .type "list",dict:=none,data:= .seq its.toArray c',slots:= #[] }→EP X pins σ Q (.ref s.heap.objs.size) { s with heap:=h' }:=fun its r' hz h' c' kp e=>
  ⟨.ref s.heap.objs.size,_,I.laid (t':=s.toks) kp (Nat.le_refl _) (show c9 X.prog X.w _ h' _ (.lst ys) from ⟨hz,its,c',r',e⟩),rfl,q _ (I.hok.fresh (Nat.le_refl _))⟩
 rcases hq with hq | hq
 ·obtain ⟨its,r',pl,hz⟩:=I.list hq
  have hlen:=r'.length
  obtain ⟨o,ho,hc,n,hd⟩:=pl.isList
  exact call_list_seq p (.inl rfl) ho hc hd (fun h' c' kp e=>fin its r' hz h' c' kp e) (by simp only [List.size_toArray] <;> omega)
 ·obtain ⟨its,r',pl,hz⟩:=I.tuple hq
  have hlen:=r'.length
  obtain ⟨o,ho,hc,n,hd⟩:=pl
  exact call_list_seq p (.inr rfl) ho hc hd (fun h' c' kp e=>fin its r' hz h' c' kp e) (by simp only [List.size_toArray] <;> omega)
def Nm (K:PySem.W.Frag) (T:String) (x:V) (H:Hp):Prop:=match x with
 | .str _=>T= "str"
 | .int _=>T= "int"
 | .ref p=>(T= "list"∧∃ xs,iD K H p xs)∨(T= "tuple"∧∃ o,K.lookup p=some o∧o.cls= .type "tuple"∧o.dict=none)∨
  (T= "dict"∧((∃ kvs,H p=some (.dK kvs))∨∃ kvs,H p=some (.dT kvs)))∨(T= "set"∧∃ S n,H p=some (.set S n))
 | _=>False
theorem Cm {pins:List (Addr ×Obj)} {σ:St} {H:Hp} {s:Shared} {T:String} {x:V} {v:Value} (I:Inv X pins σ H s) (r:RelV x v) (ty:Nm X.K T x H) :
 s.TypeIs v T∧∀ a,v= .ref a→∃ ob,s.heap.get? a=some ob∧ob.dict=none:=by
 cases x with
 | str z=>
   obtain ⟨t,rfl⟩:=r
   cases (show T= "str" from ty)
   exact ⟨typeIs_str s z t,fun _ e=>nomatch e⟩
 | int i=>
   obtain ⟨t,rfl⟩:=r
   cases (show T= "int" from ty)
   exact ⟨typeIs_int s i t,fun _ e=>nomatch e⟩
 | ref p=>
   cases r
   rcases ty with ⟨rfl,xs,hq⟩ | ⟨rfl,o,hk,hc,hd⟩ | ⟨rfl,hk⟩ | ⟨rfl,S,n,hk⟩
   ·obtain ⟨its,_,pl,_⟩:=I.list hq
    refine ⟨pl.isList.typeIs,fun a e=>?_⟩
    cases e
    obtain ⟨o,n,e,c,hd,_⟩:=pl
    exact ⟨o,e,hd⟩
   ·refine ⟨⟨o,I.we p o hk,hc⟩,fun a e=>?_⟩
    cases e
    exact ⟨o,I.we _ o hk,hd⟩
   ·have z:∃ o,s.heap.get? p=some o∧o.ExactDict:=by
     rcases hk with ⟨kvs,hk⟩ | ⟨kvs,hk⟩
     ·obtain ⟨_,_,_,_,o,_,_,e,ex,_⟩:=I.hok p _ hk
      exact ⟨o,e,ex⟩
     ·obtain ⟨_,_,_,_,o,_,_,e,ex,_⟩:=I.hok p _ hk
      exact ⟨o,e,ex⟩
    obtain ⟨o,e,ex⟩:=z
    refine ⟨⟨o,e,ex.1⟩,fun a e2=>?_⟩
    cases e2
    exact ⟨o,e,ex.2.1⟩
   ·obtain ⟨o,_,_,_,e,ex,_⟩:=I.hok p _ hk
    refine ⟨⟨o,e,ex.1⟩,fun a e2=>?_⟩
    cases e2
    exact ⟨o,e,ex.2.1⟩
 | _=>exact False.elim ty
def Ky (K:PySem.W.Frag) (T:String) (r:V→List V→Hp→VK→Prop) (to:TE):TE:=fun σ H Q=>to σ H fun x H1=>Nm K T x H1∧r x [] H1 Q
def Nn (K:PySem.W.Frag) (T:String) (r:V→List V→Hp→VK→Prop) (to:TE) (t:TA):TE:=fun σ H Q=>to σ H fun x H1=>Nm K T x H1∧t σ H1 fun xs H2=>r x xs H2 Q
variable {o e:Expr} {es:List Expr} {to:TE} {t:TA} {name:Str} {apos cpos:Pos} {T id:String} {r:V→List V→Hp→VK→Prop}
theorem Ii (pa:PlainAttrs T) (slot:Slot T name id) (hty:typeOf (.builtin id)=pure (.type "method_descriptor")) (hm:Pp X id r) (ho:PE X o to)
 (hbase:attributeBase o name X.env (eval o X.env)=eval o X.env:=by rfl) (hline:(apos.endLine == cpos.line)=true:=by rfl):PE X (.Call (.Attribute o name apos) [] [] cpos) (Ky X.K T r to):=by
 intro pins s σ H Q I h
 refine wpAny_Call_method0_late hbase hline (dc (ho pins s σ H _ I h) fun v s1 ⟨x,H1,I1,r1,ty,q1⟩=>?_)
 obtain ⟨h1,h2⟩:=Cm I1 r1 ty
 exact ⟨T,id,pa,slot,hty,h1,h2,Calls.callWith_builtin rfl (PySem.evalArgs_none (hm pins s1 σ H1 x [] v [] Q I1 r1 .nil q1))⟩
theorem wF (pa:PlainAttrs T) (slot:Slot T name id) (hty:typeOf (.builtin id)=pure (.type "method_descriptor")) (hm:Pp X id r) (ho:PE X o to) (ha:PA X (e :: es) t)
 (hbase:attributeBase o name X.env (eval o X.env)=eval o X.env:=by rfl)
 (hfew:((backTo cpos (starEach (e :: es) X.env)).all (fun x=>!x.1) && (backToKw cpos (keywordEach [] X.env)).all (fun x=>x.1.isSome)
  && decide ((e :: es).length+([]:List Keyword).length+(if ([]:List Keyword).isEmpty then 0 else 1) < 30))=true:=by rfl)
 (hline:(apos.endLine == cpos.line)=true:=by rfl) (hs:starEach (e :: es) X.env=(false,eval e X.env) :: starEach es X.env:=by rfl) (hplain:(backTo cpos (starEach es X.env)).any (·.1)=false:=by rfl) :
 PE X (.Call (.Attribute o name apos) (e :: es) [] cpos) (Nn X.K T r to t):=by
 intro pins s σ H Q I h
 refine wpAny_Call_method_late hbase hfew hline rfl (dc (ho pins s σ H _ I h) fun v s1 ⟨x,H1,I1,r1,ty,q1⟩=>?_)
 obtain ⟨h1,h2⟩:=Cm I1 r1 ty
 refine ⟨T,id,pa,slot,hty,h1,h2,?_⟩
 have hA:=ha cpos pins s1 σ H1 _ I1 q1
 rw [hs] at hA ⊢
 refine Calls.callWith_builtin (by show (false || (backTo cpos (starEach es X.env)).any (·.1))=false;rw [hplain] <;> rfl) (Calls.evalArgs_plain ?_)
 exact dc hA fun us s2 ⟨vs,H2,I2,r2,q2⟩=>hm pins s2 σ H2 x vs v us Q I2 r1 r2 q2
end
end L2
namespace L2
open PySem PySem.Spec PyProof.Rows
def Np (X:Cx) (id:String) (r:V→List V→Hp→VK→Prop):Prop:=
 ∀ (pins:List (Addr ×Obj)) (s:Shared) (σ:St) (H:Hp) (x:V) (xs:List V) (v:Value) (us:List Value) (Q:VK),Inv X pins σ H s→RelV x v→Vals xs us→r x xs H Q→
   wpAny (model X.prog X.w) X.A (call (.builtin id) (v :: us)) (EP X pins σ Q) X.xe s
theorem Vals.one:∀ {x:V} {us:List Value},Vals [x] us→∃ u,us= [u]∧RelV x u
 | _,_,.cons r .nil=>⟨_,rfl,r⟩
theorem Vals.zero:∀ {us:List Value},Vals [] us→us= []
 | _,.nil=>rfl
theorem Vals.dropLast {xs:List V} {us:List Value} (h:Vals xs us):Vals xs.dropLast us.dropLast:=by
 induction h with
 | nil=>exact .nil
 | cons r t ih=>
   cases t with
   | nil=>exact .nil
   | cons q t'=>exact .cons r ih
theorem yF {α:Type} (l:List α):l.eraseIdx (l.length - 1)=l.dropLast:=by
 induction l with
 | nil=>rfl
 | cons a r ih=>
   cases r with
   | nil=>rfl
   | cons b r=>
     have e:(a :: b :: r).length - 1=((b :: r).length - 1)+1:=by
      have h1:(a :: b :: r).length=r.length+2:=rfl
      have h2:(b :: r).length=r.length+1:=rfl
      omega
     rw [e,List.eraseIdx_cons_succ,ih]
     all_goals rfl
section
variable {X:Cx} {pins:List (Addr ×Obj)} {σ:St} {H:Hp} {s:Shared} {l b:Addr} {xs ys zs:List V}
theorem Inv.Ij {its its':List Value} {n:Nat} {f:Array Value→Array Value} {t':Nat} (I:Inv X pins σ H s) (hH:H l=some (.lst xs))
 (e:s.heap.get? l=some { cls:= .type "list",data:= .seq its.toArray n }) (hf:f its.toArray=its'.toArray) (hv:Vals ys its') (hz:ys.length≤sizeLine) :
 Inv X pins σ (upd H l (.lst ys)) { s with heap:=s.heap.update l (Obj.mapSeq f),toks:=t' }:=by
 have q:=PySem.IsL.update e f
 rw [hf] at q
 refine I.write (x:=l) (e:=l) (by rw [hH];exact trivial) (.inl rfl) (fun b' u hb hu=>(Heap.get?_update_other s.heap (Obj.mapSeq f) (Ne.symm hb)).trans hu) ⟨_,q⟩ ?_
 exact ⟨hz,its',_,hv,q⟩
theorem Inv.Nq {its:List Value} {t':Nat} (I:Inv X pins σ H s) (hv:Vals ys its) (hz:ys.length≤sizeLine) :
 Inv X pins σ (upd H s.heap.objs.size (.lst ys)) { s with heap:=s.heap.push { cls:= .type "list",data:= .seq its.toArray },toks:=t' }:=
 I.laid (fun _ _ q=>Heap.get?_push_of_some _ q) (Nat.le_refl _) ⟨hz,its,0,hv,Heap.get?_push_size _ rfl⟩
theorem Inv.fresh (I:Inv X pins σ H s):H s.heap.objs.size=none:=I.hok.fresh (Nat.le_refl _)
theorem Inv.A1 (I:Inv X pins σ H s) (hH:H l=some (.lst xs)):xs.length≤sizeLine∧∃ (its:List Value) (n:Nat),Vals xs its∧xs.length=its.length∧s.heap.get? l=some { cls:= .type "list",data:= .seq its.toArray n }:=by
 obtain ⟨z,its,n,r,e⟩:=I.hok l _ hH
 exact ⟨z,its,n,r,r.length,e⟩
theorem Cn {n:Nat} (h:n≤sizeLine):Builtin.List.listTooLong n=false:=by
 unfold Builtin.List.listTooLong
 exact decide_eq_false (by omega)
end
section
variable {X:Cx}
def zX:V→List V→Hp→VK→Prop:=fun x vs H Q=> ∃ l xs y,x= .ref l∧vs= [y]∧H l=some (.lst xs)∧xs.length < sizeLine∧Q .bA (upd H l (.lst (xs ++ [y])))
theorem kZ:Np X "list.append" zX:=by
 intro pins s σ H x vs v us Q I rx rv h
 obtain ⟨l,xs,y,rfl,rfl,hH,hz,q⟩:=h
 cases rx
 obtain ⟨u,rfl,ru⟩:=rv.one
 obtain ⟨z,its,n,r,hl,e⟩:=I.A1 hH
 refine call_meets F.slot_list_append ⟨_,e,rfl⟩ F.entry_list_append (F.args_list_append_2 _ _) (PySem.list_append l its.toArray n u (by rw [List.size_toArray];omega)) ⟨e,?_⟩
 refine ⟨.bA,_,I.Ij (its':=its ++ [u]) hH e (by simp) (r.append (.cons ru .nil)) ?_,rfl,q⟩
 rw [List.length_append,List.length_singleton]
 omega
def zY:V→List V→Hp→VK→Prop:=fun x vs H Q=> ∃ l b xs zs,x= .ref l∧vs= [.ref b]∧H l=some (.lst xs)∧H b=some (.lst zs)∧xs.length+zs.length≤sizeLine∧Q .bA (upd H l (.lst (xs ++ zs)))
theorem tR:Np X "list.extend" zY:=by
 intro pins s σ H x vs v us Q I rx rv h
 obtain ⟨l,b,xs,zs,rfl,rfl,hH,hB,hz,q⟩:=h
 cases rx
 obtain ⟨u,rfl,ru⟩:=rv.one
 cases ru
 obtain ⟨z,its,n,r,hl,e⟩:=I.A1 hH
 obtain ⟨z2,its2,n2,r2,hl2,e2⟩:=I.A1 hB
 have hsz:its.toArray.size+its2.toArray.size≤sizeLine:=by rw [List.size_toArray,List.size_toArray];omega
 have Kz:¬ (!its.toArray.isEmpty && Builtin.List.listTooLong (its.toArray.size+its2.toArray.size))=true:=by
  rw [Cn hsz,Bool.and_false]
  exact Bool.false_ne_true
 refine call_meets F.slot_list_extend ⟨_,e,rfl⟩ F.entry_list_extend (F.args_list_extend_2 _ _)
  (AutoSeq1.list_extend_list_list_0 l its.toArray n b its2.toArray n2 Kz (by rw [List.size_toArray];omega) (by omega)) ⟨e,e2,?_⟩
 refine ⟨.bA,_,I.Ij (its':=its ++ its2) hH e (by simp) (r.append r2) ?_,rfl,q⟩
 rw [List.length_append]
 omega
def KA:V→List V→Hp→VK→Prop:=fun x vs H Q=> ∃ l xs y,x= .ref l∧vs= []∧H l=some (.lst xs)∧xs[xs.length - 1]?=some y∧Q y (upd H l (.lst xs.dropLast))
theorem Ik:Np X "list.pop" KA:=by
 intro pins s σ H x vs v us Q I rx rv h
 obtain ⟨l,xs,y,rfl,rfl,hH,hy,q⟩:=h
 cases rx
 have QM:=rv.zero
 subst QM
 obtain ⟨z,its,n,r,hl,e⟩:=I.A1 hH
 obtain ⟨u,hu,ru⟩:=r.get hy
 have hy':its.toArray[its.toArray.size - 1]?=some u:=by
  show its.toArray[its.length - 1]?=some u
  rw [← Array.getElem?_toList,← hl]
  exact hu
 refine call_meets F.slot_list_pop ⟨_,e,rfl⟩ F.entry_list_pop (F.args_list_pop_1 _) (MeetsSeq.list_pop_last l its.toArray n u hy' (by rw [List.size_toArray];omega)) ⟨e,?_⟩
 refine ⟨y,_,I.Ij (its':=its.dropLast) hH e ?_ r.dropLast ?_,ru,q⟩
 ·show its.toArray.eraseIdxIfInBounds (its.toArray.size - 1)=its.dropLast.toArray
  rw [List.size_toArray,List.eraseIdxIfInBounds_toArray,yF]
 ·rw [List.length_dropLast]
  omega
def Nr:R2:=fun x y H Q=> ∃ l b xs zs,x= .ref l∧y= .ref b∧H l=some (.lst xs)∧H b=some (.lst zs)∧xs.length+zs.length≤sizeLine∧∀ p,H p=none→Q (.ref p) (upd H p (.lst (xs ++ zs)))
theorem Il:wu X (binaryOp .Add) Nr:=by
 intro pins s σ H x y v u Q I rx ry h
 obtain ⟨l,b,xs,zs,rfl,rfl,hH,hB,hz,q⟩:=h
 cases rx
 cases ry
 obtain ⟨z,its,n,r,hl,e⟩:=I.A1 hH
 obtain ⟨z2,its2,n2,r2,hl2,e2⟩:=I.A1 hB
 refine PySem.P.add_list e e2 ?_ (by rw [List.size_toArray,List.size_toArray];omega)
 have ea:its.toArray ++ its2.toArray=(its ++ its2).toArray:=by simp
 rw [ea]
 exact ⟨.ref _,_,I.Nq (t':=s.toks) (r.append r2) (by rw [List.length_append];omega),rfl,q _ I.fresh⟩
end
section
variable {prog:Program} {w:World} {A:Around} {E:Value→Shared→Prop} {s:Shared}
end
section
variable {X:Cx}
end
end L2
namespace Att
open PySem PySem.W PySem.Calls PyProof.Rows
theorem pH {P:Params} {h:Heap}:∀ (ns:List Int) (vs:List Value),WellAll P h vs (ns.map WData.int)→IntsAre vs ns:=by
 intro ns
 induction ns with
 | nil=>
   intro vs w
   rw [List.map_nil] at w
   cases w
   exact .nil
 | cons n ns ih=>
   intro vs w
   rw [List.map_cons] at w
   cases w with
   | cons a b=>
     cases a
     exact .cons _ _ (ih _ b)
theorem A2 {l:OpenLaw} {n:Nat} (hn:l.most=some n) {P:Params} {h:Heap} {args:List WData} {vals:List Value}
 (hpre:l.row.toRowW.claim.pre args=true) (hwl:WellAll P h vals args) :
 ∃ a vs ns,vals= [Value.ref a]∧args= [WData.list (ns.map WData.int)]∧h.get? a=some { cls:= .type "list",data:= .seq vs.toArray }∧IntsAre vs ns∧ns.length≤n:=by
 have hsh:WShape.hasAll [] args [.list .int]=true:=(pre_splitW hpre).1
 have hc:l.pre.holds [] { args:=args }=true:=(pre_splitW hpre).2
 obtain ⟨d,r,rfl,h1,h2⟩:=hasAllW_cons hsh
 obtain rfl:=hasAllW_nil h2
 obtain ⟨xs,rfl,h3⟩:=hasW_list h1
 obtain ⟨ns,rfl⟩:=items_int h3
 have hlen:ns.length≤n:=by
  unfold OpenLaw.pre at hc
  have h4:(WTm.not (.lt (.lit (.int (n:Int))) (.len (.arg 0)))).holds [] { args:=[.list (ns.map .int)] }=true:=by
   have h4:=(holds_andW hc).1
   rw [hn] at h4
   exact h4
  have h5:=condW_of h4 (w_not (w_lt w_lit (w_len_list (w_arg rfl))))
  rw [List.length_map] at h5
  refine Nat.le_of_not_lt fun q=>?_
  have q':(n:Int) < ((ns.length:Nat):Int):=by omega
  first
   | (rw [decide_eq_true q'] at h5;exact absurd h5 (by decide))
   | (simp at h5;omega)
 cases hwl with
 | cons w1 w2=>
   cases w2
   cases w1 with
   | list ho hall=>exact ⟨_,_,ns,rfl,rfl,ho,pH ns _ hall,hlen⟩
theorem A3 (l:OpenLaw) (args:List WData):l.row.toRowW.claim.post args (.bool true) args=true:=
 postW_of (r:=l.row.toRowW) (X:=(true == true))
  (show WShape.has [] (.bool true) .bool=true by first | rfl | decide | simp [WShape.has,WShape.arms,WShape.armsAll])
  (show (WTm.eq .res (.lit (.bool true))).value [] { args:=args,res:=some (.bool true),after:=args }=some (.bool (true == true)) from w_eq_bool (w_res rfl) w_lit) rfl
section
variable {prog:Program} {w:World} {A:Around} {E:Value→Shared→Prop} {s:Shared} {K:Frag}
end
end Att
namespace L2
open PySem PySem.Spec PyProof.Rows
theorem tS:∀ {vs:List Value} {ns:List Int},IntsAre vs ns→Vals (ns.map V.int) vs
 | _,_,.nil=> .nil
 | _,_,.cons n t h=> .cons ⟨t,rfl⟩ (tS h)
def EY (H:Hp):Prop:= ∀ b,H b=none∨∃ o xs,H b=some (.mK o (.lst xs))
theorem Co {P:Program} {w:World} {K:PySem.W.Frag} {mg mb:Str→Option Value} {CX:Ci} {k:Nat} {fa a:Addr} {fd:FuncData} {x:Str} {sp:Sp} {s₁:Shared} {vs:List Value} {ns:List Int}
 (KX:K.In s₁.heap) (hns:s₁.heap.Ns mainGlobals mg) (hb:s₁.heap.Ns builtinsNs mb) (QN:∀ x:Str,x≠"__name__"→mb x=bootBuiltins x) (hlim:s₁.heap.NoLimit) (hg:s₁.gens= #[])
 (ha:s₁.heap.get? a=some { cls:= .type "list",data:= .seq vs.toArray }) (hi:IntsAre vs ns) (hl:ns.length≤sizeLine) (hr:iE k callerA)
 (F:∀ base:Heap,K.In base→base.Ns mainGlobals mg→b8 P w K mg base CX k fa fd [x] sp) (hbind:∀ (s:Shared) (u:Value),BindsTo s fd ⟨[u],[]⟩ [(x,u)])
 (GO:∀ H:Hp,EY H→iD K H a (ns.map V.int)→sp [.ref a] H (fun v _=>v= .bl true) fun _ _ _=>False)
 (Nt:∀ H e s',CX [] H s₁ (fun _ _ _=>False) e s'→False) :
 codeAny (model P w) callerA (.call (.ref fa) ⟨[.ref a],[]⟩) (fun r s'=>r= .ok (.ret (.bool true))∧OldK s₁.heap s'.heap∧s'.os=s₁.os∧AllBare s'.gens) s₁:=by
 have rv:=tS hi
 have Nu:=hi.length
 have core:∀ H:Hp,EY H→iD K H a (ns.map V.int)→j3 P w H s₁.heap→(∀ b,H b≠none→b=a)→(H a≠none→K.lookup a=none)→
  codeAny (model P w) callerA (.call (.ref fa) ⟨[.ref a],[]⟩) (fun r s'=>r= .ok (.ret (.bool true))∧OldK s₁.heap s'.heap∧s'.os=s₁.os∧AllBare s'.gens) s₁:=by
  intro H hO hS hok hA hK
  have zZ:∀ {b:Addr} {o:Obj},s₁.heap.get? b=some o→H b=none→(uI s₁.heap H).get? b=some o:=fun e n=>B7 e n
  have Ku:∀ {b:Addr} {o:Obj} {es:Array DictEntry} {ep:Nat},s₁.heap.get? b=some o→o.data= .dict es ep→H b=none:=fun {b o es ep} e d=>by
   cases q:H b with
   | none=>rfl
   | some u=>
     have e':b=a:=hA b (by rw [q];simp)
     subst e'
     rw [ha] at e;cases e
     have d':Data.seq vs.toArray _=Data.dict es ep:=d
     cases d'
  have L7:∀ {b:Addr} {m:Str→Option Value},s₁.heap.Ns b m→(uI s₁.heap H).Ns b m:=fun {b m} ⟨o,es,ep,e,d,r⟩=>⟨o,es,ep,zZ e (Ku e d),d,r⟩
  have Pq:K.In (uI s₁.heap H):=fun b o e=>zZ (KX b o e) (by
   cases q:H b with
   | none=>rfl
   | some u=>
     have e':b=a:=hA b (by rw [q];simp)
     subst e'
     rw [hK (by rw [q];simp)] at e;cases e)
  have hM:Mod K mg (uI s₁.heap H):=⟨Pq,L7 hns,⟨mb,L7 hb,QN⟩,let ⟨mc,h1,h2⟩:=hlim;⟨mc,L7 h1,h2⟩⟩
  have e0:ER P w K mg (uI s₁.heap H) callerA [] s₁ H:=⟨rfl,hM,fun b o e=>ED e,Nat.le_of_eq (AR _ _),trivial,fun b hb=>absurd (show b∈([]:List Addr) from hb) (by simp),hok,.of_eq hg⟩
  refine codeAny_mono ((F _ Pq (L7 hns)).run callerA [] s₁ H ⟨[.ref a],[]⟩ [.ref a] [.ref a] _ _ hr e0 (hbind s₁ (.ref a)) (.cons rfl .nil) (GO H hO hS)) fun r s' h=>?_
  cases r with
  | error e=>exact (Nt H e s' h).elim
  | ok fl=>
    cases fl with
    | next=>exact False.elim h
    | brk=>exact False.elim h
    | cont=>exact False.elim h
    | ret u=>
      obtain ⟨v,H',os,bare,un,Nv,r',q⟩:=h
      have q':v= .bl true:=q
      subst q'
      obtain rfl:u=Value.bool true:=r'
      refine ⟨rfl,OldK.of_keep fun b o e=>?_,os,bare⟩
      cases q:H b with
      | none=>exact un.keep b o e q (by intro z;exact absurd (show b∈([]:List Addr) from z) (by simp)) (by simp)
      | some u=>
        rcases hO b with z | ⟨ob,xs,z⟩
        ·rw [q] at z;cases z
        ·have z2:=un.uH b ob _ z
         obtain ⟨e1,_⟩:=hok b _ z
         obtain ⟨e2,_⟩:=Nv b _ z2
         rw [e] at e1;cases e1
         exact e2
 cases hk:K.lookup a with
 | some o=>
   have e:=KX a o hk
   rw [ha] at e
   cases e
   refine core (fun _=>none) (fun _=> .inl rfl) (.inr ⟨_,vs.toArray,_,hk,rfl,rfl,rfl,by rw [List.size_toArray,Nu];exact hl,by simpa using rv⟩) (fun b u z=>by have z':(none:Option HO)=some u:=z;cases z') (fun b z=>absurd rfl z) fun z=>absurd rfl z
 | none=>
   refine core (fun b=>if b=a then some (.mK { cls:= .type "list",data:= .seq vs.toArray } (.lst (ns.map V.int))) else none) (fun b=>?_) (.inl (.inr ⟨{ cls:= .type "list",data:= .seq vs.toArray },if_pos rfl⟩)) (fun b u z=>?_) (fun b z=>?_) fun _=>hk
   ·by_cases hb:b=a
    ·exact .inr ⟨_,_,if_pos hb⟩
    ·exact .inl (if_neg hb)
   ·by_cases hb:b=a
    ·have z':=(if_pos hb).symm.trans z
     cases z'
     subst hb
     exact ⟨ha,by rw [List.length_map];exact hl,vs,_,rv,ha⟩
    ·have z':=(if_neg hb).symm.trans z
     cases z'
   ·by_cases hb:b=a
    ·exact hb
    ·exact absurd (if_neg hb) z
end L2
namespace L2
open PySem PySem.Spec PyProof.Rows
end L2
namespace L2
open PySem PySem.Spec PyProof.Rows
def k6 (s:Stmt):Arguments:=match s with
 | .FunctionDef _ a _ _ _ _ _ _ _ _=>a
 | _=>{ posonlyargs:=[],args:=[],vararg:=none,kwonlyargs:=[],kw_defaults:=[],kwarg:=none,defaults:=[] }
def gc (s:Stmt):List Stmt:=match s with
 | .FunctionDef _ _ b _ _ _ _ _ _ _=>b
 | _=>[]
def az (s:Stmt):Scope:=match s with
 | .FunctionDef _ _ _ _ _ _ sc _ _ _=>sc
 | _=>{ kind:= .function,names:=[],isGenerator:=false,isCoroutine:=false }
abbrev fZ:Ci:=fun _ _ _ _ _ _=>False
abbrev E0:XK:=fun _ _ _=>False
theorem GQ {X:Cx}:Passes fZ X E0:=fun _ _ _ _ _ _ _ h=>h.elim
structure j6 (K:PySem.W.Frag) (x qual:Str) (st:Stmt) (f:Addr) (fd:FuncData):Prop where
 ex:∃ (oc:Value) (od:Option Addr) (kV doc pm:Value) (an:Option Addr) (cdv ct:Value) (osl:Array (Option Value)),
  fd=PySem.W.fnOf x qual (k6 st) (gc st) (az st) .none kV doc pm an cdv ct∧K.lookup f=some ⟨oc,od,.func fd,osl⟩∧PySem.W.codeIn K cdv qual=true
 kp:PySem.W.keepIn K (.ref f)=true
section
variable {P:Program} {w:World} {K:PySem.W.Frag} {mg:Str→Option Value} {base:Heap}
theorem j6.ok {x qual:Str} {st:Stmt} {f:Addr} {fd:FuncData} {N ps:List Str} {k:Nat} {sp:Sp} (F:j6 K x qual st f fd) (S:aO N ps (az st)) (len:∀ vs H Q E,sp vs H Q E→vs.length=ps.length)
 (hbody:∀ (cdv:Value) (A:Around) (outer:List Env) (s:Shared) (H:Hp) (vs:List V) (Q:VK) (E:XK),iE k (A.deeper (envOfC qual (az st) s.heap.objs.size f cdv))→sp vs H Q E→
  ∃ t,yC (pG fZ P w K mg base N qual (az st) f cdv A outer s H E).Ew (gc st) t∧t { nx:=fun _ H'=>Q .bA H',rt:=Q } (start N vs) H):b8 P w K mg base fZ (k+1) f fd ps sp:=by
 obtain ⟨oc,od,kV,doc,pm,an,cdv,ct,osl,rfl,lk,hcd⟩:=F.ex
 refine Kv lk hcd S len fun A outer s H vs Q E hr GO=>?_
 obtain ⟨t,h,q⟩:=hbody cdv A outer s H vs Q E hr GO
 exact ⟨t,h.Ew,q⟩
theorem j6.binds {x qual:Str} {st:Stmt} {f:Addr} {fd:FuncData} {ps:List Str} (F:j6 K x qual st f fd)
 (h:∀ (kV doc pm:Value) (an:Option Addr) (cdv ct:Value) (us:List Value),us.length=ps.length→bindArgs (PySem.W.fnOf x qual (k6 st) (gc st) (az st) .none kV doc pm an cdv ct) ⟨us,[]⟩=pure (ps.zip us)):Binds K fd ps []:=by
 obtain ⟨oc,od,kV,doc,pm,an,cdv,ct,osl,rfl,lk,hcd⟩:=F.ex
 exact .all (h kV doc pm an cdv ct)
end
section
variable {X:Cx}
end
theorem bB {c A B:Prop} [Decidable c] (h1:c→A) (h2:¬ c→B):if c then A else B:=by
 by_cases h:c
 ·rw [if_pos h]
  exact h1 h
 ·rw [if_neg h]
  exact h2 h
end L2
set_option maxHeartbeats 4000000
namespace L3
open PySem PySem.Spec PyProof.Rows L2
abbrev St:=L2.St
inductive D where
 | bA | bl (b:Bool) | int (i:Int) | str (x:Str) | ty (n:String) | ref (a:Addr) | tup (xs:List D) | wG (xs:List D) | GR (n:String) | exc (C:Addr) (nm:Str) (xs:List D)
def Kl (K:PySem.W.Frag) (a:Addr) (xs:List V):Prop:=
 ∃ (o:Obj) (its:Array Value) (n:Nat),K.lookup a=some o∧o.cls= .type "list"∧o.dict=none∧o.data= .seq its n∧its.size≤sizeLine∧Vals xs its.toList
def Fz (K:PySem.W.Frag) (H:Hp) (a:Addr) (xs:List V):Prop:=(∃ o,H a=some (.mK o (.lst xs)))∨Kl K a xs
theorem Fz.sq {K:PySem.W.Frag} {H:Hp} {a:Addr} {xs:List V} (h:Fz K H a xs):iD K H a xs:=by
 rcases h with ⟨o,h⟩ | h
 ·exact .inl (.inr ⟨o,h⟩)
 ·exact .inr h
abbrev xO (C t:Addr):Obj:={ cls:= .ref C,data:= .fields #[.ref t,.none,.none,.none,.bool false,.none] }
abbrev yO (C t d:Addr):Obj:={ cls:= .ref C,dict:=some d,data:= .fields #[.ref t,.none,.none,.none,.bool false,.none] }
def Xo (H:Hp) (C:Addr) (nm:Str) (o:Obj) (xs:List V):Prop:=(xs= []∧∃ t,o=xO C t)∨∃ t dx od vx,xs= [vx]∧o=yO C t dx∧H dx=some (.mK od (.xd [(nm,vx)]))
mutual
def Dat (K:PySem.W.Frag) (H:Hp):D→V→Prop
 | .bA,v=>v= .bA
 | .bl b,v=>v= .bl b
 | .int i,v=>v= .int i
 | .str x,v=>v= .str x
 | .ty n,v=>v= .ty n
 | .ref a,v=>v= .ref a
 | .tup ds,v=> ∃ a xs,v= .ref a∧H a=some (.tup xs)∧aG K H ds xs
 | .wG ds,v=> ∃ a xs,v= .ref a∧Fz K H a xs∧aG K H ds xs
 | .GR n,v=> ∃ a o u,v= .ref a∧H a=some (.mK o u)∧o.cls= .type n
 | .exc C nm ds,v=> ∃ a o u xs,v= .ref a∧H a=some (.mK o u)∧Xo H C nm o xs∧aG K H ds xs
def aG (K:PySem.W.Frag) (H:Hp):List D→List V→Prop
 | [],xs=>xs= []
 | d :: ds,xs=> ∃ v vs,xs=v :: vs∧Dat K H d v∧aG K H ds vs
end
structure Ext (H H':Hp):Prop where
 tup:∀ b xs,H b=some (.tup xs)→H' b=some (.tup xs)
 mK:∀ b o u,H b=some (.mK o u)→H' b=some (.mK o u)
theorem Fz.mono {K:PySem.W.Frag} {H H':Hp} {a:Addr} {xs:List V} (e:Ext H H') (h:Fz K H a xs):Fz K H' a xs:=by
 rcases h with ⟨o,h⟩ | h
 ·exact .inl ⟨o,e.mK _ _ _ h⟩
 ·exact .inr h
theorem Xo.mono {H H':Hp} {C:Addr} {nm:Str} {o:Obj} {xs:List V} (e:Ext H H') (h:Xo H C nm o xs):Xo H' C nm o xs:=by
 rcases h with h | ⟨t,dx,od,vx,e1,e2,e3⟩
 ·exact .inl h
 ·exact .inr ⟨t,dx,od,vx,e1,e2,e.mK _ _ _ e3⟩
mutual
theorem Dat.mono {K:PySem.W.Frag} {H H':Hp} (e:Ext H H'):∀ (d:D) (v:V),Dat K H d v→Dat K H' d v
 | .bA,v,h=>by simpa [Dat] using h
 | .bl b,v,h=>by simpa [Dat] using h
 | .int i,v,h=>by simpa [Dat] using h
 | .str x,v,h=>by simpa [Dat] using h
 | .ty n,v,h=>by simpa [Dat] using h
 | .ref a,v,h=>by simpa [Dat] using h
 | .tup ds,v,h=>by
   obtain ⟨a,xs,e1,e2,e3⟩:=(show ∃ a xs,v= .ref a∧H a=some (.tup xs)∧aG K H ds xs from by simpa only [Dat] using h)
   have:=aG.mono e ds xs e3
   simp only [Dat]
   exact ⟨a,xs,e1,e.tup _ _ e2,this⟩
 | .wG ds,v,h=>by
   obtain ⟨a,xs,e1,e2,e3⟩:=(show ∃ a xs,v= .ref a∧Fz K H a xs∧aG K H ds xs from by simpa only [Dat] using h)
   have:=aG.mono e ds xs e3
   simp only [Dat]
   exact ⟨a,xs,e1,e2.mono e,this⟩
 | .GR n,v,h=>by
   obtain ⟨a,o,u,e1,e2,e3⟩:=(show ∃ a o u,v= .ref a∧H a=some (.mK o u)∧o.cls= .type n from by simpa only [Dat] using h)
   simp only [Dat]
   exact ⟨a,o,u,e1,e.mK _ _ _ e2,e3⟩
 | .exc C nm ds,v,h=>by
   obtain ⟨a,o,u,xs,e1,e2,e3,e4⟩:=(show ∃ a o u xs,v= .ref a∧H a=some (.mK o u)∧Xo H C nm o xs∧aG K H ds xs from by simpa only [Dat] using h)
   have:=aG.mono e ds xs e4
   simp only [Dat]
   exact ⟨a,o,u,xs,e1,e.mK _ _ _ e2,e3.mono e,this⟩
theorem aG.mono {K:PySem.W.Frag} {H H':Hp} (e:Ext H H'):∀ (ds:List D) (xs:List V),aG K H ds xs→aG K H' ds xs
 | [],xs,h=>by simpa [aG] using h
 | d :: ds,xs,h=>by
   obtain ⟨v,vs,e1,e2,e3⟩:=(show ∃ v vs,xs=v :: vs∧Dat K H d v∧aG K H ds vs from by simpa only [aG] using h)
   have h1:=Dat.mono e d v e2
   have h2:=aG.mono e ds vs e3
   simp only [aG]
   exact ⟨v,vs,e1,h1,h2⟩
end
section
variable {K:PySem.W.Frag} {H:Hp}
theorem cJ {v:V}:Dat K H .bA v↔v= .bA:=by simp only [Dat]
theorem bu {b:Bool} {v:V}:Dat K H (.bl b) v↔v= .bl b:=by simp only [Dat]
theorem aJ {i:Int} {v:V}:Dat K H (.int i) v↔v= .int i:=by simp only [Dat]
theorem gf {x:Str} {v:V}:Dat K H (.str x) v↔v= .str x:=by simp only [Dat]
theorem yG {n:String} {v:V}:Dat K H (.ty n) v↔v= .ty n:=by simp only [Dat]
theorem aK {a:Addr} {v:V}:Dat K H (.ref a) v↔v= .ref a:=by simp only [Dat]
theorem bK {ds:List D} {v:V}:Dat K H (.tup ds) v↔∃ a xs,v= .ref a∧H a=some (.tup xs)∧aG K H ds xs:=by simp only [Dat]
theorem mP {ds:List D} {v:V}:Dat K H (.wG ds) v↔∃ a xs,v= .ref a∧Fz K H a xs∧aG K H ds xs:=by simp only [Dat]
theorem Aa {n:String} {v:V}:Dat K H (.GR n) v↔∃ a o u,v= .ref a∧H a=some (.mK o u)∧o.cls= .type n:=by simp only [Dat]
theorem EZ {C:Addr} {nm:Str} {ds:List D} {v:V}:Dat K H (.exc C nm ds) v↔∃ a o u xs,v= .ref a∧H a=some (.mK o u)∧Xo H C nm o xs∧aG K H ds xs:=by simp only [Dat]
theorem aL {xs:List V}:aG K H [] xs↔xs= []:=by simp only [aG]
theorem aF {d:D} {ds:List D} {xs:List V}:aG K H (d :: ds) xs↔∃ v vs,xs=v :: vs∧Dat K H d v∧aG K H ds vs:=by simp only [aG]
theorem aG.length:∀ {ds:List D} {xs:List V},aG K H ds xs→ds.length=xs.length
 | [],xs,h=>by rw [aL.mp h];rfl
 | d :: ds,xs,h=>by
   obtain ⟨v,vs,rfl,_,h⟩:=aF.mp h
   simp [aG.length h]
theorem aG.get:∀ {ds:List D} {xs:List V} {i:Nat} {d:D},aG K H ds xs→ds[i]?=some d→∃ v,xs[i]?=some v∧Dat K H d v
 | [],xs,_,_,_,e=>by simp at e
 | d :: ds,xs,i,d',h,e=>by
   obtain ⟨v,vs,rfl,h1,h2⟩:=aF.mp h
   cases i with
   | zero=>simp at e;subst e;exact ⟨v,rfl,h1⟩
   | succ i=>exact aG.get (i:=i) h2 (by simpa using e)
theorem aG.back:∀ {ds:List D} {xs:List V} {i:Nat} {v:V},aG K H ds xs→xs[i]?=some v→∃ d,ds[i]?=some d∧Dat K H d v
 | [],xs,i,v,h,e=>by rw [aL.mp h] at e;simp at e
 | d :: ds,xs,i,v',h,e=>by
   obtain ⟨v,vs,rfl,h1,h2⟩:=aF.mp h
   cases i with
   | zero=>simp at e;subst e;exact ⟨d,rfl,h1⟩
   | succ i=>exact aG.back (i:=i) h2 (by simpa using e)
theorem aG.append:∀ {ds es:List D} {xs ys:List V},aG K H ds xs→aG K H es ys→aG K H (ds ++ es) (xs ++ ys)
 | [],es,xs,ys,h,h'=>by rw [aL.mp h];exact h'
 | d :: ds,es,xs,ys,h,h'=>by
   obtain ⟨v,vs,rfl,h1,h2⟩:=aF.mp h
   exact aF.mpr ⟨v,vs ++ ys,rfl,h1,h2.append h'⟩
theorem aG.one {d:D} {v:V} (h:Dat K H d v):aG K H [d] [v]:=aF.mpr ⟨v,[],rfl,h,aL.mpr rfl⟩
end
inductive MO where
 | lst (ds:List D)
 | Ny (kvs:List (List (List Int) ×D))
abbrev Mp:=Addr→Option MO
def aA (M:Mp) (a:Addr) (o:MO):Mp:=fun b=>if b=a then some o else M b
def KC:Mp:=fun _=>none
theorem ah {M:Mp} {a:Addr} {o:MO}:aA M a o a=some o:=by unfold aA;rw [if_pos rfl]
theorem bC {M:Mp} {a b:Addr} {o:MO} (h:b≠a):aA M a o b=M b:=by unfold aA;rw [if_neg h]
theorem kj {M:Mp} {a:Addr} {o u:MO}:aA (aA M a o) a u=aA M a u:=by
 funext b;unfold aA;split <;> rfl
theorem aj {M:Mp} {a b:Addr} {o u:MO} (h:M b=some o) (n:M a=none):aA M a u b=some o:=by
 rw [bC (fun e=>by subst e;rw [h] at n;cases n)];exact h
def Le (M M':Mp):Prop:= ∀ a o,M a=some o→M' a=some o
theorem Le.refl (M:Mp):Le M M:=fun _ _ h=>h
theorem Le.trans {M M1 M2:Mp} (a:Le M M1) (b:Le M1 M2):Le M M2:=fun c o h=>b c o (a c o h)
theorem Le.new {M:Mp} {a:Addr} {o:MO} (n:M a=none):Le M (aA M a o):=fun _ _ h=>aj h n
def KD (ks:List (List Int)):Int:=reduceHash (Builtin.Tuple.tupleHashOf (ks.map fun k=>reduceHash (Builtin.Tuple.tupleHashOf (k.map hashInt))))
abbrev DX:=List (List (List Int) ×Addr ×Value)
def Nz (x:List (List Int) ×Addr ×Value):DictEntry:=⟨KD x.1,.ref x.2.1,x.2.2⟩
def NB (a:Addr) (xs:DX):Heap→Prop:=fun h=> ∃ o es ep,h.get? a=some o∧o.ExactDict∧o.data= .dict es ep∧es.toList=xs.map Nz
def kD (k:List (List Int)):D:= .tup (k.map fun l=> .tup (l.map .int))
def E1 (K:PySem.W.Frag) (H:Hp) (p:List (List Int) ×D) (x:List (List Int) ×Addr ×Value):Prop:=p.1=x.1∧Dat K H (kD p.1) (.ref x.2.1)∧∃ v,Dat K H p.2 v∧RelV v x.2.2
theorem E1.mono {K:PySem.W.Frag} {H H':Hp} (e:Ext H H') {p:List (List Int) ×D} {x:List (List Int) ×Addr ×Value} (h:E1 K H p x):E1 K H' p x:=by
 obtain ⟨h1,h2,v,h3,h4⟩:=h
 exact ⟨h1,Dat.mono e _ _ h2,v,Dat.mono e _ _ h3,h4⟩
def JS (K:PySem.W.Frag) (H:Hp) (a:Addr):MO→Prop
 | .lst ds=> ∃ xs,H a=some (.lst xs)∧aG K H ds xs
 | .Ny kvs=> ∃ xs:DX,H a=some (.ext (NB a xs))∧(a == sysModules)=false∧(xs.map (·.1)).Nodup∧Paired (E1 K H) kvs xs
theorem JS.mono {K:PySem.W.Frag} {H H':Hp} {a:Addr} {o:MO} (h:JS K H a o) (e:Ext H H') (s:∀ u,H a=some u→H' a=some u):JS K H' a o:=by
 cases o with
 | lst ds=>
   obtain ⟨xs,e1,e2⟩:=h
   exact ⟨xs,s _ e1,aG.mono e _ _ e2⟩
 | Ny kvs=>
   obtain ⟨xs,e1,y,nd,p⟩:=h
   exact ⟨xs,s _ e1,y,nd,Paired.Hu p fun _ _ z=>z.mono e⟩
theorem JS.has {K:PySem.W.Frag} {H:Hp} {a:Addr} {o:MO} (h:JS K H a o):∃ u,H a=some u∧((∃ xs,u= .lst xs)∨∃ φ,u= .ext φ):=by
 cases o with
 | lst ds=>
   obtain ⟨xs,e1,_⟩:=h
   exact ⟨_,e1,.inl ⟨_,rfl⟩⟩
 | Ny kvs=>
   obtain ⟨xs,e1,_⟩:=h
   exact ⟨_,e1,.inr ⟨_,rfl⟩⟩
def b9 (K:PySem.W.Frag) (H:Hp) (M:Mp):Prop:= ∀ a o,M a=some o→JS K H a o
theorem b9.no {K:PySem.W.Frag} {H:Hp}:b9 K H KC:=fun _ _ h=>by cases h
theorem b9.le {K:PySem.W.Frag} {H:Hp} {M M':Mp} (h:b9 K H M') (l:Le M M'):b9 K H M:=fun a o e=>h a o (l a o e)
theorem b9.lst {K:PySem.W.Frag} {H:Hp} {M:Mp} {a:Addr} {ds:List D} (h:b9 K H M) (e:M a=some (.lst ds)):∃ xs,H a=some (.lst xs)∧aG K H ds xs:=h a _ e
theorem b9.free {K:PySem.W.Frag} {H:Hp} {M:Mp} {a:Addr} (h:b9 K H M) (e:H a=none):M a=none:=by
 cases q:M a with
 | none=>rfl
 | some o=>
   obtain ⟨u,e',_⟩:=(h a o q).has
   rw [e] at e';cases e'
theorem b9.Cp {K:PySem.W.Frag} {H:Hp} {M:Mp} {a:Addr} {u:HO} (h:b9 K H M) (e:H a=some u) (n:∀ xs,u≠ .lst xs) (n2:∀ φ,u≠ .ext φ:=by intro _ z;cases z):M a=none:=by
 cases q:M a with
 | none=>rfl
 | some o=>
   obtain ⟨u',e',h'⟩:=(h a o q).has
   rw [e] at e'
   cases e'
   rcases h' with ⟨xs,z⟩ | ⟨φ,z⟩
   ·exact absurd z (n xs)
   ·exact absurd z (n2 φ)
def Fr (M:Mp) (H:Hp) (M':Mp) (H':Hp):Prop:= ∀ b o,M b=none→H b=some o→H' b=some o∧M' b=none
theorem Fr.refl (M:Mp) (H:Hp):Fr M H M H:=fun _ _ n e=>⟨e,n⟩
theorem Fr.trans {M M1 M2:Mp} {H H1 H2:Hp} (a:Fr M H M1 H1) (b:Fr M1 H1 M2 H2):Fr M H M2 H2:=fun c o n e=>
 let ⟨e1,n1⟩:=a c o n e
 b c o n1 e1
theorem Fr.le {M M1 M2:Mp} {H H1:Hp} (a:Fr M H M1 H1) (l:Le M2 M1):Fr M H M2 H1:=fun b o n e=>by
 obtain ⟨e1,n1⟩:=a b o n e
 refine ⟨e1,?_⟩
 cases q:M2 b with
 | none=>rfl
 | some u=>rw [l b u q] at n1;cases n1
theorem Fr.ext {K:PySem.W.Frag} {M M':Mp} {H H':Hp} (f:Fr M H M' H') (r:b9 K H M):Ext H H':=
 ⟨fun b xs e=>(f b _ (r.Cp e (fun _ z=>by cases z)) e).1,fun b o u e=>(f b _ (r.Cp e (fun _ z=>by cases z)) e).1⟩
theorem Ext.new {H:Hp} {p:Addr} {o:HO} (n:H p=none):Ext H (upd H p o):=
 ⟨fun b xs e=>by rw [aW (bR e n)];exact e,fun b o' u e=>by rw [aW (bR e n)];exact e⟩
theorem Fr.new {M M':Mp} {H:Hp} {p:Addr} {o:HO} (n:H p=none) (h:∀ b,b≠p→M' b=M b):Fr M H M' (upd H p o):=fun b u m e=>by
 have hb:b≠p:=bR e n
 rw [aW hb,h b hb]
 exact ⟨e,m⟩
theorem Fr.write {K:PySem.W.Frag} {M:Mp} {H:Hp} {p:Addr} {o:HO} {u:MO} {v:MO} (m:M p=some u):Fr M H (aA M p v) (upd H p o):=fun b w n e=>by
 have hb:b≠p:=fun z=>by subst z;rw [m] at n;cases n
 rw [aW hb,bC hb]
 exact ⟨e,n⟩
theorem b9.new {K:PySem.W.Frag} {M:Mp} {H:Hp} {p:Addr} {o:HO} (r:b9 K H M) (n:H p=none):b9 K (upd H p o) M:=fun a u e=>
 (r a u e).mono (Ext.new n) fun v q=>by rw [aW (bR q n)];exact q
theorem Ext.ko {H:Hp} {p:Addr} {xs ys:List V} (h:H p=some (.lst xs)):Ext H (upd H p (.lst ys)):=
 ⟨fun b zs e=>by rw [aW (GI e h (by intro z;cases z))];exact e,fun b o u e=>by rw [aW (GI e h (by intro z;cases z))];exact e⟩
theorem b9.newL {K:PySem.W.Frag} {M:Mp} {H:Hp} {p:Addr} {xs:List V} {ds:List D} (r:b9 K H M) (n:H p=none) (d:aG K H ds xs):b9 K (upd H p (.lst xs)) (aA M p (.lst ds)):=fun a u e=>by
 by_cases ha:a=p
 ·subst ha
  rw [ah] at e;cases e
  exact ⟨xs,dZ,aG.mono (Ext.new n) _ _ d⟩
 ·rw [bC ha] at e
  exact r.new n a u e
theorem b9.ko {K:PySem.W.Frag} {M:Mp} {H:Hp} {p:Addr} {xs ys:List V} {ds:List D} (r:b9 K H M) (h:H p=some (.lst xs)) (d:aG K H ds ys):b9 K (upd H p (.lst ys)) (aA M p (.lst ds)):=fun a u e=>by
 by_cases ha:a=p
 ·subst ha
  rw [ah] at e;cases e
  exact ⟨ys,dZ,aG.mono (Ext.ko h) _ _ d⟩
 ·rw [bC ha] at e
  exact (r a u e).mono (Ext.ko h) fun v q=>by rw [aW ha];exact q
abbrev En:=List (Option D)
structure Rep (K:PySem.W.Frag) (H:Hp) (σ:St) (ρ:En) (M:Mp):Prop where
 env:∀ (i:Nat) d,ρ[i]?=some (some d)→∃ v,σ[i]?=some (some v)∧Dat K H d v
 len:ρ.length=σ.length
 mem:b9 K H M
theorem Rep.go {K:PySem.W.Frag} {H H':Hp} {σ:St} {ρ:En} {M M':Mp} (r:Rep K H σ ρ M) (f:Fr M H M' H') (r':b9 K H' M'):Rep K H' σ ρ M':=
 ⟨fun i d e=>let ⟨v,e1,e2⟩:=r.env i d e;⟨v,e1,Dat.mono (f.ext r.mem) _ _ e2⟩,r.len,r'⟩
theorem Rep.set {K:PySem.W.Frag} {H:Hp} {σ:St} {ρ:En} {M:Mp} {i:Nat} {d:D} {v:V} (r:Rep K H σ ρ M) (h:Dat K H d v):Rep K H (σ.set i (some v)) (ρ.set i (some d)) M:=by
 refine ⟨fun j e q=>?_,by simp [r.len],r.mem⟩
 by_cases hj:i=j
 ·subst hj
  by_cases hl:i < ρ.length
  ·rw [List.getElem?_set_self hl] at q
   cases q
   exact ⟨v,List.getElem?_set_self (by rw [← r.len];exact hl),h⟩
  ·rw [List.getElem?_eq_none (by simp;omega)] at q;cases q
 ·rw [List.getElem?_set_ne hj] at q ⊢
  exact r.env j e q
abbrev DK:=D→Mp→Prop
abbrev cY:=En→Mp→DK→Prop
abbrev lZ:=En→Mp→(Bool→Mp→Prop)→Prop
abbrev sj:=En→Mp→(List D→Mp→Prop)→Prop
def Post (K:PySem.W.Frag) (M:Mp) (H:Hp) (Q:DK):VK:=fun v H'=> ∃ d M',Fr M H M' H'∧Dat K H' d v∧b9 K H' M'∧Q d M'
def oW (K:PySem.W.Frag) (M:Mp) (H:Hp) (Q:Bool→Mp→Prop):Bool→Hp→Prop:=fun b H'=> ∃ M',Fr M H M' H'∧b9 K H' M'∧Q b M'
def GS (K:PySem.W.Frag) (M:Mp) (H:Hp) (Q:List D→Mp→Prop):List V→Hp→Prop:=fun vs H'=> ∃ ds M',Fr M H M' H'∧aG K H' ds vs∧b9 K H' M'∧Q ds M'
structure cM (X:Cx) (e:Expr) (t:cY):Prop where
 run:∀ (pins:List (Addr ×Obj)) (s:Shared) (σ:St) (H:Hp) (ρ:En) (M:Mp) (Q:DK),Inv X pins σ H s→Rep X.K H σ ρ M→t ρ M Q→wpAny (model X.prog X.w) X.A (eval e X.env) (EP X pins σ (Post X.K M H Q)) X.xe s
structure yq (X:Cx) (e:Expr) (t:lZ):Prop where
 run:∀ (pins:List (Addr ×Obj)) (s:Shared) (σ:St) (H:Hp) (ρ:En) (M:Mp) (Q:Bool→Mp→Prop),Inv X pins σ H s→Rep X.K H σ ρ M→t ρ M Q→wpAny (model X.prog X.w) X.A (isTrue e X.env (eval e X.env)) (TP X pins σ (oW X.K M H Q)) X.xe s
structure oX (X:Cx) (e:Expr) (t:lZ):Prop where
 run:∀ (whole:Sem Value) (pins:List (Addr ×Obj)) (s:Shared) (σ:St) (H:Hp) (ρ:En) (M:Mp) (Q:Bool→Mp→Prop),Inv X pins σ H s→Rep X.K H σ ρ M→t ρ M Q→wpAny (model X.prog X.w) X.A (isTrue e X.env whole) (TP X pins σ (oW X.K M H Q)) X.xe s
theorem oX.pt {X:Cx} {e:Expr} {t:lZ} (h:oX X e t):yq X e t:=⟨h.run _⟩
structure yH (X:Cx) (es:List Expr) (t:sj):Prop where
 run:∀ (pos:Pos) (pins:List (Addr ×Obj)) (s:Shared) (σ:St) (H:Hp) (ρ:En) (M:Mp) (Q:List D→Mp→Prop),Inv X pins σ H s→Rep X.K H σ ρ M→t ρ M Q→wpAny (model X.prog X.w) X.A (spliced (backTo pos (starEach es X.env))) (AP X pins σ (GS X.K M H Q)) X.xe s
structure GU where
 nx:En→Mp→Prop
 rt:DK
 bk:En→Mp→Prop:=fun _ _=>False
 ct:En→Mp→Prop:=fun _ _=>False
abbrev mL:=GU→En→Mp→Prop
def iY (K:PySem.W.Frag) (M:Mp) (H:Hp) (Q:En→Mp→Prop):St→Hp→Prop:=fun σ' H'=> ∃ ρ' M',Fr M H M' H'∧Rep K H' σ' ρ' M'∧Q ρ' M'
def ends (K:PySem.W.Frag) (M:Mp) (H:Hp) (D:GU):Ends:={ nx:=iY K M H D.nx,rt:=Post K M H D.rt,bk:=iY K M H D.bk,ct:=iY K M H D.ct }
structure Ab (X:Cx) (st:Stmt) (t:mL):Prop where
 run:∀ (pins:List (Addr ×Obj)) (s:Shared) (σ:St) (H:Hp) (ρ:En) (M:Mp) (D:GU),Inv X pins σ H s→Rep X.K H σ ρ M→t D ρ M→wpAny (model X.prog X.w) X.A (exec st X.env) (SP X pins (ends X.K M H D)) X.xe s
structure lC (X:Cx) (st:List Stmt) (t:mL):Prop where
 run:∀ (pins:List (Addr ×Obj)) (s:Shared) (σ:St) (H:Hp) (ρ:En) (M:Mp) (D:GU),Inv X pins σ H s→Rep X.K H σ ρ M→t D ρ M→wpAny (model X.prog X.w) X.A (execs st X.env) (SP X pins (ends X.K M H D)) X.xe s
section
variable {X:Cx}
theorem up {e:Expr} {te:TE} {t:cY} (h:PE X e te) (g:∀ σ H ρ M Q,Rep X.K H σ ρ M→t ρ M Q→te σ H (Post X.K M H Q)):cM X e t:=
 ⟨fun pins s σ H ρ M Q I r q=>h pins s σ H _ I (g σ H ρ M Q r q)⟩
theorem QO {e:Expr} {te:TT} {t:lZ} (h:PT X e te) (g:∀ σ H ρ M Q,Rep X.K H σ ρ M→t ρ M Q→te σ H (oW X.K M H Q)):yq X e t:=
 ⟨fun pins s σ H ρ M Q I r q=>h pins s σ H _ I (g σ H ρ M Q r q)⟩
theorem GV {st:Stmt} {te:TS} {t:mL} (h:PS X st te) (g:∀ σ H ρ M D,Rep X.K H σ ρ M→t D ρ M→te (ends X.K M H D) σ H):Ab X st t:=
 ⟨fun pins s σ H ρ M D I r q=>h pins s σ H _ I (g σ H ρ M D r q)⟩
def dn (K:PySem.W.Frag) (t:cY):TE:=fun σ H Q'=> ∃ ρ M Q,Rep K H σ ρ M∧t ρ M Q∧∀ v H',Post K M H Q v H'→Q' v H'
def NC (K:PySem.W.Frag) (t:lZ):TT:=fun σ H Q'=> ∃ ρ M Q,Rep K H σ ρ M∧t ρ M Q∧∀ v H',oW K M H Q v H'→Q' v H'
def Pu (K:PySem.W.Frag) (t:sj):TA:=fun σ H Q'=> ∃ ρ M Q,Rep K H σ ρ M∧t ρ M Q∧∀ v H',GS K M H Q v H'→Q' v H'
def L8 (K:PySem.W.Frag) (t:mL):TS:=fun D' σ H=> ∃ ρ M D,Rep K H σ ρ M∧t D ρ M∧(∀ σ' H',iY K M H D.nx σ' H'→D'.nx σ' H')∧(∀ v H',Post K M H D.rt v H'→D'.rt v H')∧(∀ σ' H',iY K M H D.bk σ' H'→D'.bk σ' H')∧(∀ σ' H',iY K M H D.ct σ' H'→D'.ct σ' H')
theorem cM.dn {e:Expr} {t:cY} (h:cM X e t):PE X e (dn X.K t):=fun pins s σ H Q' I ⟨ρ,M,Q,r,q,k⟩=>
 dc (h.run pins s σ H ρ M Q I r q) fun _ _ ⟨v,H',I',rv,p⟩=>⟨v,H',I',rv,k v H' p⟩
theorem yq.dn {e:Expr} {t:lZ} (h:yq X e t):PT X e (NC X.K t):=fun pins s σ H Q' I ⟨ρ,M,Q,r,q,k⟩=>
 dc (h.run pins s σ H ρ M Q I r q) fun _ _ ⟨H',I',p⟩=>⟨H',I',k _ H' p⟩
theorem oX.dn {e:Expr} {t:lZ} (h:oX X e t):PW X e (NC X.K t):=fun wh pins s σ H Q' I ⟨ρ,M,Q,r,q,k⟩=>
 dc (h.run wh pins s σ H ρ M Q I r q) fun _ _ ⟨H',I',p⟩=>⟨H',I',k _ H' p⟩
theorem yH.dn {es:List Expr} {t:sj} (h:yH X es t):PA X es (Pu X.K t):=fun pos pins s σ H Q' I ⟨ρ,M,Q,r,q,k⟩=>
 dc (h.run pos pins s σ H ρ M Q I r q) fun _ _ ⟨vs,H',I',rv,p⟩=>⟨vs,H',I',rv,k vs H' p⟩
theorem lC.dn {sts:List Stmt} {t:mL} (h:lC X sts t):yC X sts (L8 X.K t):=fun pins s σ H D' I ⟨ρ,M,D,r,q,k1,k2,k3,k4⟩=>
 dc (h.run pins s σ H ρ M D I r q) fun f s' z=>by
  cases f with
  | next=>obtain ⟨σ',H',I',p⟩:=z;exact ⟨σ',H',I',k1 _ _ p⟩
  | brk=>obtain ⟨σ',H',I',p⟩:=z;exact ⟨σ',H',I',k3 _ _ p⟩
  | cont=>obtain ⟨σ',H',I',p⟩:=z;exact ⟨σ',H',I',k4 _ _ p⟩
  | ret u=>obtain ⟨v,σ',H',I',rv,p⟩:=z;exact ⟨v,σ',H',I',rv,k2 _ _ p⟩
theorem fH {K:PySem.W.Frag} {t:cY} {σ:St} {H:Hp} {ρ:En} {M:Mp} {Q:DK} {Q':VK} (r:Rep K H σ ρ M) (q:t ρ M Q) (k:∀ v H' d M',Fr M H M' H'→Dat K H' d v→Rep K H' σ ρ M'→Q d M'→Q' v H'):dn K t σ H Q':=
 ⟨ρ,M,Q,r,q,fun v H' ⟨d,M',f,dv,rm,p⟩=>k v H' d M' f dv (r.go f rm) p⟩
theorem nT {K:PySem.W.Frag} {t:lZ} {σ:St} {H:Hp} {ρ:En} {M:Mp} {Q:Bool→Mp→Prop} {Q':Bool→Hp→Prop} (r:Rep K H σ ρ M) (q:t ρ M Q) (k:∀ b H' M',Fr M H M' H'→Rep K H' σ ρ M'→Q b M'→Q' b H'):NC K t σ H Q':=
 ⟨ρ,M,Q,r,q,fun b H' ⟨M',f,rm,p⟩=>k b H' M' f (r.go f rm) p⟩
theorem kq {K:PySem.W.Frag} {t:sj} {σ:St} {H:Hp} {ρ:En} {M:Mp} {Q:List D→Mp→Prop} {Q':List V→Hp→Prop} (r:Rep K H σ ρ M) (q:t ρ M Q) (k:∀ vs H' ds M',Fr M H M' H'→aG K H' ds vs→Rep K H' σ ρ M'→Q ds M'→Q' vs H'):Pu K t σ H Q':=
 ⟨ρ,M,Q,r,q,fun v H' ⟨d,M',f,dv,rm,p⟩=>k v H' d M' f dv (r.go f rm) p⟩
theorem aH {K:PySem.W.Frag} {M:Mp} {H:Hp} {Q:DK} {d:D} {v:V} (rm:b9 K H M) (h:Dat K H d v) (q:Q d M):Post K M H Q v H:=⟨d,M,.refl _ _,h,rm,q⟩
theorem Post.back {K:PySem.W.Frag} {M M1:Mp} {H H1:Hp} {Q:DK} {v:V} {H':Hp} (f:Fr M H M1 H1) (p:Post K M1 H1 Q v H'):Post K M H Q v H':=by
 obtain ⟨d,M',f',dv,rm,q⟩:=p
 exact ⟨d,M',f.trans f',dv,rm,q⟩
theorem oW.back {K:PySem.W.Frag} {M M1:Mp} {H H1:Hp} {Q:Bool→Mp→Prop} {b:Bool} {H':Hp} (f:Fr M H M1 H1) (p:oW K M1 H1 Q b H'):oW K M H Q b H':=by
 obtain ⟨M',f',rm,q⟩:=p
 exact ⟨M',f.trans f',rm,q⟩
theorem iY.back {K:PySem.W.Frag} {M M1:Mp} {H H1:Hp} {Q:En→Mp→Prop} {σ:St} {H':Hp} (f:Fr M H M1 H1) (p:iY K M1 H1 Q σ H'):iY K M H Q σ H':=by
 obtain ⟨ρ',M',f',r,q⟩:=p
 exact ⟨ρ',M',f.trans f',r,q⟩
end
end L3
namespace L3
open PySem PySem.Spec PyProof.Rows L2
section
variable {X:Cx} {a b c:Expr} {ta tb tc:cY} {pos:Pos}
def KG (i:Nat):cY:=fun ρ M Q=> ∃ d,ρ[i]?=some (some d)∧Q d M
def Mb (d:D):cY:=fun _ M Q=>Q d M
theorem af (i:Nat) {x:Str} {pos:Pos} (hN:X.N[i]?=some x:=by rfl) (hv:MJ X.env.scope x:=by first | exact Or.inl rfl | exact Or.inr (Or.inl rfl) | exact Or.inr (Or.inr rfl)) (hd:(x == ("__debug__" :Str))=false:=by decide)
 (hcd:(x == ("__classdict__" :Str))=false:=by decide):cM X (.Name x pos) (KG i):=
 up (Hz hN hv hd hcd) fun σ H ρ M Q r ⟨d,e,q⟩=>by
  obtain ⟨v,e1,e2⟩:=r.env i d e
  exact ⟨v,e1,aH r.mem e2 q⟩
theorem ai {i j pos}:cM X (.Constant (.int i) j pos) (Mb (.int i)):=up HA fun _ _ _ _ _ r q=>aH r.mem (aJ.mpr rfl) q
theorem jv {b j pos}:cM X (.Constant (.bool b) j pos) (Mb (.bl b)):=up J6 fun _ _ _ _ _ r q=>aH r.mem (bu.mpr rfl) q
theorem gD {j pos}:cM X (.Constant .none j pos) (Mb .bA):=up HB fun _ _ _ _ _ r q=>aH r.mem (cJ.mpr rfl) q
theorem aV {x:Str} {n:String} {pos:Pos} (hg:Gl X x) (hm:X.mg x=none) (hv:bootBuiltins x=some (.type n)) (hn:x≠"__name__" :=by decide) (hd:(x == ("__debug__" :Str))=false:=by decide):cM X (.Name x pos) (Mb (.ty n)):=
 up (EG (v:= .ty n) hg hm hv rfl hn hd) fun _ _ _ _ _ r q=>aH r.mem (yG.mpr rfl) q
abbrev R3:=D→D→Mp→DK→Prop
structure nP (X:Cx) (f:Value→Value→Sem Value) (t:R3):Prop where
 run:∀ (pins:List (Addr ×Obj)) (s:Shared) (σ:St) (H:Hp) (M:Mp) (x y:V) (d e:D) (v u:Value) (Q:DK),Inv X pins σ H s→b9 X.K H M→RelV x v→RelV y u→Dat X.K H d x→Dat X.K H e y→t d e M Q→
  wpAny (model X.prog X.w) X.A (f v u) (EP X pins σ (Post X.K M H Q)) X.xe s
theorem KH {f:Value→Value→Sem Value} {r:R2} {t:R3} (h:wu X f r) (g:∀ H M x y d e Q,b9 X.K H M→Dat X.K H d x→Dat X.K H e y→t d e M Q→r x y H (Post X.K M H Q)):nP X f t:=
 ⟨fun pins s σ H M x y d e v u Q I rm rx ry dx dy q=>h pins s σ H x y v u _ I rx ry (g H M x y d e Q rm dx dy q)⟩
def E2 (t:R3) (ta tb:cY):cY:=fun ρ M Q=>ta ρ M fun x M1=>tb ρ M1 fun y M2=>t x y M2 Q
theorem KI (ha:cM X a ta) (hb:cM X b tb) {pins:List (Addr ×Obj)} {s:Shared} {σ:St} {H:Hp} {ρ:En} {M:Mp} {R:D→D→Mp→Prop} (I:Inv X pins σ H s) (r:Rep X.K H σ ρ M)
 (h:ta ρ M fun x M1=>tb ρ M1 fun y M2=>R x y M2) {Q:Value→Shared→Prop} {f:Value→Value→Sem Value}
 (hf:∀ v u s2 x y d e H2 M2,Inv X pins σ H2 s2→Rep X.K H2 σ ρ M2→Fr M H M2 H2→RelV x v→RelV y u→Dat X.K H2 d x→Dat X.K H2 e y→R d e M2→wpAny (model X.prog X.w) X.A (f v u) Q X.xe s2) :
 wpAny (model X.prog X.w) X.A (eval a X.env) (fun v s₁=>wpAny (model X.prog X.w) X.A (eval b X.env) (fun u s₂=>wpAny (model X.prog X.w) X.A (f v u) Q X.xe s₂) X.xe s₁) X.xe s:=by
 refine dc (ha.run pins s σ H ρ M _ I r h) fun v s1 ⟨x,H1,I1,r1,d,M1,f1,d1,lG,q1⟩=>?_
 have R1:=r.go f1 lG
 refine dc (hb.run pins s1 σ H1 ρ M1 _ I1 R1 q1) fun u s2 ⟨y,H2,I2,r2,e,M2,f2,d2,GW,q2⟩=>?_
 exact hf v u s2 x y d e H2 M2 I2 (R1.go f2 GW) (f1.trans f2) r1 r2 (Dat.mono (f2.ext lG) _ _ d1) d2 q2
theorem aq {op:Operator} {t:R3} (ho:nP X (binaryOp op) t) (ha:cM X a ta) (hb:cM X b tb):cM X (.BinOp a op b pos) (E2 t ta tb):=by
 constructor
 intro pins s σ H ρ M Q I r h
 refine wpAny_BinOp (KI ha hb I r h fun v u s2 x y d e H2 M2 I2 R2 f rx ry dx dy q=>?_)
 exact dc (ho.run pins s2 σ H2 M2 x y d e v u Q I2 R2.mem rx ry dx dy q) fun _ _ ⟨z,H3,I3,r3,p⟩=>⟨z,H3,I3,r3,p.back f⟩
theorem gX {op:CmpOp} {t:R3} (ho:nP X (compareOp op) t) (ha:cM X a ta) (hb:cM X b tb) (hm:behindInMarks op b=false):cM X (.Compare a [op] [b] pos) (E2 t ta tb):=by
 constructor
 intro pins s σ H ρ M Q I r h
 refine wpAny_Compare1 (KI ha hb I r h fun v u s2 x y d e H2 M2 I2 R2 f rx ry dx dy q=>?_) hm
 exact dc (ho.run pins s2 σ H2 M2 x y d e v u Q I2 R2.mem rx ry dx dy q) fun _ _ ⟨z,H3,I3,r3,p⟩=>⟨z,H3,I3,r3,p.back f⟩
def Cq (t:cY):lZ:=fun ρ M Q=>t ρ M fun x M'=> ∃ k,x= .bl k∧Q k M'
theorem aN {op:CmpOp} {t:R3} (ho:nP X (compareOp op) t) (ha:cM X a ta) (hb:cM X b tb) (hm:behindInMarks op b=false):yq X (.Compare a [op] [b] pos) (Cq (E2 t ta tb)):=by
 constructor
 intro pins s σ H ρ M Q I r h
 refine wpAny_isTrue_Compare1 (dc (ha.run pins s σ H ρ M _ I r h) fun v s1 ⟨x,H1,I1,r1,d,M1,f1,d1,lG,q1⟩=>dc (hb.run pins s1 σ H1 ρ M1 _ I1 (r.go f1 lG) q1) fun u s2 ⟨y,H2,I2,r2,e,M2,f2,d2,GW,q2⟩=>
  dc (ho.run pins s2 σ H2 M2 x y d e v u _ I2 GW r1 r2 (Dat.mono (f2.ext lG) _ _ d1) d2 q2) fun w s3 ⟨z,H3,I3,r3,dz,M3,f3,d3,QS,k,ek,q3⟩=>?_) hm
 subst ek
 obtain rfl:=bu.mp d3
 cases r3
 exact wpAny_truthy_bool ⟨H3,I3,M3,(f1.trans f2).trans f3,QS,q3⟩
theorem gY {e:Expr} {t:cY} (h:cM X e t) (he:∀ whole,isTrue e X.env whole=(do let v ← whole;standAt e.pos;holding [v] (truthy v)):=by intro _;rfl):yq X e (Cq t):=by
 constructor
 intro pins s σ H ρ M Q I r hw
 refine isTrue_plain (dc (h.run pins s σ H ρ M _ I r hw) fun v s1 ⟨x,H1,I1,r1,d,M1,f1,d1,lG,k,ek,q1⟩=>?_) (he _)
 subst ek
 obtain rfl:=bu.mp d1
 cases r1
 exact wpAny_truthy_bool ⟨H1,I1,M1,f1,lG,q1⟩
variable {tA tB:lZ} {rest:List Expr}
def KJ (t u:lZ):lZ:=fun ρ M Q=>t ρ M fun c M1=>if c=true then u ρ M1 Q else Q false M1
def ND (t u:lZ):lZ:=fun ρ M Q=>t ρ M fun c M1=>if c=true then Q true M1 else u ρ M1 Q
def KL (t:lZ):lZ:=fun ρ M Q=>t ρ M fun c M1=>Q (!c) M1
theorem nU (ha:yq X a tA):oX X (.BoolOp .And [a] pos) tA:=⟨fun wh pins s σ H ρ M Q I r h=>dc (pw_and1 ha.dn wh pins s σ H _ I ⟨ρ,M,Q,r,h,fun _ _ z=>z⟩) fun _ _ z=>z⟩
theorem lH (ha:yq X a tA):oX X (.BoolOp .Or [a] pos) tA:=⟨fun wh pins s σ H ρ M Q I r h=>dc (pw_or1 ha.dn wh pins s σ H _ I ⟨ρ,M,Q,r,h,fun _ _ z=>z⟩) fun _ _ z=>z⟩
theorem tT (ha:yq X a tA) (hb:oX X (.BoolOp .And (b :: rest) pos) tB):oX X (.BoolOp .And (a :: b :: rest) pos) (KJ tA tB):=⟨fun wh pins s σ H ρ M Q I r h=>
 pw_and ha.dn hb.dn wh pins s σ H _ I (nT r h fun c H' M' f r' q=>by
  cases c with
  | true=>exact ⟨ρ,M',Q,r',q,fun _ _ p=>p.back f⟩
  | false=>exact ⟨M',f,r'.mem,q⟩)⟩
theorem qo (ha:yq X a tA) (hb:oX X (.BoolOp .Or (b :: rest) pos) tB):oX X (.BoolOp .Or (a :: b :: rest) pos) (ND tA tB):=⟨fun wh pins s σ H ρ M Q I r h=>
 pw_or ha.dn hb.dn wh pins s σ H _ I (nT r h fun c H' M' f r' q=>by
  cases c with
  | true=>exact ⟨M',f,r'.mem,q⟩
  | false=>exact ⟨ρ,M',Q,r',q,fun _ _ p=>p.back f⟩)⟩
theorem k_not (ha:yq X a tA):yq X (.UnaryOp .Not a pos) (KL tA):=QO (HC ha.dn) fun σ H ρ M Q r h=>nT r h fun _ _ M' f r' q=>⟨M',f,r'.mem,q⟩
def Im (ta tb:cY):cY:=fun ρ M Q=>ta ρ M fun x M1=> ∃ c,x= .bl c∧if c=true then tb ρ M1 Q else Q (.bl false) M1
def Io (ta:cY):cY:=fun ρ M Q=>ta ρ M fun x M1=> ∃ c,x= .bl c∧Q (.bl (!c)) M1
theorem lJ {op} {t:cY} (h:cM X a t):cM X (.BoolOp op [a] pos) t:=⟨fun pins s σ H ρ M Q I r hw=>BoolOp_one (h.run pins s σ H ρ M Q I r hw)⟩
theorem gE (ha:cM X a ta) (hb:cM X (.BoolOp .And (b :: rest) pos) tb):cM X (.BoolOp .And (a :: b :: rest) pos) (Im ta tb):=up (HE ha.dn hb.dn) fun σ H ρ M Q r h=>fH r h fun v H' d M' f dv r' ⟨k,ek,q⟩=>by
 subst ek
 obtain rfl:=bu.mp dv
 refine ⟨k,rfl,?_⟩
 cases k with
 | true=>exact ⟨ρ,M',Q,r',q,fun _ _ p=>p.back f⟩
 | false=>exact ⟨.bl false,M',f,bu.mpr rfl,r'.mem,q⟩
theorem Ac (ha:cM X a ta):cM X (.UnaryOp .Not a pos) (Io ta):=up (HF ha.dn) fun σ H ρ M Q r h=>fH r h fun v H' d M' f dv r' ⟨k,ek,q⟩=>by
 subst ek
 obtain rfl:=bu.mp dv
 exact ⟨k,rfl,.bl (!k),M',f,bu.mpr rfl,r'.mem,q⟩
def NF (t:lZ) (ta tb:cY):cY:=fun ρ M Q=>t ρ M fun c M1=>if c=true then ta ρ M1 Q else tb ρ M1 Q
theorem E3 {c:Expr} (hc:yq X c tA) (ha:cM X a ta) (hb:cM X b tb):cM X (.IfExp c a b pos) (NF tA ta tb):=up (B8 hc.dn ha.dn hb.dn) fun σ H ρ M Q r h=>nT r h fun k H' M' f r' q=>by
 cases k with
 | true=>exact ⟨ρ,M',Q,r',q,fun _ _ p=>p.back f⟩
 | false=>exact ⟨ρ,M',Q,r',q,fun _ _ p=>p.back f⟩
def NG (t:D→Mp→DK→Prop) (ta:cY):cY:=fun ρ M Q=>ta ρ M fun x M1=>t x M1 Q
def NH:D→Mp→DK→Prop:=fun d M Q=> ∃ i,d= .int i∧Q (.int (-i)) M
theorem jV (ha:cM X a ta):cM X (.UnaryOp .USub a pos) (NG NH ta):=up (Kg HR ha.dn) fun σ H ρ M Q r h=>fH r h fun v H' d M' f dv r' ⟨i,ek,q⟩=>by
 subst ek
 obtain rfl:=aJ.mp dv
 exact ⟨i,rfl,.int (-i),M',f,aJ.mpr rfl,r'.mem,q⟩
def Sm (n:Nat) (i:Int):Prop:=i.natAbs < 2 ^ n
def MulOk (i j:Int):Prop:= ∃ m n,Sm m i∧Sm n j∧m+n≤100000
theorem qp {k n:Nat} (h:k < 2 ^ n):k.log2≤n:=by
 rcases Nat.eq_zero_or_pos k with z | z
 ·subst z;simp
 ·exact Nat.le_of_lt (by rw [Nat.log2_lt (by omega)];exact h)
theorem mQ {n:Nat} {i:Int} (h:Sm n i):Builtin.Int.intBits i≤n+1:=by
 unfold Builtin.Int.intBits
 have:=qp h
 first
  | (split <;> omega)
  | omega
theorem MulOk.ok {i j:Int} (h:MulOk i j):IntMulOk i j:=by
 obtain ⟨m,n,h1,h2,h3⟩:=h
 have b1:=mQ h1
 have b2:=mQ h2
 exact IntMulOk.of_bits (by omega) (by omega)
def Ip (g:Int→Int→Int):R3:=fun d e M Q=> ∃ i j,d= .int i∧e= .int j∧Q (.int (g i j)) M
def tU (C:Int→Int→Prop) (g:Int→Int→Int):R3:=fun d e M Q=> ∃ i j,d= .int i∧e= .int j∧C i j∧Q (.int (g i j)) M
def Ae (g:Int→Int→Bool):R3:=fun d e M Q=> ∃ i j,d= .int i∧e= .int j∧Q (.bl (g i j)) M
theorem KN {f:Value→Value→Sem Value} {g:Int→Int→Int} (h:wu X f (EN fun i j=> .int (g i j))):nP X f (Ip g):=KH h fun H M x y d e Q rm dx dy ⟨i,j,e1,e2,q⟩=>by
 subst e1;subst e2
 exact ⟨i,j,aJ.mp dx,aJ.mp dy,aH rm (aJ.mpr rfl) q⟩
theorem wH {f:Value→Value→Sem Value} {C:Int→Int→Prop} {g:Int→Int→Int} (h:wu X f (rI C fun i j=> .int (g i j))):nP X f (tU C g):=KH h fun H M x y d e Q rm dx dy ⟨i,j,e1,e2,hc,q⟩=>by
 subst e1;subst e2
 exact ⟨i,j,aJ.mp dx,aJ.mp dy,hc,aH rm (aJ.mpr rfl) q⟩
theorem Cr {f:Value→Value→Sem Value} {g:Int→Int→Bool} (h:wu X f (EN fun i j=> .bl (g i j))):nP X f (Ae g):=KH h fun H M x y d e Q rm dx dy ⟨i,j,e1,e2,q⟩=>by
 subst e1;subst e2
 exact ⟨i,j,aJ.mp dx,aJ.mp dy,aH rm (bu.mpr rfl) q⟩
theorem fJ:nP X (binaryOp .Add) (Ip fun i j=>i+j):=KN HN
theorem bX:nP X (binaryOp .Sub) (Ip fun i j=>i - j):=KN HP
theorem gF:nP X (binaryOp .Mult) (tU MulOk fun i j=>i*j):=wH (Kh fun _ _ _ _ _ _ _ hc q=>mul_int q hc.ok)
theorem bD:nP X (binaryOp .Mod) (tU (fun _ j=>0 < j) fun i j=>i % j):=wH HQ
def KO (_ j:Int):Prop:=0 < j∧∃ n,Sm n j∧n≤8000
theorem cQ:nP X (binaryOp .FloorDiv) (tU KO fun i j=>i / j):=wH (Kh fun i j _ _ _ _ _ hc q=>floordiv_int (by have:=hc.1;omega) (by rw [Int.fdiv_eq_ediv_of_nonneg _ (by have:=hc.1;omega)];exact q) (.inl (PyProof.noPylong_of_log2 (by
 obtain ⟨_,n,h1,h2⟩:=hc
 have:=qp h1
 omega))))
def Cs (i j:Int):Prop:=0≤j∧j≤1000∧i.natAbs < 2 ^ 400
theorem Cs.bits {i j:Int} (h:Cs i j):(Builtin.Int.intBits i:Int)*j≤2 ^ 27:=by
 have hb:Builtin.Int.intBits i≤401:=mQ (n:=400) h.2.2
 have h1:(Builtin.Int.intBits i:Int)*j≤401*j:=Int.mul_le_mul_of_nonneg_right (by omega) h.1
 have:=h.2.1
 omega
theorem lK:nP X (binaryOp .Pow) (tU Cs fun i j=>i ^ j.toNat):=wH (Kh fun _ _ _ _ _ _ _ hc q=>pow_int hc.1 hc.bits q)
theorem NI:nP X (compareOp .Lt) (Ae fun i j=>decide (i < j)):=Cr Kp
theorem KP:nP X (compareOp .Gt) (Ae fun i j=>decide (j < i)):=Cr Kq
theorem NJ:nP X (compareOp .GtE) (Ae fun i j=>decide (j≤i)):=Cr Kr
inductive Mc where
 | bA | bl (b:Bool) | int (i:Int) | str (x:Str)
 deriving DecidableEq
def Mc.d:Mc→D | .bA=> .bA | .bl b=> .bl b | .int i=> .int i | .str x=> .str x
def Mc.v:Mc→V | .bA=> .bA | .bl b=> .bl b | .int i=> .int i | .str x=> .str x
end
end L3
namespace L3
open PySem PySem.Spec PyProof.Rows L2
mutual
def di:D→D→Bool
 | .bA,e=>match e with | .bA=>true | _=>false
 | .bl a,e=>match e with | .bl b=>a == b | .int b=>(if a then 1 else 0) == b | _=>false
 | .int a,e=>match e with | .bl b=>a == (if b then 1 else 0) | .int b=>a == b | _=>false
 | .str a,e=>match e with | .str b=>a == b | _=>false
 | .tup as,e=>match e with | .tup bs=>cZ as bs | _=>false
 | .ty _,_=>false
 | .ref _,_=>false
 | .wG _,_=>false
 | .GR _,_=>false
 | .exc _ _ _,_=>false
def cZ:List D→List D→Bool
 | [],e=>match e with | []=>true | _=>false
 | a :: as,e=>match e with | []=>false | b :: bs=>di a b && cZ as bs
end
def plain:Nat→D→Bool
 | _,.bA=>true
 | _,.bl _=>true
 | _,.int _=>true
 | _,.str _=>true
 | n+1,.tup ds=>ds.all (plain n)
 | _,_=>false
theorem wI:cZ [] []=true:=by simp [cZ]
theorem iZ (a b:D) (as bs:List D):cZ (a :: as) (b :: bs)=(di a b && cZ as bs):=by simp [cZ]
theorem jw (as bs:List D):di (.tup as) (.tup bs)=cZ as bs:=by simp [di]
theorem eB (a b:Int):di (.int a) (.int b)=(a == b):=by simp [di]
theorem eE:∀ (ds es:List D),cZ ds es=((List.range (min ds.length es.length)).all (fun j=>di (ds.getD j .bA) (es.getD j .bA)) && (ds.length == es.length))
 | [],[]=>by simp [cZ]
 | [],e :: es=>by simp [cZ]
 | d :: ds,[]=>by simp [cZ]
 | d :: ds,e :: es=>by
   rw [iZ,eE ds es]
   have h:min (d :: ds).length (e :: es).length=min ds.length es.length+1:=by simp only [List.length_cons];omega
   rw [h,List.range_succ_eq_map,List.all_cons,List.all_map]
   simp only [List.getD_cons_zero,List.length_cons]
   have h2:((fun j=>di ((d :: ds).getD j D.bA) ((e :: es).getD j D.bA))∘Nat.succ)=fun j=>di (ds.getD j D.bA) (es.getD j D.bA):=by
    funext j;simp
   rw [h2]
   have h3:(ds.length+1 == es.length+1)=(ds.length == es.length):=by
    rw [Bool.eq_iff_iff];simp
   rw [h3,Bool.and_assoc]
theorem i6:∀ (n:Nat) (d:D),plain n d=true→di d d=true:=by
 intro n
 induction n with
 | zero=>intro d h;cases d <;> simp [plain] at h <;> simp [di]
 | succ n ih=>
   intro d h
   cases d with
   | tup ds=>
     have h:ds.all (plain n)=true:=by simpa [plain] using h
     rw [jw]
     have:∀ (es:List D),es.all (plain n)=true→cZ es es=true:=by
      intro es
      induction es with
      | nil=>intro _;exact wI
      | cons e es QT=>
        intro h
        rw [List.all_cons,Bool.and_eq_true] at h
        rw [iZ,ih e h.1,QT h.2];rfl
     exact this ds h
   | _=>first | (simp [plain] at h;done) | (simp [di];done)
section
variable {K:PySem.W.Frag} {H:Hp}
theorem Dat.inj:∀ (n:Nat) (d e:D) (v:V),plain n d=true→plain n e=true→Dat K H d v→Dat K H e v→d=e:=by
 intro n
 induction n with
 | zero=>
   intro d e v pd pe hd he
   cases d <;> simp [plain] at pd <;> cases e <;> simp [plain] at pe <;> simp only [Dat] at hd he <;> subst hd <;> first | rfl | (injection he with z;rw [z]) | cases he
 | succ n ih=>
   intro d e v pd pe hd he
   have lists:∀ (ds es:List D) (xs:List V),ds.all (plain n)=true→es.all (plain n)=true→aG K H ds xs→aG K H es xs→ds=es:=by
    intro ds
    induction ds with
    | nil=>
      intro es xs _ _ h1 h2
      rw [aL.mp h1] at h2
      cases es with
      | nil=>rfl
      | cons e es=>obtain ⟨_,_,z,_⟩:=aF.mp h2;cases z
    | cons d ds QU=>
      intro es xs p1 p2 h1 h2
      obtain ⟨v,vs,rfl,g1,g2⟩:=aF.mp h1
      cases es with
      | nil=>cases aL.mp h2
      | cons e es=>
        obtain ⟨v',vs',z,g3,g4⟩:=aF.mp h2
        injection z with z1 z2
        subst z1;subst z2
        rw [List.all_cons,Bool.and_eq_true] at p1 p2
        rw [ih d e v p1.1 p2.1 g1 g3,QU es vs p1.2 p2.2 g2 g4]
   cases d with
   | tup ds=>
     obtain ⟨a,xs,rfl,ha,hx⟩:=bK.mp hd
     cases e with
     | tup es=>
       obtain ⟨b,ys,z,hb,hy⟩:=bK.mp he
       injection z with z
       subst z
       rw [ha] at hb
       injection hb with hb
       injection hb with hb
       subst hb
       rw [lists ds es xs (by simpa [plain] using pd) (by simpa [plain] using pe) hx hy]
     | _=>first | (simp [plain] at pe;done) | (simp only [Dat] at he;cases he)
   | _=>first
     | (simp [plain] at pd;done)
     | (cases e <;> first
      | (simp [plain] at pe;done)
      | (obtain ⟨b,ys,z,hb,hy⟩:=bK.mp he;simp only [Dat] at hd;subst hd;cases z;done)
      | (simp only [Dat] at hd he;subst hd;first | rfl | (injection he with z;rw [z]) | cases he))
end
theorem qb {α:Type} {p:α→Bool} {xs:List α} (h:xs.all p=true) {i:Nat} {x:α} (e:xs[i]?=some x):p x=true:=(List.all_eq_true.mp h) x (List.mem_of_getElem? e)
section
variable {X:Cx} {pins:List (Addr ×Obj)} {σ:St} {H:Hp} {s:Shared}
theorem eX {P:Program} {w:World} {h:Heap} {a:Addr} {xs:List V} (ok:j3 P w H h) (e:H a=some (.tup xs)):∃ its:List Value,Vals xs its∧IsTup h a its.toArray∧xs.length≤sizeLine:=by
 obtain ⟨z,its,r,p⟩:=(show c9 P w H h a (.tup xs) from ok a _ e)
 exact ⟨its,r,p,z⟩
theorem Ct {P:Program} {w:World} (ok:j3 P w H s.heap) {K:PySem.W.Frag}:∀ (n:Nat) (A:Around) (d e:D) (x y:V) (u v:Value),A.units+n < cLine→plain n d=true→plain n e=true→Dat K H d x→Dat K H e y→RelV x u→RelV y v→SeqAt.EqAt A s u v (di d e):=by
 intro n
 induction n with
 | zero=>
   intro A d e x y u v hu pd pe dx dy rx ry
   cases d with
   | tup ds=>simp [plain] at pd
   | ty _=>simp [plain] at pd
   | ref _=>simp [plain] at pd
   | wG _=>simp [plain] at pd
   | GR _=>simp [plain] at pd
   | exc _ _ _=>simp [plain] at pd
   | bA=>
     obtain rfl:=cJ.mp dx
     cases rx
     cases e with
     | bA=>obtain rfl:=cJ.mp dy;cases ry;simpa [di] using SeqAt.EqAt.same (A:=A) (s:=s) Value.none
     | bl b=>obtain rfl:=bu.mp dy;cases ry;simpa [di] using SeqAt.EqAt.none_bool (A:=A) (s:=s) b
     | int b=>obtain rfl:=aJ.mp dy;obtain ⟨t,rfl⟩:=ry;simpa [di] using SeqAt.EqAt.none_int (A:=A) (s:=s) b t
     | str b=>obtain rfl:=gf.mp dy;obtain ⟨t,rfl⟩:=ry;simpa [di] using SeqAt.EqAt.none_str (A:=A) (s:=s) b t
     | _=>simp [plain] at pe
   | bl a=>
     obtain rfl:=bu.mp dx
     cases rx
     cases e with
     | bA=>obtain rfl:=cJ.mp dy;cases ry;simpa [di] using SeqAt.EqAt.bool_none (A:=A) (s:=s) a
     | bl b=>obtain rfl:=bu.mp dy;cases ry;simpa [di] using SeqAt.EqAt.bool_bool (A:=A) (s:=s) a b
     | int b=>obtain rfl:=aJ.mp dy;obtain ⟨t,rfl⟩:=ry;simpa [di] using SeqAt.EqAt.bool_int (A:=A) (s:=s) a b t
     | str b=>obtain rfl:=gf.mp dy;obtain ⟨t,rfl⟩:=ry;simpa [di] using SeqAt.EqAt.bool_str (A:=A) (s:=s) a b t
     | _=>simp [plain] at pe
   | int a=>
     obtain rfl:=aJ.mp dx
     obtain ⟨t',rfl⟩:=rx
     cases e with
     | bA=>obtain rfl:=cJ.mp dy;cases ry;simpa [di] using SeqAt.EqAt.int_none (A:=A) (s:=s) a t'
     | bl b=>obtain rfl:=bu.mp dy;cases ry;simpa [di] using SeqAt.EqAt.int_bool (A:=A) (s:=s) a t' b
     | int b=>obtain rfl:=aJ.mp dy;obtain ⟨t,rfl⟩:=ry;simpa [di] using SeqAt.EqAt.int_int (A:=A) (s:=s) a t' b t
     | str b=>obtain rfl:=gf.mp dy;obtain ⟨t,rfl⟩:=ry;simpa [di] using SeqAt.EqAt.int_str (A:=A) (s:=s) a t' b t
     | _=>simp [plain] at pe
   | str a=>
     obtain rfl:=gf.mp dx
     obtain ⟨t',rfl⟩:=rx
     cases e with
     | bA=>obtain rfl:=cJ.mp dy;cases ry;simpa [di] using SeqAt.EqAt.str_none (A:=A) (s:=s) a t'
     | bl b=>obtain rfl:=bu.mp dy;cases ry;simpa [di] using SeqAt.EqAt.str_bool (A:=A) (s:=s) a t' b
     | int b=>obtain rfl:=aJ.mp dy;obtain ⟨t,rfl⟩:=ry;simpa [di] using SeqAt.EqAt.str_int (A:=A) (s:=s) a t' b t
     | str b=>obtain rfl:=gf.mp dy;obtain ⟨t,rfl⟩:=ry;simpa [di] using SeqAt.EqAt.str_str (A:=A) (s:=s) a t' b t
     | _=>simp [plain] at pe
 | succ n ih=>
   intro A d e x y u v hu pd pe dx dy rx ry
   have flat:∀ (z:D),plain (n+1) z=true→(∀ zs,z≠ .tup zs)→plain n z=true:=by
    intro z pz nz
    cases z with
    | tup zs=>exact absurd rfl (nz zs)
    | _=>first | (simp [plain];done) | (simp [plain] at pz;done)
   have hun:A.units < cLine:=by omega
   cases d with
   | tup ds=>
     obtain ⟨a,xs,rfl,ha,hx⟩:=bK.mp dx
     obtain rfl:u=Value.ref a:=rx
     obtain ⟨its,rv,pt,hz⟩:=eX ok ha
     cases e with
     | tup es=>
       obtain ⟨b,ys,rfl,hb,hy⟩:=bK.mp dy
       obtain rfl:v=Value.ref b:=ry
       obtain ⟨its2,mR,tL,hz2⟩:=eX ok hb
       by_cases hab:a=b
       ·subst hab
        have:=Dat.inj (K:=K) (H:=H) (n+1) _ _ _ pd pe dx dy
        rw [← this,i6 (n+1) _ pd]
        exact SeqAt.EqAt.same _
       ·refine SeqAt.EqAt.of_refs hab ?_
        have hl1:=hx.length.trans rv.length
        have hl2:=hy.length.trans mR.length
        have key:=SeqAt.RcAt.tuples (A:=A) (s:=s) (e:=fun j=>di (ds.getD j .bA) (es.getD j .bA)) pt tL hun (fun j h1 h2=>?_)
        ·rw [jw,eE]
         simp only [List.size_toArray,← hl1,← hl2] at key
         exact key
        ·simp only [List.size_toArray] at h1 h2
         have e1:ds[j]?=some (ds.getD j .bA):=by rw [List.getD_eq_getElem?_getD,List.getElem?_eq_getElem (by omega)];rfl
         have e2:es[j]?=some (es.getD j .bA):=by rw [List.getD_eq_getElem?_getD,List.getElem?_eq_getElem (by omega)];rfl
         obtain ⟨x1,g1,g2⟩:=hx.get e1
         obtain ⟨y1,g3,g4⟩:=hy.get e2
         obtain ⟨u1,g5,g6⟩:=rv.get g1
         obtain ⟨v1,g7,g8⟩:=mR.get g3
         have q1:its.toArray[j]=u1:=by
          have:its[j]=u1:=Option.some.inj ((List.getElem?_eq_getElem (by omega)).symm.trans g5)
          simpa using this
         have q2:its2.toArray[j]=v1:=by
          have:its2[j]=v1:=Option.some.inj ((List.getElem?_eq_getElem (by omega)).symm.trans g7)
          simpa using this
         rw [q1,q2]
         have QV:ds.all (plain n)=true:=by simpa [plain] using pd
         have QW:es.all (plain n)=true:=by simpa [plain] using pe
         exact ih A.in1 _ _ x1 y1 u1 v1 (by show A.units+1+n < cLine;omega) (qb QV e1) (qb QW e2) g2 g4 g6 g8
     | bA=>obtain rfl:=cJ.mp dy;cases ry;simpa [di] using SeqAt.EqAt.tuple_none (A:=A) (s:=s) pt hun
     | bl b=>obtain rfl:=bu.mp dy;cases ry;simpa [di] using SeqAt.EqAt.tuple_bool (A:=A) (s:=s) b pt hun
     | int b=>obtain rfl:=aJ.mp dy;obtain ⟨t,rfl⟩:=ry;simpa [di] using SeqAt.EqAt.tuple_int (A:=A) (s:=s) b t pt hun
     | str b=>obtain rfl:=gf.mp dy;obtain ⟨t,rfl⟩:=ry;simpa [di] using SeqAt.EqAt.tuple_str (A:=A) (s:=s) b t pt hun
     | _=>simp [plain] at pe
   | _=>
     first
     | (simp [plain] at pd;done)
     | (cases e with
      | tup es=>
        obtain ⟨b,ys,rfl,hb,hy⟩:=bK.mp dy
        obtain rfl:v=Value.ref b:=ry
        obtain ⟨its2,mR,tL,hz2⟩:=eX ok hb
        first
        | (obtain rfl:=cJ.mp dx;cases rx;simpa [di] using SeqAt.EqAt.none_tuple (A:=A) (s:=s) tL hun)
        | (obtain rfl:=bu.mp dx;cases rx;simpa [di] using SeqAt.EqAt.bool_tuple (A:=A) (s:=s) _ tL hun)
        | (obtain rfl:=aJ.mp dx;obtain ⟨t,rfl⟩:=rx;simpa [di] using SeqAt.EqAt.int_tuple (A:=A) (s:=s) _ t tL hun)
        | (obtain rfl:=gf.mp dx;obtain ⟨t,rfl⟩:=rx;simpa [di] using SeqAt.EqAt.str_tuple (A:=A) (s:=s) _ t tL hun)
      | _=>
        first
        | (simp [plain] at pe;done)
        | exact ih A _ _ x y u v (by omega) (flat _ pd (fun _ z=>by cases z)) (flat _ pe (fun _ z=>by cases z)) dx dy rx ry)
def Cu:D→D→Bool
 | .bA,.bA=>true | .bA,.int _=>true | .int _,.bA=>true | .bA,.bl _=>true | .bl _,.bA=>true | .bA,.str _=>true | .str _,.bA=>true
 | .int _,.int _=>true | .bl _,.bl _=>true | .str _,.str _=>true
 | _,_=>false
def E4 (d e:D):Bool:=match d,e with
 | .tup ds,.tup es=>plain 10 (.tup ds) && plain 10 (.tup es)
 | d,e=>Cu d e
def NK:R3:=fun d e M Q=>E4 d e=true∧Q (.bl (di d e)) M
def NL:R3:=fun d e M Q=>E4 d e=true∧Q (.bl (!di d e)) M
theorem Cv {K:PySem.W.Frag} {d e:D} {x y:V} (h:Cu d e=true) (dx:Dat K H d x) (dy:Dat K H e y):HS x y=true∧decide (x=y)=di d e:=by
 cases d <;> cases e <;> first
  | (simp [Cu] at h;done)
  | (simp only [Dat] at dx dy;subst dx;subst dy;refine ⟨rfl,?_⟩;rw [Bool.eq_iff_iff];simp [di])
theorem i7 {P:Program} {w:World} (ok:j3 P w H s.heap) {K:PySem.W.Frag} {A:Around} {ds es:List D} {xs ys:List V} {its its2:List Value} {n:Nat} (hu:A.units+n < cLine) (pd:ds.all (plain n)=true) (pe:es.all (plain n)=true) (hx:aG K H ds xs) (hy:aG K H es ys) (rv:Vals xs its) (mR:Vals ys its2) :
 ∀ j (h1:j < its.toArray.size) (h2:j < its2.toArray.size),SeqAt.EqAt A s its.toArray[j] its2.toArray[j] (di (ds.getD j .bA) (es.getD j .bA)):=by
 intro j h1 h2
 have hl1:=hx.length.trans rv.length
 have hl2:=hy.length.trans mR.length
 simp only [List.size_toArray] at h1 h2
 have e1:ds[j]?=some (ds.getD j .bA):=by rw [List.getD_eq_getElem?_getD,List.getElem?_eq_getElem (by omega)];rfl
 have e2:es[j]?=some (es.getD j .bA):=by rw [List.getD_eq_getElem?_getD,List.getElem?_eq_getElem (by omega)];rfl
 obtain ⟨x1,g1,g2⟩:=hx.get e1
 obtain ⟨y1,g3,g4⟩:=hy.get e2
 obtain ⟨u1,g5,g6⟩:=rv.get g1
 obtain ⟨v1,g7,g8⟩:=mR.get g3
 have q1:its.toArray[j]=u1:=by
  have:its[j]=u1:=Option.some.inj ((List.getElem?_eq_getElem (by omega)).symm.trans g5)
  simpa using this
 have q2:its2.toArray[j]=v1:=by
  have:its2[j]=v1:=Option.some.inj ((List.getElem?_eq_getElem (by omega)).symm.trans g7)
  simpa using this
 rw [q1,q2]
 exact Ct ok n A _ _ x1 y1 u1 v1 hu (qb pd e1) (qb pe e2) g2 g4 g6 g8
theorem fM (hu:X.A.units+64 < cLine):nP X (compareOp .Eq) NK:=by
 constructor
 intro pins s σ H M x y d e v u Q I rm rx ry dx dy ⟨hk,q⟩
 by_cases ht:∃ ds es,d= .tup ds∧e= .tup es
 ·obtain ⟨ds,es,rfl,rfl⟩:=ht
  have hk:(plain 10 (.tup ds) && plain 10 (.tup es))=true:=hk
  rw [Bool.and_eq_true] at hk
  obtain ⟨a,xs,rfl,ha,hx⟩:=bK.mp dx
  obtain ⟨b,ys,rfl,hb,hy⟩:=bK.mp dy
  obtain rfl:v=Value.ref a:=rx
  obtain rfl:u=Value.ref b:=ry
  obtain ⟨its,rv,pt,hz⟩:=eX I.hok ha
  obtain ⟨its2,mR,tL,hz2⟩:=eX I.hok hb
  have hl1:=hx.length.trans rv.length
  have hl2:=hy.length.trans mR.length
  refine SeqAt.RcAt.tuples (A:=X.A) (s:=s) (e:=fun j=>di (ds.getD j .bA) (es.getD j .bA)) pt tL (by omega) (i7 I.hok (n:=9) (by show X.A.units+1+9 < cLine;omega) (by simpa [plain] using hk.1) (by simpa [plain] using hk.2) hx hy rv mR) _ _ _ _ ?_
  refine ⟨.bl _,H,I,rfl,aH rm (bu.mpr rfl) ?_⟩
  simp only [List.size_toArray,← hl1,← hl2]
  rw [jw,eE] at q
  exact q
 ·have hs:Cu d e=true:=by
   unfold E4 at hk
   split at hk
   ·exact absurd ⟨_,_,rfl,rfl⟩ ht
   ·exact hk
  obtain ⟨h1,h2⟩:=Cv hs dx dy
  exact Kn pins s σ H x y v u _ I rx ry ⟨h1,by rw [h2];exact aH rm (bu.mpr rfl) q⟩
theorem l0 (hu:X.A.units+64 < cLine):nP X (compareOp .NotEq) NL:=by
 constructor
 intro pins s σ H M x y d e v u Q I rm rx ry dx dy ⟨hk,q⟩
 by_cases ht:∃ ds es,d= .tup ds∧e= .tup es
 ·obtain ⟨ds,es,rfl,rfl⟩:=ht
  have hk:(plain 10 (.tup ds) && plain 10 (.tup es))=true:=hk
  rw [Bool.and_eq_true] at hk
  obtain ⟨a,xs,rfl,ha,hx⟩:=bK.mp dx
  obtain ⟨b,ys,rfl,hb,hy⟩:=bK.mp dy
  obtain rfl:v=Value.ref a:=rx
  obtain rfl:u=Value.ref b:=ry
  obtain ⟨its,rv,pt,hz⟩:=eX I.hok ha
  obtain ⟨its2,mR,tL,hz2⟩:=eX I.hok hb
  have hl1:=hx.length.trans rv.length
  have hl2:=hy.length.trans mR.length
  refine SeqAt.RcNeAt.tuples (A:=X.A) (s:=s) (e:=fun j=>di (ds.getD j .bA) (es.getD j .bA)) pt tL (by omega) (i7 I.hok (n:=9) (by show X.A.units+1+9 < cLine;omega) (by simpa [plain] using hk.1) (by simpa [plain] using hk.2) hx hy rv mR) _ _ _ _ ?_
  refine ⟨.bl _,H,I,rfl,aH rm (bu.mpr rfl) ?_⟩
  simp only [List.size_toArray,← hl1,← hl2]
  rw [jw,eE] at q
  exact q
 ·have hs:Cu d e=true:=by
   unfold E4 at hk
   split at hk
   ·exact absurd ⟨_,_,rfl,rfl⟩ ht
   ·exact hk
  obtain ⟨h1,h2⟩:=Cv hs dx dy
  exact Ko pins s σ H x y v u _ I rx ry ⟨h1,by rw [h2];exact aH rm (bu.mpr rfl) q⟩
noncomputable def Me (K:PySem.W.Frag) (H:Hp) (v:V):D:=open Classical in if h:∃ d,plain 9 d=true∧Dat K H d v then h.choose else .bA
theorem Iq {K:PySem.W.Frag} {d:D} {v:V} (p:plain 9 d=true) (h:Dat K H d v):Me K H v=d:=by
 have hx:∃ d,plain 9 d=true∧Dat K H d v:=⟨d,p,h⟩
 unfold Me
 rw [dif_pos hx]
 exact Dat.inj 9 _ _ v hx.choose_spec.1 p hx.choose_spec.2 h
noncomputable def Ex (K:PySem.W.Frag) (H:Hp) (d:D) (u:Value):Bool:=match J9 u with
 | some v=>di (Me K H v) d
 | none=>false
theorem Cw {K:PySem.W.Frag} {d e:D} {v:V} {u:Value} (p:plain 9 e=true) (h:Dat K H e v) (r:RelV v u):Ex K H d u=di e d:=by
 unfold Ex
 rw [r.abs]
 show di (Me K H v) d=_
 rw [Iq p h]
theorem uM {K:PySem.W.Frag} {d:D}:∀ {es:List D} {xs:List V} {us:List Value},aG K H es xs→Vals xs us→es.all (plain 9)=true→us.any (Ex K H d)=es.any fun e=>di e d
 | [],xs,us,h,r,_=>by rw [aL.mp h] at r;cases r;rfl
 | e :: es,xs,us,h,r,p=>by
   obtain ⟨v,vs,rfl,h1,h2⟩:=aF.mp h
   cases r with
   | cons r rr=>
     rw [List.all_cons,Bool.and_eq_true] at p
     rw [List.any_cons,List.any_cons,Cw p.1 h1 r,uM h2 rr p.2]
theorem uN {P:Program} {w:World} (ok:j3 P w H s.heap) {K:PySem.W.Frag} {A:Around} {d:D} {x:V} {v:Value} (hu:A.units+9 < cLine) (pd:plain 9 d=true) (dx:Dat K H d x) (rx:RelV x v) :
 ∀ {es:List D} {xs:List V} {us:List Value},aG K H es xs→Vals xs us→es.all (plain 9)=true→∀ u∈us,SeqAt.EqAt A s u v (Ex K H d u)
 | [],xs,us,h,r,_,u,hm=>by rw [aL.mp h] at r;cases r;cases hm
 | e :: es,xs,us,h,r,p,u,hm=>by
   obtain ⟨y,ys,rfl,h1,h2⟩:=aF.mp h
   cases r with
   | cons r rr=>
     rw [List.all_cons,Bool.and_eq_true] at p
     rcases List.mem_cons.mp hm with rfl | hm
     ·rw [Cw p.1 h1 r]
      exact Ct ok 9 A _ _ _ _ _ _ hu p.1 pd h1 dx r rx
     ·exact uN ok hu pd dx rx h2 rr p.2 u hm
def inD (d:D) (es:List D):Bool:=es.any fun e=>di e d
def NN (M:Mp) (e:D) (es:List D):Prop:=e= .tup es∨∃ a,e= .ref a∧M a=some (.lst es)
def NO (neg:Bool):R3:=fun d e M Q=> ∃ es,NN M e es∧plain 9 d=true∧es.all (plain 9)=true∧Q (.bl (if neg then !inD d es else inD d es)) M
theorem uO (hu:X.A.units+64 < cLine):nP X (compareOp .NotIn) (NO true):=by
 constructor
 intro pins s σ H M x y d e v u Q I rm rx ry dx dy ⟨es,hs,pd,pe,q⟩
 rcases hs with rfl | ⟨a,rfl,hM⟩
 ·obtain ⟨b,ys,rfl,hb,hy⟩:=bK.mp dy
  obtain rfl:u=Value.ref b:=ry
  obtain ⟨its,rv,pt,hz⟩:=eX I.hok hb
  refine SeqAt.notIn_tupleAt (Ex X.K H d) pt (fun w hw=>uN I.hok (by show X.A.units+1+9 < cLine;omega) pd dx rx hy rv pe w (by simpa using hw)) ⟨.bl _,H,I,rfl,aH rm (bu.mpr rfl) ?_⟩
  rw [show its.toArray.any (Ex X.K H d)=its.any (Ex X.K H d) by simp,uM hy rv pe]
  exact q
 ·obtain rfl:=aK.mp dy
  obtain rfl:u=Value.ref a:=ry
  obtain ⟨ys,hb,hy⟩:=rm.lst hM
  obtain ⟨its,rv,pl,hz⟩:=I.list (iD.of hb)
  refine SeqAt.notIn_listAt (Ex X.K H d) pl.isList (fun w hw=>uN I.hok (by show X.A.units+1+9 < cLine;omega) pd dx rx hy rv pe w (by simpa using hw)) ⟨.bl _,H,I,rfl,aH rm (bu.mpr rfl) ?_⟩
  rw [show its.toArray.any (Ex X.K H d)=its.any (Ex X.K H d) by simp,uM hy rv pe]
  exact q
theorem nV {K:PySem.W.Frag}:∀ {ns:List Int} {xs:List V},aG K H (ns.map D.int) xs→xs=ns.map V.int
 | [],xs,h=>aL.mp h
 | n :: ns,xs,h=>by
   obtain ⟨v,vs,rfl,h1,h2⟩:=aF.mp h
   rw [aJ.mp h1,nV h2];rfl
def Kw:R3:=fun d e M Q=> ∃ ns ms:List Int,d= .tup (ns.map D.int)∧e= .tup (ms.map D.int)∧Q (.bl (HT.lexLt ns ms)) M
theorem KQ (hu:X.A.units+64 < cLine):nP X (compareOp .Lt) Kw:=by
 constructor
 intro pins s σ H M x y d e v u Q I rm rx ry dx dy ⟨ns,ms,e1,e2,q⟩
 subst e1;subst e2
 obtain ⟨a,xs,rfl,ha,hx⟩:=bK.mp dx
 obtain ⟨b,ys,rfl,hb,hy⟩:=bK.mp dy
 obtain rfl:v=Value.ref a:=rx
 obtain rfl:u=Value.ref b:=ry
 obtain ⟨its,rv,pt,hz⟩:=eX I.hok ha
 obtain ⟨its2,mR,tL,hz2⟩:=eX I.hok hb
 rw [nV hx] at rv
 rw [nV hy] at mR
 exact HT.lY pt tL (by simpa using intsAre_of rv) (by simpa using intsAre_of mR) (by omega) ⟨.bl _,H,I,rfl,aH rm (bu.mpr rfl) q⟩
end
end L3
namespace L3
open PySem PySem.Spec PyProof.Rows L2
section
variable {X:Cx} {a b c e:Expr} {es:List Expr} {ta tb tc te:cY} {t:sj} {pos p:Pos}
def KR:sj:=fun _ M Q=>Q [] M
def Ir (ta:cY) (tr:sj):sj:=fun ρ M Q=>ta ρ M fun x M1=>tr ρ M1 fun xs M2=>Q (x :: xs) M2
theorem ak:yH X [] KR:=⟨fun pos pins s σ H ρ M Q I r h=>nS pos pins s σ H _ I ⟨[],M,.refl _ _,aL.mpr rfl,r.mem,h⟩⟩
theorem aa (ha:cM X e te) (hr:yH X es t) (hs:starEach (e :: es) X.env=(false,eval e X.env) :: starEach es X.env:=by rfl):yH X (e :: es) (Ir te t):=⟨fun pos pins s σ H ρ M Q I r h=>
 kY ha.dn hr.dn hs pos pins s σ H _ I (fH r h fun v H' d M' f dv r' q=>kq r' q fun vs H2 ds M2 f2 BZ r2 q2=>
  ⟨d :: ds,M2,f.trans f2,aF.mpr ⟨v,vs,rfl,Dat.mono (f2.ext r'.mem) _ _ dv,BZ⟩,r2.mem,q2⟩)⟩
def KS (t:sj):cY:=fun ρ M Q=>t ρ M fun xs M1=>xs.length≤sizeLine∧Q (.tup xs) M1
def KU (t:sj):cY:=fun ρ M Q=>t ρ M fun xs M1=>xs.length≤sizeLine∧∀ p,M1 p=none→Q (.ref p) (aA M1 p (.lst xs))
theorem dg {x1} (h:yH X es t):cM X (.Tuple es x1 pos) (KS t):=up (HX h.dn) fun σ H ρ M Q r q=>kq r q fun vs H' ds M' f dv r' ⟨hl,q⟩=>
 ⟨by rw [← dv.length];exact hl,fun p hp=>⟨.tup ds,M',f.trans (Fr.new hp fun _ _=>rfl),bK.mpr ⟨p,vs,rfl,dZ,aG.mono (Ext.new hp) _ _ dv⟩,r'.mem.new hp,q⟩⟩
theorem cR (h:yH X es t):cM X (.List es pos) (KU t):=up (HY h.dn) fun σ H ρ M Q r q=>kq r q fun vs H' ds M' f dv r' ⟨hl,q⟩=>
 ⟨by rw [← dv.length];exact hl,fun p hp=>⟨.ref p,aA M' p (.lst ds),f.trans (Fr.new hp fun _ hb=>bC hb),aK.mpr rfl,r'.mem.newL hp dv,q p (r'.mem.free hp)⟩⟩
def KW (M:Mp) (e:D) (es:List D):Prop:=e= .tup es∨e= .wG es∨∃ a,e= .ref a∧M a=some (.lst es)
def NP:R3:=fun d e M Q=> ∃ xs i z,KW M d xs∧e= .int i∧oV xs i=some z∧Q z M
theorem Iu {α β:Type} {xs:List α} {ys:List β} (h:xs.length=ys.length) {i:Int} {z:α} (e:oV xs i=some z):∃ j,B0 ys.length i=some j∧xs[j]?=some z:=by
 unfold oV at e
 rw [h] at e
 cases q:B0 ys.length i with
 | none=>rw [q] at e;cases e
 | some j=>rw [q] at e;exact ⟨j,rfl,e⟩
theorem qt {K:PySem.W.Frag} {H:Hp} {ds:List D} {xs:List V} (h:aG K H ds xs) {i:Int} {z:D} (e:oV ds i=some z):∃ v,oV xs i=some v∧Dat K H z v:=by
 obtain ⟨j,h1,h2⟩:=Iu h.length e
 obtain ⟨v,h3,h4⟩:=h.get h2
 refine ⟨v,?_,h4⟩
 unfold oV
 rw [h1]
 exact h3
theorem aM (ha:cM X a ta) (hb:cM X b tb) (hs:zW b:=by intro _ _;rfl):cM X (.Subscript a b pos) (E2 NP ta tb):=up (Kx (EW.or Ih) ha.dn hb.dn hs) fun σ H ρ M Q r q=>
 fH r q fun v H' d M' f dv r' q=>fH r' q fun u H2 e M2 f2 du r2 ⟨xs,i,z,hq,ei,at',q⟩=>by
  subst ei
  obtain rfl:=aJ.mp du
  have NQ:=Dat.mono (f2.ext r'.mem) _ _ dv
  have fin:∀ w,Dat X.K H2 z w→Post X.K M H Q w H2:=fun w dw=>⟨z,M2,f.trans f2,dw,r2.mem,q⟩
  rcases hq with rfl | rfl | ⟨l,rfl,hl⟩
  ·obtain ⟨p,ys,rfl,hp,hy⟩:=bK.mp NQ
   obtain ⟨w,h1,h2⟩:=qt hy at'
   exact .inr ⟨p,ys,i,w,rfl,rfl,Eu.of hp,h1,fin w h2⟩
  ·obtain ⟨p,ys,rfl,hp,hy⟩:=mP.mp NQ
   obtain ⟨w,h1,h2⟩:=qt hy at'
   exact .inl ⟨p,ys,i,w,rfl,rfl,hp.sq,h1,fin w h2⟩
  ·obtain rfl:=aK.mp NQ
   obtain ⟨ys,hp,hy⟩:=r2.mem.lst hl
   obtain ⟨w,h1,h2⟩:=qt hy at'
   exact .inl ⟨l,ys,i,w,rfl,rfl,iD.of hp,h1,fin w h2⟩
structure Call3 (X:Cx) (f:Value) (t:List D→Mp→DK→Prop):Prop where
 run:∀ (pins:List (Addr ×Obj)) (s:Shared) (σ:St) (H:Hp) (M:Mp) (xs:List V) (ds:List D) (us:List Value) (Q:DK),Inv X pins σ H s→b9 X.K H M→Vals xs us→aG X.K H ds xs→t ds M Q→
  wpAny (model X.prog X.w) X.A (call f us) (EP X pins σ (Post X.K M H Q)) X.xe s
theorem Cy {f:Value} {r:List V→Hp→VK→Prop} {t:List D→Mp→DK→Prop} (h:zO X f r) (g:∀ H M xs ds Q,b9 X.K H M→aG X.K H ds xs→t ds M Q→r xs H (Post X.K M H Q)):Call3 X f t:=
 ⟨fun pins s σ H M xs ds us Q I rm rs dx q=>h pins s σ H xs us _ I rs (g H M xs ds Q rm dx q)⟩
def KY (r:List D→Mp→DK→Prop) (t:sj):cY:=fun ρ M Q=>t ρ M fun ds M1=>r ds M1 Q
variable {x:Str} {id T:String} {r:List D→Mp→DK→Prop}
theorem aD (hc:Call3 X (.builtin id) r) (hg:Gl X x) (hm:X.mg x=none) (hv:bootBuiltins x=some (.builtin id)) (ha:yH X (e :: es) t) (hn:x≠"__name__" :=by decide) (hdb:(x == ("__debug__" :Str))=false:=by decide)
 (he:starEach (e :: es) X.env=(false,eval e X.env) :: starEach es X.env:=by rfl) (hpl:(backTo pos (starEach es X.env)).any (·.1)=false:=by rfl):cM X (.Call (.Name x p) (e :: es) [] pos) (KY r t):=by
 constructor
 intro pins s σ H ρ M Q I r h
 refine wpAny_Call_Name_kw (iC I hg hm hv ?_ hn hdb)
 refine PyProof.Rows.callWith_builtin1 (dc (ha.run pos pins s σ H ρ M _ I r h) fun us s1 ⟨vs,H1,I1,r1,ds,M1,f1,d1,lG,q1⟩=>?_) he hpl
 exact dc (hc.run pins s1 σ H1 M1 vs ds us Q I1 lG r1 d1 q1) fun _ _ ⟨z,H3,I3,r3,p⟩=>⟨z,H3,I3,r3,p.back f1⟩
theorem wJ (hc:Call3 X (.type T) r) (hg:Gl X x) (hm:X.mg x=none) (hv:bootBuiltins x=some (.type T)) (ha:yH X (e :: es) t) (hn:x≠"__name__" :=by decide) (hdb:(x == ("__debug__" :Str))=false:=by decide)
 (he:starEach (e :: es) X.env=(false,eval e X.env) :: starEach es X.env:=by rfl) (hpl:(backTo pos (starEach es X.env)).any (·.1)=false:=by rfl):cM X (.Call (.Name x p) (e :: es) [] pos) (KY r t):=by
 constructor
 intro pins s σ H ρ M Q I r h
 refine wpAny_Call_Name_kw (iC I hg hm hv ?_ hn hdb)
 refine PyProof.Rows.callWith_type1 (dc (ha.run pos pins s σ H ρ M _ I r h) fun us s1 ⟨vs,H1,I1,r1,ds,M1,f1,d1,lG,q1⟩=>?_) he hpl
 exact dc (hc.run pins s1 σ H1 M1 vs ds us Q I1 lG r1 d1 q1) fun _ _ ⟨z,H3,I3,r3,p⟩=>⟨z,H3,I3,r3,p.back f1⟩
theorem mS {K:PySem.W.Frag} {H:Hp} {d:D} {xs:List V} (h:aG K H [d] xs):∃ v,xs= [v]∧Dat K H d v:=by
 obtain ⟨v,vs,rfl,h1,h2⟩:=aF.mp h
 rw [aL.mp h2]
 exact ⟨v,rfl,h1⟩
theorem qu {K:PySem.W.Frag} {H:Hp} {d e:D} {xs:List V} (h:aG K H [d,e] xs):∃ v u,xs= [v,u]∧Dat K H d v∧Dat K H e u:=by
 obtain ⟨v,vs,rfl,h1,h2⟩:=aF.mp h
 obtain ⟨u,rfl,h3⟩:=mS h2
 exact ⟨v,u,rfl,h1,h3⟩
def NR:List D→Mp→DK→Prop:=fun ds M Q=> ∃ d xs,ds= [d]∧KW M d xs∧Q (.int xs.length) M
theorem cF:Call3 X (.builtin "len") NR:=Cy uK fun H M xs ds Q rm dx ⟨d,ys,ei,hs,q⟩=>by
 subst ei
 obtain ⟨v,rfl,hv⟩:=mS dx
 rcases hs with rfl | rfl | ⟨l,rfl,hl⟩
 ·obtain ⟨p,zs,rfl,hp,hz⟩:=bK.mp hv
  exact ⟨p,zs,rfl,.inr (Eu.of hp),aH rm (aJ.mpr (by rw [hz.length])) q⟩
 ·obtain ⟨p,zs,rfl,hp,hz⟩:=mP.mp hv
  exact ⟨p,zs,rfl,.inl hp.sq,aH rm (aJ.mpr (by rw [hz.length])) q⟩
 ·obtain rfl:=aK.mp hv
  obtain ⟨zs,hp,hz⟩:=rm.lst hl
  exact ⟨l,zs,rfl,.inl (iD.of hp),aH rm (aJ.mpr (by rw [hz.length])) q⟩
def KZ:List D→Mp→DK→Prop:=fun ds M Q=> ∃ i j:Int,ds= [.int i,.int j]∧Q (.int (min i j)) M
theorem Iv (hc:X.calm=true):Call3 X (.builtin "min") KZ:=Cy (AY hc) fun H M xs ds Q rm dx ⟨i,j,ei,q⟩=>by
 subst ei
 obtain ⟨v,u,rfl,hv,hu⟩:=qu dx
 obtain rfl:=aJ.mp hv
 obtain rfl:=aJ.mp hu
 refine ⟨i,j,rfl,aH rm (aJ.mpr rfl) ?_⟩
 have e:(if j < i then j else i)=min i j:=by split <;> omega
 rw [e]
 exact q
inductive Cz (M:Mp):D→String→Prop where
 | bA:Cz M .bA "NoneType"
 | bl (b:Bool):Cz M (.bl b) "bool"
 | int (i:Int):Cz M (.int i) "int"
 | str (x:Str):Cz M (.str x) "str"
 | tup (ds:List D):Cz M (.tup ds) "tuple"
 | lst {a:Addr} {ds:List D} (h:M a=some (.lst ds)):Cz M (.ref a) "list"
 | dct:Cz M (.GR "dict") "dict"
def NS (K:PySem.W.Frag):List D→Mp→DK→Prop:=fun ds M Q=> ∃ d n m b,ds= [d,.ty m]∧Cz M d n∧PySem.W.kitOne K (.type n) (.type m)=some b∧Q (.bl b) M
theorem bN:Call3 X (.builtin "isinstance") (NS X.K):=by
 constructor
 intro pins s σ H M xs ds us Q I rm rs dx ⟨d,n,m,b,ei,ty,hk,q⟩
 subst ei
 obtain ⟨v,u,rfl,hv,hu⟩:=qu dx
 obtain rfl:=yG.mp hu
 obtain ⟨v',u',rfl,r1,r2⟩:=vals2 rs
 obtain rfl:u'=Value.type m:=r2
 have fin:∀ tk,EP X pins σ (Post X.K M H Q) (.bool b) { s with toks:=tk }:=fun tk=>⟨.bl b,H,I.tok tk,rfl,aH rm (bu.mpr rfl) q⟩
 cases ty with
 | bA=>obtain rfl:=cJ.mp hv;exact gu I r1 .bA hk fin
 | bl k=>obtain rfl:=bu.mp hv;exact gu I r1 (.bl k) hk fin
 | int i=>obtain rfl:=aJ.mp hv;exact gu I r1 (.int i) hk fin
 | str z=>obtain rfl:=gf.mp hv;exact gu I r1 (.str z) hk fin
 | tup zs=>
   obtain ⟨p,ys,rfl,hp,hy⟩:=bK.mp hv
   exact gu I r1 (.tup hp) hk fin
 | lst hM=>
   obtain rfl:=aK.mp hv
   obtain ⟨ys,hp,hy⟩:=rm.lst hM
   exact gu I r1 (.lst hp) hk fin
 | dct=>
   obtain ⟨p,o,u,rfl,hp,hc⟩:=Aa.mp hv
   cases (show v'=Value.ref p from r1)
   obtain ⟨h1,_⟩:=(show c9 X.prog X.w H s.heap p (.mK o u) from I.hok p _ hp)
   exact PySem.W.kia_one PySem.W.kitx_dict I.we ⟨o,h1,hc⟩ hk (fun z=>nomatch z) fin
abbrev wK:=List D→(D→Prop)→Prop
def wg (K:PySem.W.Frag) (S:wK):Sp:=fun vs H Q _=> ∃ ds Q0,aG K H ds vs∧S ds Q0∧∀ d v H',Q0 d→Dat K H' d v→(∀ b o,H b=some o→H' b=some o)→Q v H'
abbrev pI:=List D→Mp→DK→Prop
def qc (K:PySem.W.Frag) (S:pI):Sp:=fun vs H Q _=> ∃ ds M Q0,aG K H ds vs∧b9 K H M∧S ds M Q0∧∀ d M' v H',Q0 d M'→Dat K H' d v→b9 K H' M'→Fr M H M' H'→Q v H'
theorem mT {K:PySem.W.Frag} {H:Hp} {ds:List D} {vs:List V} (h:aG K H ds vs):aG K H ds (vs ++ []):=by simpa using h
theorem Ext.keep {H H':Hp} (h:∀ b o,H b=some o→H' b=some o):Ext H H':=⟨fun b _ e=>h b _ e,fun b _ _ e=>h b _ e⟩
theorem b9.keep {K:PySem.W.Frag} {H H':Hp} {M:Mp} (r:b9 K H M) (h:∀ b o,H b=some o→H' b=some o):b9 K H' M:=fun a o e=>(r a o e).mono (Ext.keep h) fun u q=>h _ _ q
variable {k:Nat} {f:Addr} {fd:FuncData} {ps:List Str}
def Iw (S:wK) (t:sj):cY:=fun ρ M Q=>t ρ M fun ds M1=>S ds fun d=>Q d M1
def Iz (S:pI) (t:sj):cY:=fun ρ M Q=>t ρ M fun ds M1=>S ds M1 Q
theorem bg {S:wK} (F:b8 X.prog X.w X.K X.mg X.base fZ k f fd ps (wg X.K S)) (hr:iE k X.A) (hg:Gl X x) (hm:X.mg x=some (.ref f)) (hk:PySem.W.keepIn X.K (.ref f)=true) (hb:Binds X.K fd ps [])
 (ha:yH X (e :: es) t) (hdb:(x == ("__debug__" :Str))=false:=by decide) (he:starEach (e :: es) X.env=(false,eval e X.env) :: starEach es X.env:=by rfl) (hpl:(backTo pos (starEach es X.env)).any (·.1)=false:=by rfl) :
 cM X (.Call (.Name x p) (e :: es) [] pos) (Iw S t):=
 up (zS (BZ:=[]) (E:=E0) F hr hg hm hk hb .nil GQ ha.dn hdb he hpl) fun σ H ρ M Q r q=>kq r q fun vs H' ds M' f dv r' q=>
  ⟨ds,_,mT dv,q,fun d v H2 q2 d2 kp=>⟨d,M',f.trans fun b o n e=>⟨kp b o e,n⟩,d2,r'.mem.keep kp,q2⟩⟩
theorem bE {S:pI} (F:b8 X.prog X.w X.K X.mg X.base fZ k f fd ps (qc X.K S)) (hr:iE k X.A) (hg:Gl X x) (hm:X.mg x=some (.ref f)) (hk:PySem.W.keepIn X.K (.ref f)=true) (hb:Binds X.K fd ps [])
 (ha:yH X (e :: es) t) (hdb:(x == ("__debug__" :Str))=false:=by decide) (he:starEach (e :: es) X.env=(false,eval e X.env) :: starEach es X.env:=by rfl) (hpl:(backTo pos (starEach es X.env)).any (·.1)=false:=by rfl) :
 cM X (.Call (.Name x p) (e :: es) [] pos) (Iz S t):=
 up (zS (BZ:=[]) (E:=E0) F hr hg hm hk hb .nil GQ ha.dn hdb he hpl) fun σ H ρ M Q r q=>kq r q fun vs H' ds M' f dv r' q=>
  ⟨ds,M',_,mT dv,r'.mem,q,fun d M2 v H2 q2 d2 GW f2=>⟨d,M2,f.trans f2,d2,GW,q2⟩⟩
end
section
variable {X:Cx} {st:Stmt} {rest:List Stmt} {t u:mL} {e:Expr} {te:cY} {pos:Pos}
def IA:mL:=fun D ρ M=>D.nx ρ M
def K1 (t u:mL):mL:=fun D ρ M=>t { D with nx:=u D } ρ M
theorem Ab.dn {st:Stmt} {t:mL} (h:Ab X st t):PS X st (L8 X.K t):=fun pins s σ H D' I ⟨ρ,M,D,r,q,k1,k2,k3,k4⟩=>
 dc (h.run pins s σ H ρ M D I r q) fun f s' z=>by
  cases f with
  | next=>obtain ⟨σ',H',I',p⟩:=z;exact ⟨σ',H',I',k1 _ _ p⟩
  | brk=>obtain ⟨σ',H',I',p⟩:=z;exact ⟨σ',H',I',k3 _ _ p⟩
  | cont=>obtain ⟨σ',H',I',p⟩:=z;exact ⟨σ',H',I',k4 _ _ p⟩
  | ret u=>obtain ⟨v,σ',H',I',rv,p⟩:=z;exact ⟨v,σ',H',I',rv,k2 _ _ p⟩
theorem IB {sts:List Stmt} {te:TS} {t:mL} (h:yC X sts te) (g:∀ σ H ρ M D,Rep X.K H σ ρ M→t D ρ M→te (ends X.K M H D) σ H):lC X sts t:=
 ⟨fun pins s σ H ρ M D I r q=>h pins s σ H _ I (g σ H ρ M D r q)⟩
theorem mU {K:PySem.W.Frag} {M0:Mp} {H0:Hp} {σ:St} {H:Hp} {ρ:En} {M:Mp} {D:GU} {t:mL} (f:Fr M0 H0 M H) (r:Rep K H σ ρ M) (q:t D ρ M):L8 K t (ends K M0 H0 D) σ H:=
 ⟨ρ,M,D,r,q,fun _ _ p=>p.back f,fun _ _ p=>p.back f,fun _ _ p=>p.back f,fun _ _ p=>p.back f⟩
theorem aT:lC X [] IA:=IB EH fun σ H ρ M D r q=>⟨ρ,M,.refl _ _,r,q⟩
theorem au (h1:Ab X st t) (h2:lC X rest u):lC X (st :: rest) (K1 t u):=IB (Ca h1.dn h2.dn) fun σ H ρ M D r q=>
 ⟨ρ,M,_,r,q,fun σ' H' ⟨ρ',M',f,r',q'⟩=>mU f r' q',fun _ _ p=>p,fun _ _ p=>p,fun _ _ p=>p⟩
theorem aB (h1:Ab X st t):lC X [st] t:=IB (EI h1.dn) fun σ H ρ M D r q=>mU (.refl _ _) r q
def IC (te:cY):mL:=fun D ρ M=>te ρ M fun _ M1=>D.nx ρ M1
theorem nW (he:cM X e te) (hs:swapsWith e none pos.line X.env=pure false:=by rfl):Ab X (.Expr e pos) (IC te):=GV (EJ he.dn hs) fun σ H ρ M D r q=>fH r q fun v H' d M' f dv r' q=>⟨ρ,M',f,r',q⟩
def K2 (te:cY):mL:=fun D ρ M=>te ρ M D.rt
theorem aE (he:cM X e te):Ab X (.Return (some e) pos) (K2 te):=GV (HG he.dn) fun σ H ρ M D r q=>⟨ρ,M,_,r,q,fun _ _ p=>p⟩
def K3 (c:lZ) (t u:mL):mL:=fun D ρ M=>c ρ M fun b M1=>if b=true then t D ρ M1 else u D ρ M1
theorem bT {c:Expr} {a b:List Stmt} {tc:lZ} (hc:yq X c tc) (ha:lC X a t) (hb:lC X b u):Ab X (.If c a b pos) (K3 tc t u):=GV (Kd hc.dn ha.dn hb.dn) fun σ H ρ M D r q=>nT r q fun k H' M' f r' q=>by
 cases k with
 | true=>exact mU f r' q
 | false=>exact mU f r' q
def GX (i:Nat) (te:cY):mL:=fun D ρ M=>te ρ M fun x M1=>D.nx (ρ.set i (some x)) M1
theorem aX {i:Nat} {x:Str} {pos':Pos} (hN:X.N.Nodup) (hi:X.N[i]?=some x) (hx:Loc X.env.scope x) (he:cM X e te) (hs:swapsWith e (some (.Name x pos')) pos.line X.env=pure false:=by rfl) (hf:X.fn x=true∨X.env.scope.names.lookup x=some .local:=by first | exact .inl rfl | exact .inr rfl | assumption) :
 Ab X (.Assign [.Name x pos'] e pos) (GX i te):=GV (HH hN hi hx he.dn hs hf) fun σ H ρ M D r q=>fH r q fun v H' d M' f dv r' q=>⟨ρ.set i (some d),M',f,r'.set dv,q⟩
abbrev Ey:=D→En→Mp→(En→Mp→Prop)→Prop
abbrev NT:=List D→En→Mp→(En→Mp→Prop)→Prop
structure K4 (X:Cx) (target:Expr) (t:Ey):Prop where
 run:∀ (pins:List (Addr ×Obj)) (s:Shared) (σ:St) (H:Hp) (ρ:En) (M:Mp) (v:V) (d:D) (u:Value) (Q:En→Mp→Prop),Inv X pins σ H s→Rep X.K H σ ρ M→RelV v u→Dat X.K H d v→t d ρ M Q→
  wpAny (model X.prog X.w) X.A (assign target X.env u) (fun _ s'=> ∃ σ' H',Inv X pins σ' H' s'∧iY X.K M H Q σ' H') X.xe s
structure QX (X:Cx) (ts:List Expr) (t:NT):Prop where
 run:∀ (pins:List (Addr ×Obj)) (s:Shared) (σ:St) (H:Hp) (ρ:En) (M:Mp) (vs:List V) (ds:List D) (us:List Value) (Q:En→Mp→Prop),Inv X pins σ H s→Rep X.K H σ ρ M→Vals vs us→aG X.K H ds vs→t ds ρ M Q→
  wpAny (model X.prog X.w) X.A (assignInOrder ((assignEach ts X.env).map (·.2)) us) (fun _ s'=> ∃ σ' H',Inv X pins σ' H' s'∧iY X.K M H Q σ' H') X.xe s
def ID (i:Nat):Ey:=fun d ρ M Q=>Q (ρ.set i (some d)) M
theorem cT {i:Nat} {x:Str} (hN:X.N.Nodup) (hi:X.N[i]?=some x) (hx:Loc X.env.scope x) (hf:X.fn x=true∨X.env.scope.names.lookup x=some .local:=by first | exact .inl rfl | exact .inr rfl | assumption):K4 X (.Name x pos) (ID i):=
 ⟨fun pins s σ H ρ M v d u Q I r rv dv q=>EK hN hi hx hf pins s σ H v u _ I rv ⟨ρ.set i (some d),M,.refl _ _,r.set dv,q⟩⟩
def K5 (i j:Nat) (ta:sj):mL:=fun D ρ M=>ta ρ M fun vs M1=> ∃ v w,vs= [v,w]∧D.nx ((ρ.set i (some v)).set j (some w)) M1
theorem K6 {i j:Nat} {x y:Str} {a b:Expr} {ta:sj} {px py pt:Pos} {kt k2 tL} (hc:X.calm=true) (hN:X.N.Nodup) (hi:X.N[i]?=some x) (hj:X.N[j]?=some y) (hij:i≠j)
 (hx:X.env.scope.names.lookup x=some .local) (hy:X.env.scope.names.lookup y=some .local) (ha:yH X [a,b] ta)
 (hw:swappedStores [.Tuple [.Name x px,.Name y py] kt pt] (.Tuple [a,b] k2 tL) X.env=pure (some [x,y]):=by rfl)
 (hs:swapsWithSole [.Tuple [.Name x px,.Name y py] kt pt] (.Tuple [a,b] k2 tL) pos.line X.env=pure false:=by rfl) :
 Ab X (.Assign [.Tuple [.Name x px,.Name y py] kt pt] (.Tuple [a,b] k2 tL) pos) (K5 i j ta):=GV (HJ hc hN hi hj hij hx hy ha.dn hw hs) fun σ H ρ M D r q=>kq r q fun vs H' ds M' f dv r' ⟨d1,d2,e1,q⟩=>by
 subst e1
 obtain ⟨v,w,rfl,h1,h2⟩:=qu dv
 exact ⟨v,w,rfl,_,M',f,(r'.set h1).set h2,q⟩
variable {o:Expr} {to:cY} {es:List Expr} {t3:sj} {apos:Pos}
@[irreducible] def bf (p:Prop):Prop:=p
theorem bf.mk {p:Prop} (h:p):bf p:=by unfold bf;exact h
theorem bf.out {p:Prop} (h:bf p):p:=by unfold bf at h;exact h
def E5 (c:lZ) (tb:mL):mL:=fun D ρ M=> ∃ W:Nat→En→Mp→Prop,(∃ m,W m ρ M)∧∀ m ρ M,W m ρ M→
 c ρ M fun b M1=>if b=true then tb { D with nx:=fun ρ' M'=>bf (∃ m',m' < m∧W m' ρ' M'),ct:=fun ρ' M'=>bf (∃ m',m' < m∧W m' ρ' M'),bk:=D.nx } ρ M1 else D.nx ρ M1
theorem E6 {c:Expr} {body:List Stmt} {tc:lZ} {tb:mL} (hp:PassesOwn (model X.prog X.w) X.A X.env X.xe) (hc:yq X c tc) (hb:lC X body tb):Ab X (.While c body [] pos) (E5 tc tb):=GV (Cb hp hc.dn hb.dn) fun σ H ρ M D r ⟨W,⟨m0,w0⟩,turn⟩=>by
 refine ⟨fun m σ' H'=> ∃ ρ' M',Fr M H M' H'∧Rep X.K H' σ' ρ' M'∧W m ρ' M',⟨m0,ρ,M,.refl _ _,r,w0⟩,?_⟩
 rintro m σ1 H1 ⟨ρ1,M1,f1,r1,w1⟩
 refine nT r1 (turn m ρ1 M1 w1) fun k H2 M2 f2 r2 q=>?_
 cases k with
 | true=>
   refine ⟨fun σ' H'=> ∃ m',m' < m∧∃ ρ' M',Fr M H M' H'∧Rep X.K H' σ' ρ' M'∧W m' ρ' M',fun σ' H' z=>z,?_⟩
   have E7:=f1.trans f2
   refine ⟨ρ1,M2,_,r2,q,fun σ' H' ⟨ρ',M',f,r',z⟩=>let ⟨m',hm,w'⟩:=z.out;⟨m',hm,ρ',M',E7.trans f,r',w'⟩,fun _ _ p=>p.back E7,fun _ _ p=>p.back E7,fun σ' H' ⟨ρ',M',f,r',z⟩=>let ⟨m',hm,w'⟩:=z.out;⟨m',hm,ρ',M',E7.trans f,r',w'⟩⟩
 | false=>exact ⟨ρ1,M2,f1.trans f2,r2,q⟩
def runFor (gd:Mp→Prop) (g:Ey) (tb:mL) (D:GU):List L3.D→En→Mp→Prop
 | [],ρ,M=>gd M∧D.nx ρ M
 | x :: xs,ρ,M=>gd M∧g x ρ M fun ρ2 M2=>tb { D with nx:=runFor gd g tb D xs,ct:=runFor gd g tb D xs,bk:=D.nx } ρ2 M2
structure CA (K:PySem.W.Frag) (J:It) (inv:Hp→Prop) (ds:List L3.D):Prop where
 go:∀ i H,i < ds.length→inv H→J.go i H
 EL:∀ i H x H',i < ds.length→inv H→J.EL i H x H'→H'=H∧∃ d,ds[i]?=some d∧Dat K H d x
 stop:∀ H,inv H→J.stop ds.length H
theorem K4.dn {tg:Expr} {g:Ey} (h:K4 X tg g):PG X tg (fun v σ H Q=> ∃ ρ M d Q0,Rep X.K H σ ρ M∧Dat X.K H d v∧g d ρ M Q0∧∀ σ' H',iY X.K M H Q0 σ' H'→Q σ' H'):=
 fun pins s σ H v u Q I rv ⟨ρ,M,d,Q0,r,dv,q,k⟩=>dc (h.run pins s σ H ρ M v d u Q0 I r rv dv q) fun _ _ ⟨σ',H',I',p⟩=>⟨σ',H',I',k _ _ p⟩
theorem wM {K:PySem.W.Frag} {J:It} {inv:Hp→Prop} {ds:List L3.D} {gd:Mp→Prop} {g:Ey} {tb:mL} {D:GU} {σ:St} {H H0:Hp} {ρ:En} {M M0:Mp} (hJ:CA K J inv ds)
 (f0:Fr M0 H0 M H) (r:Rep K H σ ρ M)
 (stay:∀ M1 H1,Fr M H M1 H1→b9 K H1 M1→gd M1→inv H1) (q:runFor gd g tb D ds ρ M) :
 ∃ W:Nat→Nat→St→Hp→Prop,(∃ m,W 0 m σ H)∧∀ i m σ H,W i m σ H→
   (J.stop i H∧(ends K M0 H0 D).nx σ H)∨(J.go i H∧∃ N:St→Hp→Prop,(∀ σ' H',N σ' H'→∃ m',m' < m∧W (i+1) m' σ' H')∧∀ x H',J.EL i H x H'→
     (∃ ρ M d Q0,Rep K H' σ ρ M∧Dat K H' d x∧g d ρ M Q0∧∀ σ2 H2,iY K M H' Q0 σ2 H2→L8 K tb { (ends K M0 H0 D) with nx:=N,ct:=N,bk:=(ends K M0 H0 D).nx } σ2 H2)):=by
 refine ⟨fun i m σ1 H1=>m=ds.length - i∧i≤ds.length∧∃ ρ1 M1,Fr M H M1 H1∧Rep K H1 σ1 ρ1 M1∧runFor gd g tb D (ds.drop i) ρ1 M1,⟨ds.length,by simp,Nat.zero_le _,ρ,M,.refl _ _,r,by simpa using q⟩,?_⟩
 rintro i m σ1 H1 ⟨rfl,hi,ρ1,M1,f1,r1,q1⟩
 by_cases hlt:i < ds.length
 ·have hdr:ds.drop i=ds[i] :: ds.drop (i+1):=List.drop_eq_getElem_cons hlt
  rw [hdr] at q1
  obtain ⟨hg,q1⟩:=q1
  have JT:=stay M1 H1 f1 r1.mem hg
  refine .inr ⟨hJ.go i H1 hlt JT,fun σ' H'=> ∃ ρ' M',Fr M H M' H'∧Rep K H' σ' ρ' M'∧runFor gd g tb D (ds.drop (i+1)) ρ' M',fun σ' H' ⟨ρ',M',f',r',q'⟩=>⟨ds.length - (i+1),by omega,rfl,hlt,ρ',M',f',r',q'⟩,fun x H' y=>?_⟩
  obtain ⟨e,d,hd1,hd2⟩:=hJ.EL i H1 x H' hlt JT y
  subst e
  have ed:d=ds[i]:=Option.some.inj (hd1.symm.trans (List.getElem?_eq_getElem hlt))
  subst ed
  refine ⟨ρ1,M1,_,_,r1,hd2,q1,fun σ2 H2 ⟨ρ2,M2,f2,r2,q2⟩=>?_⟩
  have E7:=f1.trans f2
  have Pw:=f0.trans E7
  exact ⟨ρ2,M2,_,r2,q2,fun σ' H' ⟨ρ',M',f,r',z⟩=>⟨ρ',M',E7.trans f,r',z⟩,fun _ _ p=>p.back Pw,fun _ _ p=>p.back Pw,fun σ' H' ⟨ρ',M',f,r',z⟩=>⟨ρ',M',E7.trans f,r',z⟩⟩
 ·have e:i=ds.length:=by omega
  subst e
  rw [List.drop_of_length_le (Nat.le_refl _)] at q1
  obtain ⟨hg,q1⟩:=q1
  exact .inl ⟨hJ.stop H1 (stay M1 H1 f1 r1.mem hg),ρ1,M1,f0.trans f1,r1,q1⟩
def K7 (te:cY) (g:Ey) (tb:mL):mL:=fun D ρ M=>te ρ M fun d M1=> ∃ a xs,d= .ref a∧M1 a=some (.lst xs)∧runFor (fun M=>M a=some (.lst xs)) g tb D xs ρ M1
def K8 (t:sj) (g:Ey) (tb:mL):mL:=fun D ρ M=>t ρ M fun vs M1=> ∃ j:Int,vs= [.int j]∧ -(2 ^ 62)≤j∧j < 2 ^ 62∧runFor (fun _=>True) g tb D ((List.range j.toNat).map fun (k:Nat)=>L3.D.int (k:Int)) ρ M1
variable {tg iter:Expr} {body:List Stmt} {g:Ey} {tb:mL}
theorem CB {K:PySem.W.Frag} {a:Addr} {ds:List L3.D}:CA K (MX K a) (fun H=> ∃ vs,H a=some (.lst vs)∧aG K H ds vs) ds:=
 ⟨fun i H hi ⟨vs,h,hd⟩=>⟨vs,vs[i]'(by rw [← hd.length];exact hi),iD.of h,List.getElem?_eq_getElem _⟩,fun i H x H' _ ⟨vs,h,hd⟩ y=>⟨y.1,hd.back (y.2 vs (iD.of h))⟩,fun H ⟨vs,h,hd⟩=>⟨vs,iD.of h,by rw [hd.length];exact Nat.le_refl _⟩⟩
theorem CC {K:PySem.W.Frag} {n:Nat}:CA K (L6 0 n) (fun _=>True) ((List.range n).map fun (k:Nat)=>L3.D.int (k:Int)):=
 ⟨fun i H hi _=>by show i < n;simpa using hi,fun i H x H' hi _ y=>⟨y.1,L3.D.int (i:Int),by
  have hi:i < n:=by simpa using hi
  simp [hi],aJ.mpr (by rw [y.2,Int.zero_add])⟩,fun H _=>by show n≤_;simp⟩
theorem uP (hp:PassesOwn (model X.prog X.w) X.A X.env X.xe) (hc:X.calm=true) (hi:cM X iter te) (hg:K4 X tg g) (hb:lC X body tb)
 (hs:∀ x,foldedSetIterable iter X.env x=pure x:=by intro _;rfl):Ab X (.For tg iter body [] pos) (K7 te g tb):=GV (Ce hp hc (zN hi.dn) hg.dn hb.dn hs) fun σ H ρ M D r q=>fH r q fun v H' d M' f dv r' ⟨a,xs,e1,hM,q⟩=>by
 subst e1
 obtain rfl:=aK.mp dv
 obtain ⟨ys,ha,hy⟩:=r'.mem.lst hM
 exact ⟨a,rfl,⟨ys,iD.of ha⟩,wM CB f r' (fun M1 H1 f1 lG g1=>lG.lst g1) q⟩
theorem gG {a:Expr} {t:sj} {p rpos:Pos} (hp:PassesOwn (model X.prog X.w) X.A X.env X.xe) (hc:X.calm=true) (E8:Gl X "range") (hm:X.mg "range" =none) (ha:yH X [a] t) (hg:K4 X tg g) (hb:lC X body tb)
 (hst:starEach [a] X.env= [(false,eval a X.env)]:=by rfl)
 (hs:∀ x,foldedSetIterable (.Call (.Name "range" p) [a] [] rpos) X.env x=pure x:=by intro _;rfl):Ab X (.For tg (.Call (.Name "range" p) [a] [] rpos) body [] pos) (K8 t g tb):=GV (Ce hp hc (tM E8 hm ha.dn hst) hg.dn hb.dn hs) fun σ H ρ M D r q=>kq r q fun vs H' ds M' f dv r' ⟨j,e1,h1,h2,q⟩=>by
 subst e1
 obtain ⟨v,rfl,hv⟩:=mS dv
 obtain rfl:=aJ.mp hv
 exact ⟨j,rfl,h1,h2,wM CC f r' (fun _ _ _ _ _=>trivial) q⟩
def K9 (to te:cY):cY:=fun ρ M Q=>to ρ M fun d M1=>(∃ l xs,d= .ref l∧M1 l=some (.lst xs))∧te ρ M1 fun e M2=> ∃ l xs,d= .ref l∧M2 l=some (.lst xs)∧xs.length < sizeLine∧Q .bA (aA M2 l (.lst (xs ++ [e])))
theorem CD {o e:Expr} {to te:cY} {apos:Pos} (ho:cM X o to) (he:cM X e te) (IE:PE X (.Call (.Attribute o "append" apos) [e] [] pos) (Nn X.K "list" zX (dn X.K to) (Cg (dn X.K te) HW))):cM X (.Call (.Attribute o "append" apos) [e] [] pos) (K9 to te):=
 up IE fun σ H ρ M Q r q=>fH r q fun v H' d M' f dv r' ⟨⟨l,xs,e1,hM⟩,q⟩=>by
  subst e1
  obtain rfl:=aK.mp dv
  obtain ⟨ys,ha,hy⟩:=r'.mem.lst hM
  refine ⟨.inl ⟨rfl,_,iD.of ha⟩,fH r' q fun u H2 d2 M2 f2 du r2 ⟨l',xs',e2,La,hlt,q2⟩=>?_⟩
  injection e2 with e2
  subst e2
  obtain ⟨zs,hb,hz⟩:=r2.mem.lst La
  refine ⟨l,zs,u,rfl,rfl,hb,by rw [← hz.length];exact hlt,.bA,_,(f.trans f2).trans (Fr.write (K:=X.K) La),cJ.mpr rfl,r2.mem.ko hb (hz.append (aG.one du)),q2⟩
end
section
variable {P:Program} {w:World} {K:PySem.W.Frag} {mg:Str→Option Value} {base:Heap}
def l6 (N:List Str) (ds:List D):En:=ds.map some ++ List.replicate (N.length - ds.length) none
theorem tV {H:Hp} {N:List Str} {ds:List D} {vs:List V} {M:Mp} (h:aG K H ds vs) (rm:b9 K H M):Rep K H (L2.start N vs) (l6 N ds) M:=by
 have hl:=h.length
 refine ⟨fun i d e=>?_,by unfold L2.start l6;simp [hl],rm⟩
 unfold l6 at e
 by_cases hi:i < ds.length
 ·rw [List.getElem?_append_left (by simpa using hi),List.getElem?_map] at e
  cases q:ds[i]? with
  | none=>rw [q] at e;cases e
  | some d'=>
    rw [q] at e
    cases e
    obtain ⟨v,h1,h2⟩:=h.get q
    refine ⟨v,?_,h2⟩
    unfold L2.start
    rw [List.getElem?_append_left (by simp;omega),List.getElem?_map,h1]
    rfl
 ·rw [List.getElem?_append_right (by simpa using hi),List.getElem?_replicate] at e
  split at e <;> cases e
theorem A4 {x qual:Str} {st:Stmt} {f:Addr} {fd:FuncData} {N ps:List Str} {k:Nat} {S:wK} (F:j6 K x qual st f fd) (Sc:aO N ps (az st)) (len:∀ ds Q,S ds Q→ds.length=ps.length)
 (hbody:∀ (cdv:Value) (A:Around) (outer:List Env) (s:Shared) (H:Hp),iE k (A.deeper (envOfC qual (az st) s.heap.objs.size f cdv))→
  ∃ t,lC (pG fZ P w K mg base N qual (az st) f cdv A outer s H E0).Ew (gc st) t∧∀ ds Q,S ds Q→t { nx:=fun _ _=>Q .bA,rt:=fun d _=>Q d } (l6 N ds) KC) :
 b8 P w K mg base fZ (k+1) f fd ps (wg K S):=by
 refine F.ok Sc (fun vs H Q E h=>?_) (fun cdv A outer s H vs Q E hr h=>?_)
 ·obtain ⟨ds,Q0,h1,h2,_⟩:=h
  rw [← h1.length,len ds Q0 h2]
 ·obtain ⟨ds,Q0,h1,h2,h3⟩:=h
  obtain ⟨t,ht,hq⟩:=hbody cdv A outer s H hr
  have hE:(pG fZ P w K mg base N qual (az st) f cdv A outer s H E).Ew=(pG fZ P w K mg base N qual (az st) f cdv A outer s H E0).Ew:=rfl
  refine ⟨_,lC.dn (by rw [hE];exact ht),l6 N ds,KC,_,tV h1 b9.no,hq ds Q0 h2,fun σ' H' ⟨ρ',M',f',r',q⟩=>?_,fun v H' ⟨d,M',f',dv,rm,q⟩=>?_,fun _ _ ⟨_,_,_,_,z⟩=>z.elim,fun _ _ ⟨_,_,_,_,z⟩=>z.elim⟩
  ·exact h3 .bA .bA H' q (cJ.mpr rfl) fun b o e=>(f' b o rfl e).1
  ·exact h3 d v H' q dv fun b o e=>(f' b o rfl e).1
theorem uQ {x qual:Str} {st:Stmt} {f:Addr} {fd:FuncData} {N ps:List Str} {k:Nat} {S:pI} (F:j6 K x qual st f fd) (Sc:aO N ps (az st)) (len:∀ ds M Q,S ds M Q→ds.length=ps.length)
 (hbody:∀ (cdv:Value) (A:Around) (outer:List Env) (s:Shared) (H:Hp),iE k (A.deeper (envOfC qual (az st) s.heap.objs.size f cdv))→
  ∃ t,lC (pG fZ P w K mg base N qual (az st) f cdv A outer s H E0).Ew (gc st) t∧∀ ds M Q,S ds M Q→t { nx:=fun _ M'=>bf (∃ M0,Le M0 M'∧Q .bA M0),rt:=fun d M'=>bf (∃ M0,Le M0 M'∧Q d M0) } (l6 N ds) M) :
 b8 P w K mg base fZ (k+1) f fd ps (qc K S):=by
 refine F.ok Sc (fun vs H Q E h=>?_) (fun cdv A outer s H vs Q E hr h=>?_)
 ·obtain ⟨ds,M,Q0,h1,_,h2,_⟩:=h
  rw [← h1.length,len ds M Q0 h2]
 ·obtain ⟨ds,M,Q0,h1,rm,h2,h3⟩:=h
  obtain ⟨t,ht,hq⟩:=hbody cdv A outer s H hr
  have hE:(pG fZ P w K mg base N qual (az st) f cdv A outer s H E).Ew=(pG fZ P w K mg base N qual (az st) f cdv A outer s H E0).Ew:=rfl
  refine ⟨_,lC.dn (by rw [hE];exact ht),l6 N ds,M,_,tV h1 rm,hq ds M Q0 h2,fun σ' H' ⟨ρ',M',f',r',z⟩=>?_,fun v H' ⟨d,M',f',dv,QY,z⟩=>?_,fun _ _ ⟨_,_,_,_,z⟩=>z.elim,fun _ _ ⟨_,_,_,_,z⟩=>z.elim⟩
  ·obtain ⟨M0,l,q⟩:=z.out
   exact h3 .bA M0 .bA H' q (cJ.mpr rfl) (r'.mem.le l) (f'.le l)
  ·obtain ⟨M0,l,q⟩:=z.out
   exact h3 d M0 v H' q dv (QY.le l) (f'.le l)
end
end L3
namespace L3
open PySem PySem.Spec PyProof.Rows L2
section
variable {X:Cx}
def intsOf:List D→Option (List Int)
 | []=>some []
 | .int i :: ds=>(intsOf ds).map (i :: ·)
 | _ :: _=>none
theorem l7:∀ {ds:List D} {ns:List Int},intsOf ds=some ns→ds=ns.map D.int
 | [],ns,h=>by cases h;rfl
 | .int i :: ds,ns,h=>by
   have h:(intsOf ds).map (i :: ·)=some ns:=h
   cases q:intsOf ds with
   | none=>rw [q] at h;cases h
   | some ms=>
     rw [q] at h
     have h:i :: ms=ns:=Option.some.inj h
     subst h
     rw [l7 q];rfl
 | .bA :: _,ns,h=>by cases h
 | .bl _ :: _,ns,h=>by cases h
 | .str _ :: _,ns,h=>by cases h
 | .ty _ :: _,ns,h=>by cases h
 | .ref _ :: _,ns,h=>by cases h
 | .tup _ :: _,ns,h=>by cases h
 | .wG _ :: _,ns,h=>by cases h
 | .GR _ :: _,ns,h=>by cases h
 | .exc _ _ _ :: _,ns,h=>by cases h
def Px:D→D→Option Bool
 | .int i,.int j=>some (decide (i < j))
 | .tup ds,.tup es=>match intsOf ds,intsOf es with
   | some ns,some ms=>some (HT.lexLt ns ms)
   | _,_=>none
 | _,_=>none
def NU:R3:=fun d e M Q=> ∃ b,Px d e=some b∧Q (.bl b) M
theorem oY (hu:X.A.units+64 < cLine):nP X (compareOp .Lt) NU:=by
 constructor
 intro pins s σ H M x y d e v u Q I rm rx ry dx dy ⟨b,hb,q⟩
 unfold Px at hb
 split at hb
 ·rename_i i j
  have hb:=Option.some.inj hb
  subst hb
  exact NI.run pins s σ H M x y _ _ v u Q I rm rx ry dx dy ⟨i,j,rfl,rfl,q⟩
 ·rename_i ds es
  split at hb
  ·rename_i ns ms h1 h2
   have hb:=Option.some.inj hb
   subst hb
   exact (KQ hu).run pins s σ H M x y _ _ v u Q I rm rx ry dx dy ⟨ns,ms,by rw [l7 h1],by rw [l7 h2],q⟩
  ·cases hb
 ·cases hb
theorem aI:bootBuiltins "len" =some (.builtin "len"):=by decide +kernel
theorem nX:bootBuiltins "min" =some (.builtin "min"):=by decide +kernel
theorem tW:bootBuiltins "max" =some (.builtin "max"):=by decide +kernel
theorem bO:bootBuiltins "sorted" =some (.builtin "sorted"):=by decide +kernel
theorem ao:bootBuiltins "isinstance" =some (.builtin "isinstance"):=by decide +kernel
theorem bx:bootBuiltins "list" =some (.type "list"):=by decide +kernel
theorem dN:bootBuiltins "int" =some (.type "int"):=by decide +kernel
theorem jx:bootBuiltins "bool" =some (.type "bool"):=by decide +kernel
theorem cI:bootBuiltins "tuple" =some (.type "tuple"):=by decide +kernel
end
theorem qv {m n:Nat} (h:m≤n):2 ^ m≤2 ^ n:=Nat.pow_le_pow_right (by decide) h
theorem Sm.le {m n:Nat} {i:Int} (h:Sm m i) (l:m≤n):Sm n i:=Nat.lt_of_lt_of_le h (qv l)
theorem Sm.IF {n:Nat} {i j:Int} (h:Sm n j) (l:i.natAbs≤j.natAbs):Sm n i:=Nat.lt_of_le_of_lt l h
theorem Sm.add {m n:Nat} {i j:Int} (h1:Sm m i) (h2:Sm n j):Sm (max m n+1) (i+j):=by
 have a:=Nat.lt_of_lt_of_le h1 (qv (Nat.le_max_left m n))
 have b:=Nat.lt_of_lt_of_le h2 (qv (Nat.le_max_right m n))
 show (i+j).natAbs < 2 ^ (max m n+1)
 rw [Nat.pow_succ]
 have:=Int.natAbs_add_le i j
 omega
theorem Sm.neg {n:Nat} {i:Int} (h:Sm n i):Sm n (-i):=by
 show (-i).natAbs < _
 rw [Int.natAbs_neg];exact h
theorem Sm.sub {m n:Nat} {i j:Int} (h1:Sm m i) (h2:Sm n j):Sm (max m n+1) (i - j):=by
 rw [Int.sub_eq_add_neg];exact h1.add h2.neg
theorem Sm.mul {m n:Nat} {i j:Int} (h1:Sm m i) (h2:Sm n j):Sm (m+n) (i*j):=by
 show (i*j).natAbs < 2 ^ (m+n)
 rw [Int.natAbs_mul,Nat.pow_add]
 exact Nat.mul_lt_mul'' h1 h2
theorem Sm.emod {n:Nat} {i j:Int} (hj:0 < j) (h:Sm n j):Sm n (i % j):=by
 have h1:=Int.emod_nonneg i (show j≠0 by omega)
 have h2:=Int.emod_lt_of_pos i hj
 exact h.IF (by omega)
instance {n:Nat} {i:Int}:Decidable (Sm n i):=inferInstanceAs (Decidable (_ < _))
theorem MulOk.of {m n:Nat} {i j:Int} (h1:Sm m i) (h2:Sm n j) (h:m+n≤100000):MulOk i j:=⟨m,n,h1,h2,h⟩
theorem Sm.lit (i:Int):Sm (i.natAbs.log2+1) i:=Nat.lt_log2_self
theorem Sm.two:Sm 2 2:=by decide
theorem Sm.one:Sm 1 1:=by decide
theorem Sm.zero:Sm 0 0:=by decide
theorem bF {K:PySem.W.Frag} {n:String}:PySem.W.kitOne K (.type n) (.type n)=some true:=by simp [PySem.W.kitOne]
structure Pl where
 x:Int
 y:Int
 deriving DecidableEq
def Pl.d (p:Pl):D:= .tup [.int p.x,.int p.y]
def Pl.Ok (n:Nat) (p:Pl):Prop:=Sm n p.x∧Sm n p.y
theorem cU (p q:Pl):di p.d q.d=decide (p=q):=by
 unfold Pl.d
 rw [jw,iZ,iZ,wI,eB,eB,Bool.eq_iff_iff]
 cases p;cases q
 simp
end L3
namespace L3
open PySem L2
theorem tX {K:PySem.W.Frag} {H:Hp}:∀ (ns:List Int),aG K H (ns.map D.int) (ns.map V.int)
 | []=>aL.mpr rfl
 | n :: ns=>aF.mpr ⟨_,_,rfl,aJ.mpr rfl,tX ns⟩
end L3
namespace L3
theorem aS {gd:Mp→Prop} {g:Ey} {tb:mL} {D:GU} {ρ:En} {M:Mp} (Pv:Nat→En→Mp→Prop):∀ (xs:List L3.D),
 (∀ (i:Nat) (x:L3.D) (ρ:En) (M:Mp) (N:En→Mp→Prop),xs[i]?=some x→Pv i ρ M→(∀ ρ' M',Pv (i+1) ρ' M'→N ρ' M')→gd M∧g x ρ M fun ρ2 M2=>tb { D with nx:=N,ct:=N,bk:=D.nx } ρ2 M2)→
 (∀ ρ M,Pv xs.length ρ M→gd M∧D.nx ρ M)→Pv 0 ρ M→runFor gd g tb D xs ρ M:=by
 intro xs hs hd h0
 have key:∀ (ys:List L3.D) (i:Nat) (ρ:En) (M:Mp),xs.drop i=ys→Pv i ρ M→i≤xs.length→runFor gd g tb D ys ρ M:=by
  intro ys
  induction ys with
  | nil=>
    intro i ρ M e p hi
    have:xs.length≤i:=by
     have:=congrArg List.length e
     rw [List.length_drop] at this
     simp at this
     omega
    have:i=xs.length:=by omega
    subst this
    exact hd ρ M p
  | cons y ys ih=>
    intro i ρ M e p hi
    have hx:xs[i]?=some y:=by
     have:=congrArg (fun l=>l[0]?) e
     simpa using this
    have hlt:i < xs.length:=(List.getElem?_eq_some_iff.mp hx).1
    refine hs i y ρ M _ hx p fun ρ' M' p'=>ih (i+1) ρ' M' ?_ p' hlt
    rw [← List.drop_drop,e]
    rfl
 exact key xs 0 ρ M rfl h0 (Nat.zero_le _)
theorem bL {n i:Nat} {x:L3.D} (h:((List.range n).map fun (k:Nat)=>L3.D.int (k:Int))[i]?=some x):i < n∧x= .int (i:Int):=by
 rw [List.getElem?_map] at h
 by_cases hi:i < n
 ·rw [List.getElem?_range hi] at h
  exact ⟨hi,(Option.some.inj h).symm⟩
 ·rw [List.getElem?_eq_none (by simp;omega)] at h
  cases h
end L3
namespace L3
def frac (a b:Int):Pl:=⟨a.fdiv ((Int.gcd a b:Int)*b.sign),b.fdiv ((Int.gcd a b:Int)*b.sign)⟩
def low (a b:Int):Pl:=⟨a / (Int.gcd a b:Int),b / (Int.gcd a b:Int)⟩
end L3
local macro_rules | `(tactic| walk_at "sm")=> `(tactic| first | assumption | exact L3.Sm.sign _ | exact L3.Sm.zero | exact L3.Sm.one | exact L3.Sm.two | ((with_reducible apply L3.Sm.mul) <;> walk_at "sm") | ((with_reducible apply L3.Sm.sub) <;> walk_at "sm") | ((with_reducible apply L3.Sm.add) <;> walk_at "sm") | ((with_reducible apply L3.Sm.neg) <;> walk_at "sm") | ((with_reducible apply L3.Sm.abs) <;> walk_at "sm") | ((with_reducible apply L3.Sm.emod);(first | omega | decide +kernel);walk_at "sm") | exact L3.Sm.lit _)
local macro_rules | `(tactic| walk_at "smle")=> `(tactic| (apply L3.Sm.le;walk_at "sm";first | omega | decide +kernel))
namespace L3
@[irreducible] def QZ (p f g:Pl):Int:=(p.x*f.y - f.x)*g.y*((p.x*f.y - f.x)*g.y)+(p.y*g.y - g.x)*f.y*((p.y*g.y - g.x)*f.y)
@[irreducible] def sq (p f g:Pl):Pl:=frac (QZ p f g) (f.y*g.y*(f.y*g.y))
end L3
namespace L3
@[irreducible] def tw (a b c:Pl):Int:=(b.x - a.x)*(c.y - a.y) - (b.y - a.y)*(c.x - a.x)
theorem jy (a b c:Pl):tw b c a=tw a b c:=by unfold tw;grind
theorem uR (a b c:Pl):tw b a c= -tw a b c:=by unfold tw;grind
theorem kr (a b c:Pl):tw a c b= -tw a b c:=by unfold tw;grind
theorem mV (a b:Pl):tw a a b=0:=by unfold tw;grind
theorem wN (a b:Pl):tw a b b=0:=by unfold tw;grind
theorem qw (a b:Pl):tw a b a=0:=by unfold tw;grind
def aZ (p q:Pl):Prop:=p.x < q.x∨(p.x=q.x∧p.y < q.y)
instance (p q:Pl):Decidable (aZ p q):=inferInstanceAs (Decidable (_∨_))
theorem bY (p:Pl):¬ aZ p p:=by unfold aZ;omega
theorem c6 {p q r:Pl} (a:aZ p q) (b:aZ q r):aZ p r:=by unfold aZ at *;omega
theorem bH {p q:Pl} (a:aZ p q):¬ aZ q p:=by unfold aZ at *;omega
theorem gZ (p q:Pl):aZ p q∨p=q∨aZ q p:=by
 unfold aZ
 by_cases h:p=q
 ·exact .inr (.inl h)
 ·have:¬ (p.x=q.x∧p.y=q.y):=fun ⟨a,b⟩=>h (by cases p;cases q;simp only at a b;rw [a,b])
  omega
theorem uS {p q:Pl} (a:aZ p q):p≠q:=fun e=>bY q (e▸a)
def lo (p q:Pl):Pl:=if aZ q p then q else p
def hi (p q:Pl):Pl:=if aZ p q then q else p
@[irreducible] def NV (p q:Pl):Int:=(q.x - p.x)*(q.x - p.x)+(q.y - p.y)*(q.y - p.y)
@[irreducible] def dep (a b c d:Pl):Int:=NV d a*tw d b c+NV d b*tw d c a+NV d c*tw d a b
@[irreducible] def rg (a b c d:Pl):Int:=(tw a b c).sign*(dep a b c d).sign
end L3
namespace L3
def Py (a b c d:Pl):Prop:=rg a b c d=1∨(rg a b c d=0∧d≠a∧d≠b∧d≠c∧((aZ d a∧aZ d b∧aZ d c)∨(aZ a b∧aZ a c∧aZ a d∧(tw b c d).sign≠(tw b c a).sign)∨(aZ b a∧aZ b c∧aZ b d∧(tw c a d).sign≠(tw c a b).sign)∨(aZ c a∧aZ c b∧aZ c d∧(tw a b d).sign≠(tw a b c).sign)))
instance (a b c d:Pl):Decidable (Py a b c d):=inferInstanceAs (Decidable (_∨_))
def Q2 (p q r s:Pl):Prop:=(0 < tw p q r∧tw p q s < 0)∨(tw p q r < 0∧0 < tw p q s)
theorem iG {p q:Pl} (h:p≠q):aZ p q∨aZ q p:=by
 rcases gZ p q with z | z | z
 ·exact .inl z
 ·exact absurd z h
 ·exact .inr z
end L3
namespace L3
end L3
namespace L3
end L3
namespace L3
open PySem PySem.Spec PyProof.Rows
section
variable {P:Program} {w:World} {A:Around} {E:Value→Shared→Prop} {s:Shared} {κ:KeyKind} {kd:SortKind} {z:Array Keyed} {t:SortSt}
structure Ask (P:Program) (w:World) (A:Around) (s:Shared) (κ:KeyKind) (kd:SortKind):Prop where
 lt:∀ (E:Value→Shared→Prop) (x y:Value) (a b:κ.α) (R:Bool→Shared→Prop),κ.keyOf x=some a→κ.keyOf y=some b→R (κ.blt a b) s→wpAny (model P w) A (keyLt' kd x y) R E s
structure Mid (kd:SortKind) (z:Array Keyed) (t:SortSt):Prop where
 pm:(arrOf t).Perm z
 kd:kindOf t=kd
 ok:failedOf t=none
 no:pendingOf t= #[]
theorem Mid.sz (m:Mid kd z t):(arrOf t).size=z.size:=m.pm.size_eq
theorem Mid.put (m:Mid kd z t) {y:Array Keyed} (h:y.Perm (arrOf t)):Mid kd z (setArr t y):=⟨h.trans m.pm,m.kd,m.ok,m.no⟩
theorem Mid.key (m:Mid kd z t) (hk:KeysOf κ z) {i:Nat} (hi:i < z.size):∃ x q,(arrOf t)[i]?=some (x,q)∧κ.keyOf x=some (KK κ (arrOf t) i):=by
 have hlt:i < (arrOf t).size:=m.sz▸hi
 have e:(arrOf t)[i]?=some (arrOf t)[i]:=getElem?_pos _ i hlt
 obtain ⟨a,ha⟩:=hk (arrOf t)[i] ((Array.perm_iff_toList_perm.mp m.pm).mem_iff.mp (by simp))
 refine ⟨(arrOf t)[i].1,(arrOf t)[i].2,e,?_⟩
 have ek:KK κ (arrOf t) i=a:=by unfold KK;rw [e];simp only [ha,Option.getD_some]
 rw [ek];exact ha
theorem qz (hA:Ask P w A s κ kd) (m:Mid kd z t) (hk:KeysOf κ z) {i j:Nat} (hi:i < z.size) (hj:j < z.size) {R:Option Bool→SortSt→Prop}
 (h:R (some (κ.blt (KK κ (arrOf t) i) (KK κ (arrOf t) j))) t):wpS (model P w) A E s (ltAt' i j) R t:=by
 obtain ⟨x,p,e1,k1⟩:=m.key hk hi
 obtain ⟨y,q,e2,k2⟩:=m.key hk hj
 rw [ltAt'_eq]
 apply wpS_bind;apply wpS_get
 show wpS (model P w) A E s (elem' (arrOf t) i >>= fun u=>elem' (arrOf t) j >>= fun v=>lt' u v) R t
 rw [elem'_eq,elem'_eq,e1,e2]
 apply wpS_bind;apply wpS_pure
 apply wpS_bind;apply wpS_pure
 rw [lt'_eq]
 apply wpS_bind;apply wpS_get
 rw [m.kd]
 refine wpS_bind (wpS_lift (wpAny_attempt (hA.lt _ x y _ _ _ k1 k2 ⟨rfl,wpS_pure h⟩)))
theorem rise {y:Array Keyed} {n:Nat} (h:SortedToK κ y n) (hl:1≤n) (hn:κ.kle (KK κ y (n - 1)) (KK κ y n)):SortedToK κ y (n+1):=by
 intro i j hij hj
 rcases Nat.lt_or_ge j n with c | c
 ·exact h i j hij c
 ·obtain rfl:j=n:=by omega
  rcases Nat.lt_or_ge i j with d | d
  ·exact KeyOrd.kle_trans (h i (j - 1) (by omega) (by omega)) hn
  ·obtain rfl:i=j:=by omega
   exact KeyOrd.kle_refl _
theorem E9 {y:Array Keyed} {n:Nat} (h:NonIncK κ y n) (hl:1≤n) (hn:κ.kle (KK κ y n) (KK κ y (n - 1))):NonIncK κ y (n+1):=by
 intro i j hij hj
 rcases Nat.lt_or_ge j n with c | c
 ·exact h i j hij c
 ·obtain rfl:j=n:=by omega
  rcases Nat.lt_or_ge i j with d | d
  ·exact KeyOrd.kle_trans hn (h i (j - 1) (by omega) (by omega))
  ·obtain rfl:i=j:=by omega
   exact KeyOrd.kle_refl _
theorem one_up (y:Array Keyed):SortedToK κ y 1:=by
 intro i j hij hj
 obtain rfl:i=j:=by omega
 exact KeyOrd.kle_refl _
theorem IG (y:Array Keyed):NonIncK κ y 1:=by
 intro i j hij hj
 obtain rfl:i=j:=by omega
 exact KeyOrd.kle_refl _
theorem Af (hA:Ask P w A s κ kd) (hk:KeysOf κ z) (m:Mid kd z t) {a e:Nat} (he:e≤z.size) (h1:1≤a) (NW:a≤e) (up:SortedToK κ (arrOf t) a) {R:AscSt→SortSt→Prop}
 (h:∀ n,a≤n→n≤e→SortedToK κ (arrOf t) n→(n < e→κ.klt (KK κ (arrOf t) n) (KK κ (arrOf t) (n - 1)))→R (none,n) t):wpS (model P w) A E s (ascLoop a e) R t:=by
 unfold ascLoop
 refine wpS_forRange (I:=fun i b u=>b=(none,i)∧u=t∧SortedToK κ (arrOf t) i) (fun i b u hi1 hi2 hI=>?_) (fun b u hI=>?_) ⟨rfl,rfl,up⟩
 ·obtain ⟨rfl,rfl,hup⟩:=hI
  apply wpS_bind
  apply qz hA m hk (by show i < z.size;omega) (by show i - 1 < z.size;omega)
  show wpS (model P w) A E s (if κ.blt (KK κ (arrOf u) i) (KK κ (arrOf u) (i - 1))=true then _ else _) _ u
  cases c:κ.blt (KK κ (arrOf u) i) (KK κ (arrOf u) (i - 1)) with
  | true=>rw [if_pos rfl];exact wpS_pure (h i hi1 (by omega) hup fun _=>c)
  | false=>rw [if_neg Bool.false_ne_true];exact wpS_pure ⟨rfl,rfl,rise hup (by omega) c⟩
 ·obtain ⟨rfl,rfl,hup⟩:=hI
  have em:max a e=e:=by omega
  rw [em] at hup ⊢
  exact h e NW (Nat.le_refl e) hup fun c=>absurd c (Nat.lt_irrefl e)
theorem wO (hA:Ask P w A s κ kd) (hk:KeysOf κ z) (m:Mid kd z t) {n e:Nat} (he:e≤z.size) (h1:1≤n) (hne:n≤e) (dn:NonIncK κ (arrOf t) n) {R:Option Nat→SortSt→Prop}
 (h:∀ i u,Mid kd z u→1≤i→i≤e→SortedToK κ (arrOf u) i→R (some i) u):wpS (model P w) A E s (tail3 n e) R t:=by
 have hz:n≤(arrOf t).size:=by have:=m.sz;omega
 have m2:=m.put (mirror_perm (arrOf t) 0 n ((n - 0) / 2))
 unfold tail3
 apply wpS_bind
 apply wpS_reverse
 apply wpS_bind
 refine Af hA hk m2 he h1 hne (fun i j hij hj=>?_) fun i h2 h3 up _=>wpS_pure (h i _ m2 (by omega) h3 up)
 show κ.kle (KK κ (mirror (arrOf t) 0 n ((n - 0) / 2)) i) (KK κ (mirror (arrOf t) 0 n ((n - 0) / 2)) j)
 rw [KK_mirror hz i,KK_mirror hz j,if_pos ⟨Nat.zero_le i,by omega⟩,if_pos ⟨Nat.zero_le j,hj⟩]
 exact dn _ _ (by omega) (by omega)
def CF (κ:KeyKind) (y:Array Keyed) (n q:Nat):Prop:=q+1≤n∧∀ i,n - (q+1)≤i→i < n→KK κ y i=KK κ y (n - 1)
theorem CG {y:Array Keyed} {n:Nat} (h:1≤n):CF κ y n 0:=by
 refine ⟨by omega,fun i h1 h2=>?_⟩
 obtain rfl:i=n - 1:=by omega
 rfl
theorem CH (hA:Ask P w A s κ kd) (hk:KeysOf κ z) (m:Mid kd z t) {a e:Nat} (he:e≤z.size) (h1:1≤a) (NW:a≤e) (dn:NonIncK κ (arrOf t) a) {R:DescSt→SortSt→Prop}
 (h:∀ n q u,Mid kd z u→a≤n→n≤e→NonIncK κ (arrOf u) n→CF κ (arrOf u) n q→R (none,n,q) u):wpS (model P w) A E s (descLoop a e) R t:=by
 unfold descLoop
 refine wpS_forRange (I:=fun i b u=>Mid kd z u∧NonIncK κ (arrOf u) i∧∃ q,CF κ (arrOf u) i q∧b=(none,i,q)) (fun i b u hi1 hi2 hI=>?_) (fun b u hI=>?_) ⟨m,dn,0,CG h1,rfl⟩
 ·obtain ⟨mu,hd,q,hq,rfl⟩:=hI
  have hz:i≤(arrOf u).size:=by have:=mu.sz;omega
  apply wpS_bind
  apply qz hA mu hk (by show i < z.size;omega) (by show i - 1 < z.size;omega)
  show wpS (model P w) A E s (if κ.blt (KK κ (arrOf u) i) (KK κ (arrOf u) (i - 1))=true then _ else _) _ u
  cases c:κ.blt (KK κ (arrOf u) i) (KK κ (arrOf u) (i - 1)) with
  | true=>
    rw [if_pos rfl]
    have lower:NonIncK κ (arrOf u) (i+1):=E9 hd (by omega) (KeyOrd.kle_of_klt c)
    show wpS (model P w) A E s (if q > 0 then _ else _) _ u
    by_cases d:q > 0
    ·rw [if_pos d]
     apply wpS_bind
     apply wpS_reverse
     have same:=KK_mirror_equal (κ:=κ) hz hq.2
     refine wpS_pure ⟨mu.put (mirror_perm _ _ _ _),fun x y hxy hy=>?_,0,CG (by omega),rfl⟩
     show κ.kle (KK κ (mirror (arrOf u) (i - (q+1)) i _) y) (KK κ (mirror (arrOf u) (i - (q+1)) i _) x)
     rw [same,same]
     exact lower x y hxy hy
    ·rw [if_neg d]
     exact wpS_pure ⟨mu,lower,0,CG (by omega),rfl⟩
  | false=>
    rw [if_neg Bool.false_ne_true]
    apply wpS_bind
    apply qz hA mu hk (by show i - 1 < z.size;omega) (by show i < z.size;omega)
    show wpS (model P w) A E s (if κ.blt (KK κ (arrOf u) (i - 1)) (KK κ (arrOf u) i)=true then _ else _) _ u
    cases d:κ.blt (KK κ (arrOf u) (i - 1)) (KK κ (arrOf u) i) with
    | true=>rw [if_pos rfl];exact wpS_pure (h i q u mu hi1 (by omega) hd hq)
    | false=>
      rw [if_neg Bool.false_ne_true]
      have alike:KK κ (arrOf u) i=KK κ (arrOf u) (i - 1):=κ.total _ _ c d
      refine wpS_pure ⟨mu,E9 hd (by omega) d,q+1,⟨by have:=hq.1;omega,fun x h2 h3=>?_⟩,rfl⟩
      rw [Nat.add_sub_cancel]
      rcases Nat.lt_or_ge x i with g | g
      ·rw [alike];exact hq.2 x (by omega) g
      ·obtain rfl:x=i:=by omega
       rfl
 ·obtain ⟨mu,hd,q,hq,rfl⟩:=hI
  have em:max a e=e:=by omega
  rw [em] at hd hq ⊢
  exact h e q u mu NW (Nat.le_refl e) hd hq
theorem wQ (hA:Ask P w A s κ kd) (hk:KeysOf κ z) (m:Mid kd z t) {n e:Nat} (he:e≤z.size) (hne:n+1≤e) (dn:NonIncK κ (arrOf t) (n+1)) {R:Option Nat→SortSt→Prop}
 (h:∀ i u,Mid kd z u→1≤i→i≤e→SortedToK κ (arrOf u) i→R (some i) u):wpS (model P w) A E s (descPart n e) R t:=by
 unfold descPart
 apply wpS_bind
 refine wpS_lift (wpAny_rule ⟨rfl,?_⟩)
 apply wpS_bind
 refine CH hA hk m he (by omega) hne dn fun i q u mu h2 h3 hd hq=>?_
 have hz:i≤(arrOf u).size:=by have:=mu.sz;omega
 show wpS (model P w) A E s (if q > 0 then _ else _) R u
 by_cases d:q > 0
 ·rw [if_pos d]
  apply wpS_bind
  apply wpS_reverse
  have same:=KK_mirror_equal (κ:=κ) hz hq.2
  refine wO hA hk (mu.put (mirror_perm _ _ _ _)) he (by omega) h3 (fun x y hxy hy=>?_) h
  show κ.kle (KK κ (mirror (arrOf u) (i - (q+1)) i _) y) (KK κ (mirror (arrOf u) (i - (q+1)) i _) x)
  rw [same,same]
  exact hd x y hxy hy
 ·rw [if_neg d]
  exact wO hA hk mu he (by omega) h3 hd h
theorem A5 (hA:Ask P w A s κ kd) (hk:KeysOf κ z) (m:Mid kd z t) {e:Nat} (he:e≤z.size) (h1:1≤e) {R:Option Nat→SortSt→Prop}
 (h:∀ i u,Mid kd z u→1≤i→i≤e→SortedToK κ (arrOf u) i→R (some i) u):wpS (model P w) A E s (countRun' 0 e) R t:=by
 rw [countRun0_eq]
 apply wpS_bind
 refine Af hA hk m he (Nat.le_refl 1) h1 (one_up _) fun n h2 h3 up stop=>?_
 show wpS (model P w) A E s (if (n == e)=true then _ else _) R t
 by_cases c:n=e
 ·rw [if_pos (beq_iff_eq.mpr c)]
  exact wpS_pure (h n t m h2 h3 up)
 ·rw [if_neg fun q=>c (beq_iff_eq.mp q)]
  have less:=stop (by omega)
  by_cases d:n > 1
  ·rw [if_pos d]
   apply wpS_bind
   apply qz hA m hk (by omega) (by show n - 1 < z.size;omega)
   show wpS (model P w) A E s (if κ.blt (KK κ (arrOf t) 0) (KK κ (arrOf t) (n - 1))=true then _ else _) R t
   cases g:κ.blt (KK κ (arrOf t) 0) (KK κ (arrOf t) (n - 1)) with
   | true=>rw [if_pos rfl];exact wpS_pure (h n t m h2 h3 up)
   | false=>
     rw [if_neg Bool.false_ne_true]
     have hz:n≤(arrOf t).size:=by have:=m.sz;omega
     have one:∀ i,i < n→KK κ (arrOf t) i=KK κ (arrOf t) (n - 1):=fun i hi=>
      KeyOrd.kle_antisymm (up i (n - 1) (by omega) (by omega)) (KeyOrd.kle_trans (show κ.kle (KK κ (arrOf t) (n - 1)) (KK κ (arrOf t) 0) from g) (up 0 i (Nat.zero_le i) hi))
     have same:=KK_mirror_equal (κ:=κ) hz (fun i (_:0≤i) hi=>one i hi)
     apply wpS_bind
     apply wpS_reverse
     refine wQ hA hk (m.put (mirror_perm _ _ _ _)) he (by omega) (E9 (fun x y hxy hy=>?_) (by omega) ?_) h
     ·show κ.kle (KK κ (mirror (arrOf t) 0 n _) y) (KK κ (mirror (arrOf t) 0 n _) x)
      rw [same,same,one x (by omega),one y hy]
      exact KeyOrd.kle_refl _
     ·show κ.kle (KK κ (mirror (arrOf t) 0 n _) n) (KK κ (mirror (arrOf t) 0 n _) (n - 1))
      rw [same,same]
      exact KeyOrd.kle_of_klt less
  ·rw [if_neg d]
   obtain rfl:n=1:=by omega
   exact wQ hA hk m he (by omega) (E9 (IG _) (Nat.le_refl 1) (KeyOrd.kle_of_klt less)) h
structure Cut (κ:KeyKind) (y:Array Keyed) (k l r:Nat):Prop where
 lr:l≤r
 rk:r≤k
 lo:∀ i,i < l→κ.kle (KK κ y i) (KK κ y k)
 hi:∀ i,r≤i→i < k→κ.klt (KK κ y k) (KK κ y i)
theorem Cut.put {y:Array Keyed} {k l:Nat} (c:Cut κ y k l l) (hk:k < y.size) (up:SortedToK κ y k):SortedToK κ (bubble y k (k - l)) (k+1):=by
 have hl:=c.rk
 have at':∀ i,KK κ (bubble y k (k - l)) i=if i=l then KK κ y k else if l < i∧i≤k then KK κ y (i - 1) else KK κ y i:=fun i=>by
  have:=KK_bubble (κ:=κ) hk (Nat.sub_le k l) i
  have e:k - (k - l)=l:=by omega
  rw [e] at this
  exact this
 intro i j hij hj
 rw [at' i,at' j]
 by_cases i1:i=l
 ·rw [if_pos i1]
  by_cases j1:j=l
  ·rw [if_pos j1];exact KeyOrd.kle_refl _
  ·rw [if_neg j1,if_pos ⟨by omega,by omega⟩]
   exact KeyOrd.kle_of_klt (c.hi _ (by omega) (by omega))
 ·rw [if_neg i1]
  by_cases i2:l < i∧i≤k
  ·rw [if_pos i2,if_neg (by omega),if_pos ⟨by omega,by omega⟩]
   exact up _ _ (by omega) (by omega)
  ·rw [if_neg i2]
   by_cases j1:j=l
   ·rw [if_pos j1];exact c.lo i (by omega)
   ·rw [if_neg j1]
    by_cases j2:l < j∧j≤k
    ·rw [if_pos j2];exact up _ _ (by omega) (by omega)
    ·rw [if_neg j2];exact up _ _ hij (by omega)
theorem Fb (hA:Ask P w A s κ kd) (hk:KeysOf κ z) (m:Mid kd z t) {n o:Nat} (hn:n≤z.size) (ho:o≤n) (up:SortedToK κ (arrOf t) o) {R:Bool→SortSt→Prop}
 (h:∀ u,Mid kd z u→SortedToK κ (arrOf u) n→R true u):wpS (model P w) A E s (binarySort' 0 n o) R t:=by
 rw [binarySort'_eq]
 simp only [Nat.zero_add]
 apply wpS_bind
 refine wpS_mono (wpS_forRange (I:=fun k b u=>b=(none,())∧Mid kd z u∧(k≤n→SortedToK κ (arrOf u) k)∧(n < k→SortedToK κ (arrOf u) n)) (Q:=fun b u=>b=(none,())∧Mid kd z u∧SortedToK κ (arrOf u) n)
  (fun k b u hk1 hk2 hI=>?_) (fun b u hI=>?_) ⟨rfl,m,fun c=>?_,fun c=>?_⟩) fun b u hI=>?_
 ·obtain ⟨rfl,mu,up1,_⟩:=hI
  have NX:=up1 (by omega)
  apply wpS_bind
  refine wpS_mono (wpS_forRange (I:=fun x b v=>v=u∧∃ l r,b=(none,l,r)∧Cut κ (arrOf u) k l r∧r - l≤k - x) (Q:=fun b v=>v=u∧∃ l,b=(none,l,l)∧Cut κ (arrOf u) k l l)
   (fun x b v _ hx hI=>?_) (fun b v hI=>?_) ⟨rfl,0,k,rfl,⟨Nat.zero_le k,Nat.le_refl k,fun i hi=>absurd hi (Nat.not_lt_zero i),fun i h2 h3=>absurd h3 (Nat.not_lt.mpr h2)⟩,Nat.le_refl _⟩) fun b v hI=>?_
  ·obtain ⟨rfl,l,r,rfl,c,hw⟩:=hI
   show wpS (model P w) A E s (if l≥r then _ else _) _ v
   by_cases d:l≥r
   ·rw [if_pos d]
    obtain rfl:l=r:=Nat.le_antisymm c.lr d
    exact wpS_pure ⟨rfl,l,rfl,c⟩
   ·rw [if_neg d]
    have hrk:=c.rk
    apply wpS_bind
    apply qz hA mu hk (by show k < z.size;omega) (by show (l+r) / 2 < z.size;omega)
    show wpS (model P w) A E s (if κ.blt (KK κ (arrOf v) k) (KK κ (arrOf v) ((l+r) / 2))=true then _ else _) _ v
    cases g:κ.blt (KK κ (arrOf v) k) (KK κ (arrOf v) ((l+r) / 2)) with
    | true=>
      rw [if_pos rfl]
      exact wpS_pure ⟨rfl,l,(l+r) / 2,rfl,⟨by omega,by omega,c.lo,fun i h2 h3=>KeyOrd.klt_of_klt_of_kle g (NX _ i h2 h3)⟩,by omega⟩
    | false=>
      rw [if_neg Bool.false_ne_true]
      exact wpS_pure ⟨rfl,(l+r) / 2+1,r,rfl,⟨by omega,by omega,fun i h2=>KeyOrd.kle_trans (NX i _ (by omega) (by omega)) g,c.hi⟩,by omega⟩
  ·obtain ⟨rfl,l,r,rfl,c,hw⟩:=hI
   have e:max 0 k=k:=by omega
   rw [e] at hw
   obtain rfl:l=r:=by have:=c.lr;omega
   exact ⟨rfl,l,rfl,c⟩
  ·obtain ⟨rfl,l,rfl,c⟩:=hI
   show wpS (model P w) A E s (moveDown' k l >>= fun _=>pure (ForInStep.yield (none,()))) _ v
   rw [moveDown'_eq]
   apply wpS_bind
   apply wpS_modify
   have hz:k < (arrOf v).size:=by have:=mu.sz;omega
   exact wpS_pure ⟨rfl,mu.put (bubble_perm _ _ _),fun _=>c.put hz NX,fun q=>by omega⟩
 ·obtain ⟨rfl,mu,up1,Q3⟩:=hI
  refine ⟨rfl,mu,?_⟩
  rcases Nat.lt_or_ge n (max (max o 1) n) with c | c
  ·exact Q3 c
  ·have e:max (max o 1) n=n:=by omega
   rw [e] at up1
   exact up1 (Nat.le_refl n)
 ·rcases Nat.eq_zero_or_pos o with q | q
  ·have e:max o 1=1:=by omega
   rw [e];exact one_up _
  ·have e:max o 1=o:=by omega
   rw [e];exact up
 ·have e:n=0:=by omega
  subst e
  exact fun i j _ hj=>absurd hj (Nat.not_lt_zero j)
 ·obtain ⟨rfl,mu,up'⟩:=hI
  exact wpS_pure (h u mu up')
structure A6 (κ:KeyKind) (z:Array Keyed) (t:SortSt):Prop where
 pm:(arrOf t).Perm z
 ok:failedOf t=none
 one:pendingOf t= #[(0,z.size,0)]
 up:SortedToK κ (arrOf t) z.size
theorem Mid.fin (m:Mid kd z t) (up:SortedToK κ (arrOf t) z.size):A6 κ z (setPending t ((pendingOf t).push (0,z.size,0))):=
 ⟨m.pm,m.ok,by show (pendingOf t).push (0,z.size,0)= #[(0,z.size,0)];rw [m.no];rfl,up⟩
theorem Fc (hA:Ask P w A s κ kd) (hk:KeysOf κ z) (m:Mid kd z t) (h2:2≤z.size) (h64:z.size < 64) {R:Unit→SortSt→Prop} (h:∀ u,A6 κ z u→R () u):wpS (model P w) A E s sortRuns' R t:=by
 have low:minRun' z.size z.size 0=z.size:=by
  obtain ⟨k,hk⟩:∃ k,z.size=k+1:=⟨z.size - 1,by omega⟩
  have:minRun' (k+1) z.size 0=z.size+0:=by rw [minRun'_succ,if_pos h64]
  rw [← hk] at this
  exact this
 rw [sortRuns'_eq]
 apply wpS_bind;apply wpS_get
 dsimp only
 simp only [m.sz,low]
 apply wpS_bind
 refine wpS_mono (wpS_forRange (I:=fun x b u=>if x=0 then b=(none,0)∧Mid kd z u else b=(none,z.size)∧A6 κ z u) (Q:=fun b u=>b=(none,z.size)∧A6 κ z u) (fun x b u _ hx hI=>?_) (fun b u hI=>?_) ?_) fun b u hI=>?_
 ·by_cases c:x=0
  ·subst c
   obtain ⟨rfl,mu⟩:b=(none,0)∧Mid kd z u:=by simpa using hI
   dsimp only
   rw [if_neg (by omega:¬ (0≥z.size))]
   simp only [Nat.sub_zero,Nat.min_self,Nat.zero_add]
   apply wpS_bind
   refine A5 hA hk mu (Nat.le_refl _) (by omega) fun i v mv h3 h4 up=>?_
   dsimp only
   by_cases d:i < z.size
   ·rw [if_pos d]
    apply wpS_bind
    refine wpS_lift (wpAny_rule ⟨rfl,?_⟩)
    apply wpS_bind
    refine Fb hA hk mv (Nat.le_refl _) h4 up fun v' Pz up'=>?_
    simp only [Bool.not_true,Bool.false_eq_true,if_false]
    apply wpS_bind;apply wpS_get
    have e:(pendingOf v').back?=none:=by rw [Pz.no];rfl
    rw [e]
    dsimp only
    apply wpS_bind
    apply wpS_modify
    exact wpS_pure ⟨rfl,Pz.fin up'⟩
   ·rw [if_neg d]
    obtain rfl:i=z.size:=by omega
    apply wpS_bind;apply wpS_get
    have e:(pendingOf v).back?=none:=by rw [mv.no];rfl
    rw [e]
    dsimp only
    apply wpS_bind
    apply wpS_modify
    exact wpS_pure ⟨rfl,mv.fin up⟩
  ·obtain ⟨rfl,fu⟩:b=(none,z.size)∧A6 κ z u:=by simpa [c] using hI
   dsimp only
   rw [if_pos (Nat.le_refl z.size)]
   exact wpS_pure ⟨rfl,fu⟩
 ·have c:max 0 z.size≠0:=by omega
  rw [if_neg c] at hI
  exact hI
 ·exact ⟨rfl,m⟩
 ·obtain ⟨rfl,fu⟩:=hI
  dsimp only
  apply wpS_bind
  refine wpS_mono (wpS_forRange (I:=fun _ b v=>b=(none,())∧v=u) (Q:=fun b v=>b=(none,())∧v=u) (fun x b v _ _ hI=>?_) (fun _ _ hI=>hI) ⟨rfl,rfl⟩) fun b v hI=>?_
  ·obtain ⟨rfl,rfl⟩:=hI
   apply wpS_bind;apply wpS_get
   rw [if_pos (by rw [fu.one];exact Nat.le_refl 1)]
   exact wpS_pure ⟨rfl,rfl⟩
  ·obtain ⟨rfl,rfl⟩:=hI
   exact wpS_pure (h v fu)
end
end L3
namespace L3
open PySem PySem.Spec PyProof.Rows
section
variable {P:Program} {w:World} {A:Around} {E:Value→Shared→Prop} {s:Shared} {κ:KeyKind} {kd:SortKind}
def eU (h h':Heap):Prop:= ∀ b o,h.get? b=some o→h'.get? b=some o
theorem Ag {a:Addr} {vs:List Value} {n:Nat} {R:Fin→Shared→Prop} (ho:s.heap.get? a=some (seqObj "list" vs.toArray n)) (hk:KeysOf κ (pairsOf vs))
 (hd:∀ (t:Shared) (E:Value→Shared→Prop) (Q:SortKind→Shared→Prop),(∀ b o,b≠a→s.heap.get? b=some o→t.heap.get? b=some o)→2≤vs.length→Q kd t→wpAny (model P w) A (keyKind' vs.toArray) Q E t)
 (hA:∀ t:Shared,(∀ b o,b≠a→s.heap.get? b=some o→t.heap.get? b=some o)→Ask P w A t κ kd) (h64:vs.length < 64)
 (h:∀ y:Array Keyed,y.Perm (pairsOf vs)→SortedToK κ y (pairsOf vs).size→R (.done (.ret .none)) { s with heap:=sortedHeap s.heap a vs (y.map (·.2)) }) :
 wpAny (model P w) A (Builtin.«list.sort» ⟨[.ref a],[]⟩) R E s:=by
 have la:a < s.heap.objs.size:=Heap.lt_size ho
 have lz:vs.length≤sizeLine:=by rw [sizeLine_eq];omega
 rw [list_sort_plain]
 apply wpAny_bind;apply listItems_at ho rfl
 refine wpAny_bind (listUpdate_at ho rfl ?_ (hsz:=by simp only [List.size_toArray];omega) (hsz2:=Nat.zero_le _))
 obtain ⟨e,h1⟩:∃ e,(s.heap.update a (Obj.mapSeq fun _=> #[])).get? a=some (seqObj "list" #[] e):=⟨_,get?_update_seq ho fun _=> #[]⟩
 apply wpAny_bind;apply seqEpoch_at h1 rfl
 refine wpAny_bind (wpAny_newTuple (hsz:=lz) ?_)
 refine wpAny_bind (wpAny_newList (hsz:=Nat.zero_le _) ?_)
 apply wpAny_holding
 show wpAny (model P w) A _ R E { s with heap:=((s.heap.update a (Obj.mapSeq fun _=> #[])).push (seqObj "tuple" vs.toArray 0)).push (seqObj "list" #[] 0) }
 generalize hh:((s.heap.update a (Obj.mapSeq fun _=> #[])).push (seqObj "tuple" vs.toArray 0)).push (seqObj "list" #[] 0)=g
 have g1:g.get? a=some (seqObj "list" #[] e):=by
  rw [← hh,Heap.get?_push_ne _ _ _ (by rw [size_push',Heap.size_update];exact Nat.ne_of_lt (Nat.lt_succ_of_lt la)),Heap.get?_push_ne _ _ _ (by rw [Heap.size_update];exact Nat.ne_of_lt la)]
  exact h1
 have g2:∀ b o,b≠a→s.heap.get? b=some o→g.get? b=some o:=fun b o hb q=>by
  have lb:=Heap.lt_size q
  rw [← hh,Heap.get?_push_ne _ _ _ (by rw [size_push',Heap.size_update];exact Nat.ne_of_lt (Nat.lt_succ_of_lt lb)),Heap.get?_push_ne _ _ _ (by rw [Heap.size_update];exact Nat.ne_of_lt lb),Heap.get?_update_ne _ _ _ _ hb]
  exact q
 have fin:∀ y:Array Keyed,y.Perm (pairsOf vs)→SortedToK κ y (pairsOf vs).size→R (.done (.ret .none)) { s with heap:=g.update a (Obj.mapSeq fun _=>y.map (·.2)) }:=fun y h2 h3=>by rw [← hh];exact h y h2 h3
 dsimp only
 have zv:vs.toArray.size=vs.length:=by simp
 have room:∀ y:Array Keyed,y.Perm (pairsOf vs)→(y.map (·.2)).size≤sizeLine+1:=fun y q=>by
  rw [Array.size_map,q.size_eq,pairsOf_size,sizeLine_eq];omega
 by_cases c:vs.toArray.size < 2
 ·rw [if_pos c,if_pos c]
  apply wpAny_bind;apply wpAny_pure
  rw [StateT.run_pure]
  apply wpAny_bind;apply wpAny_pure
  dsimp only
  apply wpAny_bind;apply seqEpoch_at g1 rfl
  apply wpAny_bind
  refine listUpdate_at g1 rfl ?_ (hsz2:=room (pairsOf vs) (Array.Perm.refl _))
  simp only [bne_self_eq_false,Bool.false_eq_true,if_false]
  refine wpAny_pure (fin (pairsOf vs) (Array.Perm.refl _) fun i j hij hj=>?_)
  obtain rfl:i=j:=by rw [pairsOf_size] at hj;omega
  exact KeyOrd.kle_refl _
 ·rw [if_neg c,if_neg c]
  apply wpAny_bind
  refine hd _ _ _ g2 (by omega) ?_
  apply wpAny_bind
  refine wpAny_mono (Fc (z:=pairsOf vs) (t:=SortSt.mk' kd (pairsOf vs) #[] 7 none) (R:=fun _ u=>A6 κ (pairsOf vs) u) (hA _ g2) hk ⟨Array.Perm.refl _,rfl,rfl,rfl⟩ (by rw [pairsOf_size];omega) (by rw [pairsOf_size];exact h64) fun u q=>q) (fun r s' q=>?_) fun _ _ q=>q
  obtain ⟨⟨⟩,u⟩:=r
  obtain ⟨rfl,fu⟩:=q
  dsimp only
  apply wpAny_bind;apply seqEpoch_at g1 rfl
  apply wpAny_bind
  refine listUpdate_at g1 rfl ?_ (hsz2:=room (arrOf u) fu.pm)
  rw [fu.ok]
  simp only [bne_self_eq_false,Bool.false_eq_true,if_false]
  exact wpAny_pure (fin (arrOf u) fu.pm fu.up)
theorem tY {l:Addr} {vs:List Value} {Q:Value→Shared→Prop} (hl:s.heap.IsList l vs.toArray) (hk:KeysOf κ (pairsOf vs))
 (hd:∀ (t:Shared) (E:Value→Shared→Prop) (Q:SortKind→Shared→Prop),eU s.heap t.heap→2≤vs.length→Q kd t→wpAny (model P w) A.in1.in1 (keyKind' vs.toArray) Q E t)
 (hA:∀ t:Shared,eU s.heap t.heap→Ask P w A.in1.in1 t κ kd) (h64:vs.length < 64)
 (h:∀ y:Array Keyed,y.Perm (pairsOf vs)→SortedToK κ y (pairsOf vs).size→Q (.ref (s.heap.objs.size+1)) { s with heap:=sortedAll s.heap vs (y.map (·.2)) }) :
 wpAny (model P w) A (call (.builtin "sorted") [.ref l]) Q E s:=by
 refine Calls.call_function_entry kind_sorted plain_sorted entry_sorted (args_sorted1 _) ?_
 unfold Builtin.«sorted»
 refine wpAny_bind (m:=checkCount "sorted" 1 1 _) (wpAny_pure ?_)
 have lz:vs.length≤sizeLine:=by rw [sizeLine_eq];omega
 refine wpAny_bind (collect_list hl (hsz:=lz) ?_)
 refine wpAny_bind (wpAny_newList (hsz:=lz) ?_)
 show wpAny (model P w) A.in1 _ _ _ { s with heap:=((s.heap.push (seqObj "list" #[] 0)).update s.heap.objs.size (Obj.mapSeq (· ++ vs.toArray))).push (seqObj "list" vs.toArray 0) }
 generalize hg:(s.heap.push (seqObj "list" #[] 0)).update s.heap.objs.size (Obj.mapSeq (· ++ vs.toArray))=g
 have gz:g.objs.size=s.heap.objs.size+1:=by rw [← hg,Heap.size_update,size_push']
 have gk:eU s.heap g:=fun b o q=>by
  have lb:=Heap.lt_size q
  rw [← hg,Heap.get?_update_ne _ _ _ _ (Nat.ne_of_lt lb),Heap.get?_push_ne _ _ _ (Nat.ne_of_lt lb)]
  exact q
 have fin:∀ y:Array Keyed,y.Perm (pairsOf vs)→SortedToK κ y (pairsOf vs).size→Q (.ref (s.heap.objs.size+1)) { s with heap:=sortedHeap (g.push (seqObj "list" vs.toArray 0)) (s.heap.objs.size+1) vs (y.map (·.2)) }:=fun y h1 h2=>by rw [← hg];exact h y h1 h2
 rw [gz]
 have at':(g.push (seqObj "list" vs.toArray 0)).get? (s.heap.objs.size+1)=some (seqObj "list" vs.toArray 0):=by rw [← gz];exact Heap.get?_push_size _ rfl
 have Ez:∀ b o,s.heap.get? b=some o→b≠s.heap.objs.size+1∧(g.push (seqObj "list" vs.toArray 0)).get? b=some o:=fun b o q=>by
  have lb:=Heap.lt_size q
  have lc:=Nat.ne_of_lt (Nat.lt_succ_of_lt lb)
  refine ⟨lc,?_⟩
  rw [Heap.get?_push_ne _ _ _ (by rw [gz];exact lc)]
  exact gk b o q
 apply wpAny_bind;apply wpAny_holding
 refine wpAny_call_entry slot_list_sort ⟨_,at',rfl⟩ entry_list_sort (Ag (κ:=κ) (kd:=kd) at' hk (fun t E Q hg=>hd t E Q fun b o q=>hg b o (Ez b o q).1 (Ez b o q).2) (fun t hg=>hA t fun b o q=>hg b o (Ez b o q).1 (Ez b o q).2) h64 fun y h1 h2=>⟨_,rfl,?_⟩) (args_list_sort _)
 exact wpAny_pure ⟨_,rfl,fin y h1 h2⟩
end
end L3
namespace L3
open PySem PySem.Spec PyProof.Rows
def lD (h:Heap) (v:Value) (p:Pl):Prop:= ∃ (a:Addr) (o:Obj) (t u:Tok) (n:Nat),v= .ref a∧h.get? a=some o∧o.cls= .type "tuple"∧o.data= .seq #[.int p.x t,.int p.y u] n
theorem lD.grow {h h':Heap} {v:Value} {p:Pl} (a:lD h v p) (g:eU h h'):lD h' v p:=by
 obtain ⟨b,o,t,u,n,h1,h2,h3,h4⟩:=a
 exact ⟨b,o,t,u,n,h1,g _ _ h2,h3,h4⟩
theorem lD.inj {h:Heap} {v:Value} {p q:Pl} (a:lD h v p) (b:lD h v q):p=q:=by
 obtain ⟨a1,o,t,u,n,rfl,h2,h3,h4⟩:=a
 obtain ⟨a2,o',t',u',n',e,k2,k3,k4⟩:=b
 injection e with e
 subst e
 rw [h2] at k2
 injection k2 with k2
 subst k2
 rw [h4] at k4
 injection k4 with k4 _
 cases p;cases q
 simp at k4
 obtain ⟨⟨e1,_⟩,e2,_⟩:=k4
 rw [e1,e2]
open Classical in
noncomputable def B3 (h:Heap):KeyKind where
 α:=Pl
 blt p q:=decide (aZ p q)
 irrefl p:=decide_eq_false (bY p)
 trans p q r a b:=decide_eq_true (c6 (of_decide_eq_true a) (of_decide_eq_true b))
 negTrans p q r a:=by
  have a:=of_decide_eq_true a
  rcases gZ p q with c | c | c
  ·exact .inl (decide_eq_true c)
  ·subst c;exact .inr (decide_eq_true a)
  ·exact .inr (decide_eq_true (c6 c a))
 total p q a b:=by
  rcases gZ p q with c | c | c
  ·exact absurd c (of_decide_eq_false a)
  ·exact c
  ·exact absurd c (of_decide_eq_false b)
 keyOf v:=if e:∃ p,lD h v p then some e.choose else none
 dflt:=⟨0,0⟩
open Classical in
theorem Ah {h:Heap} {v:Value} {p:Pl} (a:lD h v p):(B3 h).keyOf v=some p:=by
 have e:∃ p,lD h v p:=⟨p,a⟩
 show (if e:∃ p,lD h v p then some e.choose else none)=some p
 rw [dif_pos e,lD.inj e.choose_spec a]
open Classical in
theorem CI {h:Heap} {v:Value} {p:Pl} (a:(B3 h).keyOf v=some p):lD h v p:=by
 have a:(if e:∃ p,lD h v p then some e.choose else none)=some p:=a
 by_cases e:∃ p,lD h v p
 ·rw [dif_pos e] at a
  have:=e.choose_spec
  rwa [Option.some.inj a] at this
 ·rw [dif_neg e] at a;cases a
section
variable {P:Program} {w:World} {A:Around} {E:Value→Shared→Prop} {s:Shared}
theorem tZ (f:Bool) (v u:Value):keyLt' (tuples' f) v u=(do
 let a ← Builtin.List.listItems v;let b ← Builtin.List.listItems u
 for ((c,d),k) in (a.toList.zip b.toList).zipIdx do { if !(← eqBool c d) then return ← oneLt' (f && k == 0) c d }
 return a.size < b.size):=rfl
theorem qA {b:Bool} {i j:Int} {t u:Tok} {Q:Bool→Shared→Prop} (h:Q (decide (i < j)) s):wpAny (model P w) A (oneLt' b (.int i t) (.int j u)) Q E s:=by
 cases b with
 | true=>exact oneLt_int h
 | false=>
   rw [oneLt'_eq]
   simp only [Bool.false_eq_true,if_false]
   apply wpAny_bind
   refine (lt_int ?_:wpAny (model P w) A (compareOp .Lt (.int i t) (.int j u)) _ E s)
   exact wpAny_truthy_bool h
theorem Lb {t:Shared} {x y:Value} {p q:Pl} {f:Bool} {R:Bool→Shared→Prop} (kx:lD t.heap x p) (ky:lD t.heap y q) (hR:R (decide (aZ p q)) t):wpAny (model P w) A (keyLt' (tuples' f) x y) R E t:=by
 obtain ⟨a,o,t1,u1,n1,rfl,h2,h3,h4⟩:=kx
 obtain ⟨b,o',t2,u2,n2,rfl,k2,k3,k4⟩:=ky
 rw [tZ]
 apply wpAny_bind;apply listItems_at h2 h4
 apply wpAny_bind;apply listItems_at k2 k4
 simp only [List.zip_cons_cons,List.zip_nil_right,List.zipIdx_cons,List.zipIdx_nil,List.forIn_cons,List.forIn_nil,bind_assoc]
 apply wpAny_bind
 apply wpAny_eqBool_int
 by_cases ex:p.x=q.x
 ·have e:(p.x == q.x)=true:=beq_iff_eq.mpr ex
  rw [e]
  simp only [Bool.not_true,Bool.false_eq_true,if_false,pure_bind,bind_assoc]
  apply wpAny_bind
  apply wpAny_eqBool_int
  by_cases ey:p.y=q.y
  ·have e:(p.y == q.y)=true:=beq_iff_eq.mpr ey
   rw [e]
   simp only [Bool.not_true,Bool.false_eq_true,if_false,pure_bind]
   have en:decide (aZ p q)=false:=decide_eq_false (by unfold aZ;omega)
   rw [en] at hR
   exact wpAny_pure hR
  ·have e:(p.y == q.y)=false:=beq_eq_false_iff_ne.mpr ey
   rw [e]
   simp only [Bool.not_false,if_true,bind_assoc,pure_bind]
   apply wpAny_bind
   apply qA
   have en:decide (aZ p q)=decide (p.y < q.y):=by rw [decide_eq_decide];unfold aZ;omega
   rw [en] at hR
   exact wpAny_pure hR
 ·have e:(p.x == q.x)=false:=beq_eq_false_iff_ne.mpr ex
  rw [e]
  simp only [Bool.not_false,if_true,bind_assoc,pure_bind]
  apply wpAny_bind
  apply qA
  have en:decide (aZ p q)=decide (p.x < q.x):=by rw [decide_eq_decide];unfold aZ;omega
  rw [en] at hR
  exact wpAny_pure hR
theorem II {h:Heap} {t:Shared} (g:eU h t.heap) (f:Bool):Ask P w A t (B3 h) (tuples' f):=
 ⟨fun E x y p q R kx ky hR=>Lb ((CI kx).grow g) ((CI ky).grow g) hR⟩
theorem mW {β:Type} {f:Value→Sem β} (R:Value→β→Prop):∀ (vs:List Value) (Q:List β→Shared→Prop),(∀ v∈vs,∀ (Q:β→Shared→Prop),(∀ b,R v b→Q b s)→wpAny (model P w) A (f v) Q E s)→
 (∀ bs:List β,Paired R vs bs→Q bs s)→wpAny (model P w) A (vs.mapM f) Q E s
 | [],Q,_,h=>by rw [List.mapM_nil];exact wpAny_pure (h [] .nil)
 | v :: vs,Q,hv,h=>by
   rw [List.mapM_cons]
   apply wpAny_bind
   refine hv v (List.mem_cons_self ..) _ fun b rb=>?_
   apply wpAny_bind
   refine mW R vs _ (fun u hu=>hv u (List.mem_cons_of_mem _ hu)) fun bs Q4=>?_
   exact wpAny_pure (h (b :: bs) (.cons rb Q4))
theorem t6 (v:Value):firstOfTuple' v=(typeOf v >>= fun t=>if t != .type "tuple" then pure none else Builtin.List.listItems v >>= fun a=>pure a[0]?):=rfl
theorem Fd {vs:List Value} (h2:1≤vs.length) (hv:∀ v∈vs,∃ p,lD s.heap v p) {Q:SortKind→Shared→Prop} (h:Q (tuples' true) s):wpAny (model P w) A (keyKind' vs.toArray) Q E s:=by
 rw [keyKind'_eq,List.mapM_toArray]
 simp only [bind_map_left]
 apply wpAny_bind
 refine mW (fun _ b=> ∃ i t,b=some (Value.int i t)) vs _ (fun v hm Q hQ=>?_) fun bs hb=>?_
 ·obtain ⟨p,a,o,t,u,n,rfl,k2,k3,k4⟩:=hv v hm
  rw [t6]
  apply wpAny_bind
  refine wpAny_typeOf (T:= "tuple") ⟨o,k2,k3⟩ ?_
  have e:(Value.type "tuple" !=Value.type "tuple")=false:=by decide
  rw [e]
  simp only [Bool.false_eq_true,if_false,pure_bind]
  apply wpAny_bind;apply listItems_at k2 k4
  exact wpAny_pure (hQ _ ⟨p.x,t,rfl⟩)
 ·have all:∀ (vs:List Value) (bs:List (Option Value)),Paired (fun _ b=> ∃ i t,b=some (Value.int i t)) vs bs→bs.length=vs.length∧(∀ b∈bs,∃ i t,b=some (Value.int i t)):=by
   intro vs
   induction vs with
   | nil=>intro bs q;cases q;exact ⟨rfl,fun _ z=>by cases z⟩
   | cons v vs ih=>
     intro bs q
     cases q with
     | cons q1 q2=>
       obtain ⟨l,m⟩:=ih _ q2
       refine ⟨by simp [l],fun b hb=>?_⟩
       rcases List.mem_cons.mp hb with rfl | hb
       ·exact q1
       ·exact m b hb
  obtain ⟨hl,hm⟩:=all vs bs hb
  have c:(bs.toArray.all fun b=>b.isSome)=true:=by
   simp only [List.all_toArray,List.all_eq_true]
   intro b hb
   obtain ⟨i,t,rfl⟩:=hm b hb
   rfl
  rw [if_pos c]
  apply wpAny_bind;apply wpAny_rule
  rw [oneTypeOnly'_eq]
  have ef:bs.toArray.filterMap id=(bs.filterMap id).toArray:=by simp
  rw [ef,List.mapM_toArray]
  simp only [bind_map_left,bind_assoc]
  apply wpAny_bind
  refine mW (fun _ b=>b=Value.type "int") _ _ (fun v hv' Q hQ=>?_) fun cs hc=>?_
  ·obtain ⟨b,hb1,hb2⟩:=List.mem_filterMap.mp hv'
   obtain ⟨i,t,rfl⟩:=hm b hb1
   have hb2:some (Value.int i t)=some v:=hb2
   cases hb2
   exact wpAny_typeOf (T:= "int") (typeIs_int s i t) (hQ _ rfl)
  ·have len:1≤(bs.filterMap id).length:=by
    cases bs with
    | nil=>simp at hl;omega
    | cons b bs=>
      obtain ⟨i,t,rfl⟩:=hm b (List.mem_cons_self ..)
      simp
   have all2:∀ (us cs:List Value),Paired (fun _ b=>b=Value.type "int") us cs→cs=us.map fun _=>Value.type "int" :=by
    intro us
    induction us with
    | nil=>intro cs q;cases q;rfl
    | cons u us ih=>intro cs q;cases q with | cons q1 q2=>rw [q1,ih _ q2];rfl
   rw [all2 _ _ hc]
   generalize bs.filterMap id=us at len
   cases us with
   | nil=>simp at len
   | cons u us=>
     have e0:(List.map (fun _=>Value.type "int") (u :: us)).toArray[0]?=some (Value.type "int"):=by simp
     rw [e0]
     have e1:((List.map (fun _=>Value.type "int") (u :: us)).toArray.all fun x=>x == Value.type "int")=true:=by
      simp only [List.all_toArray,List.all_map,List.all_eq_true]
      intro _ _;rfl
     simp only [e1,if_true,pure_bind]
     exact wpAny_pure h
end
end L3
namespace L3
open PySem PySem.Spec PyProof.Rows
section
variable {P:Program} {w:World} {A:Around} {E:Value→Shared→Prop} {s:Shared}
theorem IJ {h0:Heap} {I S:Addr} {fp wr:List Addr} {n:Nat} {Pr:Nat→Value→Prop} {St:Nat→Heap→Prop} {bt:Nat→Nat→Bool} {R:Result→Shared→Prop} (W:Walks P w A.in1 I fp wr n Pr St)
 (hc:∀ (i j:Nat) (vi vj:Value) (t:Shared) (Q:Value→Shared→Prop) (E:Value→Shared→Prop),eU h0 t.heap→Pr i vi→Pr j vj→Q (.bool (bt i j)) t→wpAny (model P w) A.in1 (richCompare .Lt vi vj) Q E t)
 (hS:S∉fp) (A7:∀ b o,h0.get? b=some o→b∉wr∧b≠S):∀ (m k:Nat) (t:Shared) (vb:Value) (c:Nat),n - (k+1)=m→k+1≤n→eU h0 t.heap→St (k+1) t.heap→Pr (argBest bt k) vb→
 t.heap.get? S=some { cls:= .type "list",dict:=none,data:= .seq #[vb,vb] c,slots:= #[] }→
 (∀ v h' tk,Pr (argBest bt (n - 1)) v→(∀ b o,b∉wr→b≠S→t.heap.get? b=some o→h'.get? b=some o)→R (.ok (.ret v)) { t with heap:=h',toks:=tk })→
 codeAny (model P w) A (.builtin "min.loop" ⟨[.ref I,.none,.ref S],[]⟩) R t:=by
 have Sw:S∉wr:=fun q=>hS (W.sub _ q)
 have nm:(toString "min" ++ toString ".loop" :String)= "min.loop" :=by decide
 intro m
 induction m with
 | zero=>
   intro k t vb c e1 e2 gr st pb hs hR
   have ek:k+1=n:=by omega
   refine codeAny_builtin F.entry_min_loop ?_
   rw [Around.under_plainId F.plain_min_loop]
   show wpAny (model P w) A.in1 (seqItems? (.ref S) >>= _) _ _ t
   apply wpAny_bind;apply wpAny_seqItems hs rfl
   show wpAny (model P w) A.in1 (tryCatch (pyNext (.ref I)) _ >>= _) _ _ t
   apply wpAny_bind;apply wpAny_tryCatch
   refine W.done t _ _ (ek▸st) fun h' tk kp=>?_
   have hs2:=kp S _ Sw hs
   show wpAny (model P w) A.in1 (updateSeq S (fun _=> #[]) >>= _) _ _ _
   apply wpAny_bind
   refine wpAny_updateSeq hs2 rfl ?_
   apply wpAny_bind;apply wpAny_letGo;apply wpAny_pure
   exact hR vb _ tk (by rw [← ek];exact pb) fun b o q1 q2 q=>(Heap.get?_update_other _ _ (Ne.symm q2)).trans (kp b o q1 q)
 | succ m ih=>
   intro k t vb c e1 e2 gr st pb hs hR
   refine codeAny_builtin F.entry_min_loop ?_
   rw [Around.under_plainId F.plain_min_loop]
   show wpAny (model P w) A.in1 (seqItems? (.ref S) >>= _) _ _ t
   apply wpAny_bind;apply wpAny_seqItems hs rfl
   show wpAny (model P w) A.in1 (tryCatch (pyNext (.ref I)) _ >>= _) _ _ t
   apply wpAny_bind;apply wpAny_tryCatch
   refine W.item (k+1) t _ _ (by omega) st fun v h' tk pv st2 kp=>?_
   have hs2:=kp S _ Sw hs
   have CJ:eU h0 h':=fun b o q=>kp b o (A7 b o q).1 (gr b o q)
   show wpAny (model P w) A.in1 (tryCatch (holding [v,v] (richCompare .Lt v vb >>= _)) _ >>= _) _ _ _
   apply wpAny_bind;apply wpAny_tryCatch;apply wpAny_holding;apply wpAny_bind
   refine hc (k+1) (argBest bt k) v vb _ _ _ CJ pv pb ?_
   apply wpAny_bind;apply wpAny_holding;apply wpAny_truthy_bool
   apply wpAny_bind;apply wpAny_letGo;apply wpAny_pure
   cases d:bt (k+1) (argBest bt k) with
   | true=>
     rw [if_pos rfl]
     apply wpAny_bind
     refine wpAny_updateSeq hs2 rfl ?_
     apply wpAny_bind;apply wpAny_letGo
     rw [nm]
     refine wpAny_pure ⟨plainId_quiet F.plain_min_loop _,ih (k+1) _ v _ (by omega) (by omega) (fun b o q=>(Heap.get?_update_other _ _ (Ne.symm (A7 b o q).2)).trans (CJ b o q)) (W.frame _ _ _ st2 fun b q1 o q=>(Heap.get?_update_other _ _ (fun z:S=b=>hS (z▸q1))).trans q) (by simp only [argBest,d,if_true];exact pv) (Heap.get?_update_self _ hs2 rfl) fun v2 h2 yr p2 A8=>?_⟩
     exact hR v2 h2 yr p2 fun b o q1 q2 q=>A8 b o q1 q2 ((Heap.get?_update_other _ _ (Ne.symm q2)).trans (kp b o q1 q))
   | false=>
     rw [if_neg Bool.false_ne_true]
     apply wpAny_bind;apply wpAny_letGo
     rw [nm]
     refine wpAny_pure ⟨plainId_quiet F.plain_min_loop _,ih (k+1) _ vb c (by omega) (by omega) CJ st2 (by simp only [argBest,d,Bool.false_eq_true,if_false];exact pb) hs2 fun v2 h2 yr p2 A8=>?_⟩
     exact hR v2 h2 yr p2 fun b o q1 q2 q=>A8 b o q1 q2 (kp b o q1 q)
theorem A9 {h0:Heap} {I S:Addr} {fp wr:List Addr} {n:Nat} {Pr:Nat→Value→Prop} {St:Nat→Heap→Prop} {bt:Nat→Nat→Bool} {R:Result→Shared→Prop} {t:Shared} {c:Nat} (W:Walks P w A.in1 I fp wr n Pr St)
 (hc:∀ (i j:Nat) (vi vj:Value) (t:Shared) (Q:Value→Shared→Prop) (E:Value→Shared→Prop),eU h0 t.heap→Pr i vi→Pr j vj→Q (.bool (bt i j)) t→wpAny (model P w) A.in1 (richCompare .Lt vi vj) Q E t)
 (hS:S∉fp) (A7:∀ b o,h0.get? b=some o→b∉wr∧b≠S) (hn:0 < n) (gr:eU h0 t.heap) (st:St 0 t.heap) (hs:t.heap.get? S=some { cls:= .type "list",dict:=none,data:= .seq #[] c,slots:= #[] })
 (hR:∀ v h' tk,Pr (argBest bt (n - 1)) v→(∀ b o,b∉wr→b≠S→t.heap.get? b=some o→h'.get? b=some o)→R (.ok (.ret v)) { t with heap:=h',toks:=tk }) :
 codeAny (model P w) A (.builtin "min.loop" ⟨[.ref I,.none,.ref S],[]⟩) R t:=by
 have Sw:S∉wr:=fun q=>hS (W.sub _ q)
 have nm:(toString "min" ++ toString ".loop" :String)= "min.loop" :=by decide
 refine codeAny_builtin F.entry_min_loop ?_
 rw [Around.under_plainId F.plain_min_loop]
 show wpAny (model P w) A.in1 (seqItems? (.ref S) >>= _) _ _ t
 apply wpAny_bind;apply wpAny_seqItems hs rfl
 show wpAny (model P w) A.in1 (tryCatch (pyNext (.ref I)) _ >>= _) _ _ t
 apply wpAny_bind;apply wpAny_tryCatch
 refine W.item 0 t _ _ hn st fun v h' tk pv st2 kp=>?_
 have hs2:=kp S _ Sw hs
 have CJ:eU h0 h':=fun b o q=>kp b o (A7 b o q).1 (gr b o q)
 show wpAny (model P w) A.in1 (updateSeq S (fun _=> #[v,v]) >>= _) _ _ _
 apply wpAny_bind
 refine wpAny_updateSeq hs2 rfl ?_
 rw [nm]
 refine wpAny_pure ⟨plainId_quiet F.plain_min_loop _,IJ W hc hS A7 _ 0 _ v _ rfl hn (fun b o q=>(Heap.get?_update_other _ _ (Ne.symm (A7 b o q).2)).trans (CJ b o q)) (W.frame _ _ _ st2 fun b q1 o q=>(Heap.get?_update_other _ _ (fun z:S=b=>hS (z▸q1))).trans q) pv (Heap.get?_update_self _ hs2 rfl) fun v2 h2 yr p2 A8=>?_⟩
 exact hR v2 h2 yr p2 fun b o q1 q2 q=>A8 b o q1 q2 ((Heap.get?_update_other _ _ (Ne.symm q2)).trans (kp b o q1 q))
theorem CK {vs:List Value} {bt:Nat→Nat→Bool} {Q:Value→Shared→Prop} (ha:argsOk "min" ⟨vs,[]⟩) (h2:2≤vs.length) (hz:vs.length < 64) (hh:A.handled=none)
 (hc:∀ (i j:Nat) (vi vj:Value) (t:Shared) (Q:Value→Shared→Prop) (E:Value→Shared→Prop),eU s.heap t.heap→vs[i]?=some vi→vs[j]?=some vj→Q (.bool (bt i j)) t→wpAny (model P w) A.in1 (richCompare .Lt vi vj) Q E t)
 (h:∀ v h' tk,vs[argBest bt (vs.length - 1)]?=some v→eU s.heap h'→Q v { s with heap:=h',toks:=tk }):wpAny (model P w) A (call (.builtin "min") vs) Q E s:=by
 have nm:(toString "min" ++ toString ".loop" :String)= "min.loop" :=by decide
 have lz:vs.length≤sizeLine:=by rw [sizeLine_eq];omega
 refine call_function_tree F.kind_min F.plain_min F.entry_min ha ?_
 match vs,h2 with
 | v1 :: v2 :: rest,_=>
   show wpAny (model P w) A.in1 (Builtin.Builtins.bindParams "min" ["key","default"] 0 ⟨[],[]⟩ >>= _) _ _ s
   refine wpAny_bind (wpAny_of_eq (show Builtin.Builtins.bindParams "min" ["key","default"] 0 ⟨[],[]⟩=pure [none,none] from rfl) ?_)
   show wpAny (model P w) A.in1 (newTuple (v1 :: v2 :: rest) >>= _) _ _ s
   refine wpAny_bind (wpAny_newTuple (hsz:=lz) ?_)
   have qd:(s.heap.push { cls:= .type "tuple",data:= .seq (v1 :: v2 :: rest).toArray }).objs.size=s.heap.objs.size+1:=Heap.size_push ..
   have tp:(s.heap.push { cls:= .type "tuple",data:= .seq (v1 :: v2 :: rest).toArray }).IsTuple s.heap.objs.size (v1 :: v2 :: rest).toArray:=⟨_,Heap.get?_push_size _ rfl,rfl,0,rfl⟩
   refine wpAny_bind (wpAny_pyIter_tuple tp ?_)
   generalize hg:s.heap.push { cls:= .type "tuple",data:= .seq (v1 :: v2 :: rest).toArray }=g at qd tp
   have k0:eU s.heap g:=fun b o q=>by rw [← hg];exact Heap.get?_push_of_some _ q
   apply wpAny_bind
   refine wpAny_newObj_type ?_
   have Ba:(g.push { cls:= .type "tuple_iterator",data:= .fields #[.ref s.heap.objs.size,.int 0 0] }).objs.size=s.heap.objs.size+2:=by rw [Heap.size_push,qd]
   rw [nm]
   refine wpAny_pure ⟨plainId_quiet F.plain_min_loop _,A9 (h0:=s.heap) (Walks.tuple (A:=A.in1) hh _ s.heap.objs.size (by rw [qd];exact Nat.ne_of_lt (Nat.lt_succ_self _)) (v1 :: v2 :: rest).toArray) (bt:=bt) (fun i j vi vj t Q E g1 p1 p2 q=>hc i j vi vj t Q E g1 (by simpa using p1) (by simpa using p2) q) ?_ (fun b o q=>?_) (by simp) (fun b o q=>Heap.get?_push_of_some _ (Heap.get?_push_of_some _ (k0 b o q))) ⟨⟨_,Heap.get?_push_of_some _ (Heap.get?_push_size _ rfl),rfl,rfl⟩,(tp.push _).push _⟩ (Heap.get?_push_size _ rfl) fun v h' tk p kp=>?_⟩
   ·intro q
    rw [qd,Ba] at q
    rcases List.mem_cons.mp q with q | q
    ·exact absurd q (by intro z;exact absurd (Nat.succ.inj z) (Nat.succ_ne_self _))
    ·have q:=List.mem_singleton.mp q
     exact absurd q (by intro z;have:s.heap.objs.size+2=s.heap.objs.size:=z;omega)
   ·have lb:=Heap.lt_size q
    rw [qd,Ba]
    refine ⟨fun z=>?_,fun z=>?_⟩
    ·have z:=List.mem_singleton.mp z
     rw [z] at lb
     exact absurd lb (Nat.not_lt.mpr (Nat.le_succ _))
    ·rw [z] at lb
     exact absurd lb (Nat.not_lt.mpr (Nat.le_add_right _ 2))
   ·refine h v h' tk (by simpa using p) fun b o q=>?_
    have lb:=Heap.lt_size q
    refine kp b o (fun z=>?_) (fun z=>?_) (Heap.get?_push_of_some _ (Heap.get?_push_of_some _ (k0 b o q)))
    ·have z:=List.mem_singleton.mp z
     rw [z,qd] at lb
     exact absurd lb (Nat.not_lt.mpr (Nat.le_succ _))
    ·rw [z,Ba] at lb
     exact absurd lb (Nat.not_lt.mpr (Nat.le_add_right _ 2))
theorem IK {h0:Heap} {I S:Addr} {fp wr:List Addr} {n:Nat} {Pr:Nat→Value→Prop} {St:Nat→Heap→Prop} {bt:Nat→Nat→Bool} {R:Result→Shared→Prop} (W:Walks P w A.in1 I fp wr n Pr St)
 (hc:∀ (i j:Nat) (vi vj:Value) (t:Shared) (Q:Value→Shared→Prop) (E:Value→Shared→Prop),eU h0 t.heap→Pr i vi→Pr j vj→Q (.bool (bt i j)) t→wpAny (model P w) A.in1 (richCompare .Gt vi vj) Q E t)
 (hS:S∉fp) (A7:∀ b o,h0.get? b=some o→b∉wr∧b≠S):∀ (m k:Nat) (t:Shared) (vb:Value) (c:Nat),n - (k+1)=m→k+1≤n→eU h0 t.heap→St (k+1) t.heap→Pr (argBest bt k) vb→
 t.heap.get? S=some { cls:= .type "list",dict:=none,data:= .seq #[vb,vb] c,slots:= #[] }→
 (∀ v h' tk,Pr (argBest bt (n - 1)) v→(∀ b o,b∉wr→b≠S→t.heap.get? b=some o→h'.get? b=some o)→R (.ok (.ret v)) { t with heap:=h',toks:=tk })→
 codeAny (model P w) A (.builtin "max.loop" ⟨[.ref I,.none,.ref S],[]⟩) R t:=by
 have Sw:S∉wr:=fun q=>hS (W.sub _ q)
 have nm:(toString "max" ++ toString ".loop" :String)= "max.loop" :=by decide
 intro m
 induction m with
 | zero=>
   intro k t vb c e1 e2 gr st pb hs hR
   have ek:k+1=n:=by omega
   refine codeAny_builtin F.entry_max_loop ?_
   rw [Around.under_plainId F.plain_max_loop]
   show wpAny (model P w) A.in1 (seqItems? (.ref S) >>= _) _ _ t
   apply wpAny_bind;apply wpAny_seqItems hs rfl
   show wpAny (model P w) A.in1 (tryCatch (pyNext (.ref I)) _ >>= _) _ _ t
   apply wpAny_bind;apply wpAny_tryCatch
   refine W.done t _ _ (ek▸st) fun h' tk kp=>?_
   have hs2:=kp S _ Sw hs
   show wpAny (model P w) A.in1 (updateSeq S (fun _=> #[]) >>= _) _ _ _
   apply wpAny_bind
   refine wpAny_updateSeq hs2 rfl ?_
   apply wpAny_bind;apply wpAny_letGo;apply wpAny_pure
   exact hR vb _ tk (by rw [← ek];exact pb) fun b o q1 q2 q=>(Heap.get?_update_other _ _ (Ne.symm q2)).trans (kp b o q1 q)
 | succ m ih=>
   intro k t vb c e1 e2 gr st pb hs hR
   refine codeAny_builtin F.entry_max_loop ?_
   rw [Around.under_plainId F.plain_max_loop]
   show wpAny (model P w) A.in1 (seqItems? (.ref S) >>= _) _ _ t
   apply wpAny_bind;apply wpAny_seqItems hs rfl
   show wpAny (model P w) A.in1 (tryCatch (pyNext (.ref I)) _ >>= _) _ _ t
   apply wpAny_bind;apply wpAny_tryCatch
   refine W.item (k+1) t _ _ (by omega) st fun v h' tk pv st2 kp=>?_
   have hs2:=kp S _ Sw hs
   have CJ:eU h0 h':=fun b o q=>kp b o (A7 b o q).1 (gr b o q)
   show wpAny (model P w) A.in1 (tryCatch (holding [v,v] (richCompare .Gt v vb >>= _)) _ >>= _) _ _ _
   apply wpAny_bind;apply wpAny_tryCatch;apply wpAny_holding;apply wpAny_bind
   refine hc (k+1) (argBest bt k) v vb _ _ _ CJ pv pb ?_
   apply wpAny_bind;apply wpAny_holding;apply wpAny_truthy_bool
   apply wpAny_bind;apply wpAny_letGo;apply wpAny_pure
   cases d:bt (k+1) (argBest bt k) with
   | true=>
     rw [if_pos rfl]
     apply wpAny_bind
     refine wpAny_updateSeq hs2 rfl ?_
     apply wpAny_bind;apply wpAny_letGo
     rw [nm]
     refine wpAny_pure ⟨plainId_quiet F.plain_max_loop _,ih (k+1) _ v _ (by omega) (by omega) (fun b o q=>(Heap.get?_update_other _ _ (Ne.symm (A7 b o q).2)).trans (CJ b o q)) (W.frame _ _ _ st2 fun b q1 o q=>(Heap.get?_update_other _ _ (fun z:S=b=>hS (z▸q1))).trans q) (by simp only [argBest,d,if_true];exact pv) (Heap.get?_update_self _ hs2 rfl) fun v2 h2 yr p2 A8=>?_⟩
     exact hR v2 h2 yr p2 fun b o q1 q2 q=>A8 b o q1 q2 ((Heap.get?_update_other _ _ (Ne.symm q2)).trans (kp b o q1 q))
   | false=>
     rw [if_neg Bool.false_ne_true]
     apply wpAny_bind;apply wpAny_letGo
     rw [nm]
     refine wpAny_pure ⟨plainId_quiet F.plain_max_loop _,ih (k+1) _ vb c (by omega) (by omega) CJ st2 (by simp only [argBest,d,Bool.false_eq_true,if_false];exact pb) hs2 fun v2 h2 yr p2 A8=>?_⟩
     exact hR v2 h2 yr p2 fun b o q1 q2 q=>A8 b o q1 q2 (kp b o q1 q)
theorem Bb {h0:Heap} {I S:Addr} {fp wr:List Addr} {n:Nat} {Pr:Nat→Value→Prop} {St:Nat→Heap→Prop} {bt:Nat→Nat→Bool} {R:Result→Shared→Prop} {t:Shared} {c:Nat} (W:Walks P w A.in1 I fp wr n Pr St)
 (hc:∀ (i j:Nat) (vi vj:Value) (t:Shared) (Q:Value→Shared→Prop) (E:Value→Shared→Prop),eU h0 t.heap→Pr i vi→Pr j vj→Q (.bool (bt i j)) t→wpAny (model P w) A.in1 (richCompare .Gt vi vj) Q E t)
 (hS:S∉fp) (A7:∀ b o,h0.get? b=some o→b∉wr∧b≠S) (hn:0 < n) (gr:eU h0 t.heap) (st:St 0 t.heap) (hs:t.heap.get? S=some { cls:= .type "list",dict:=none,data:= .seq #[] c,slots:= #[] })
 (hR:∀ v h' tk,Pr (argBest bt (n - 1)) v→(∀ b o,b∉wr→b≠S→t.heap.get? b=some o→h'.get? b=some o)→R (.ok (.ret v)) { t with heap:=h',toks:=tk }) :
 codeAny (model P w) A (.builtin "max.loop" ⟨[.ref I,.none,.ref S],[]⟩) R t:=by
 have Sw:S∉wr:=fun q=>hS (W.sub _ q)
 have nm:(toString "max" ++ toString ".loop" :String)= "max.loop" :=by decide
 refine codeAny_builtin F.entry_max_loop ?_
 rw [Around.under_plainId F.plain_max_loop]
 show wpAny (model P w) A.in1 (seqItems? (.ref S) >>= _) _ _ t
 apply wpAny_bind;apply wpAny_seqItems hs rfl
 show wpAny (model P w) A.in1 (tryCatch (pyNext (.ref I)) _ >>= _) _ _ t
 apply wpAny_bind;apply wpAny_tryCatch
 refine W.item 0 t _ _ hn st fun v h' tk pv st2 kp=>?_
 have hs2:=kp S _ Sw hs
 have CJ:eU h0 h':=fun b o q=>kp b o (A7 b o q).1 (gr b o q)
 show wpAny (model P w) A.in1 (updateSeq S (fun _=> #[v,v]) >>= _) _ _ _
 apply wpAny_bind
 refine wpAny_updateSeq hs2 rfl ?_
 rw [nm]
 refine wpAny_pure ⟨plainId_quiet F.plain_max_loop _,IK W hc hS A7 _ 0 _ v _ rfl hn (fun b o q=>(Heap.get?_update_other _ _ (Ne.symm (A7 b o q).2)).trans (CJ b o q)) (W.frame _ _ _ st2 fun b q1 o q=>(Heap.get?_update_other _ _ (fun z:S=b=>hS (z▸q1))).trans q) pv (Heap.get?_update_self _ hs2 rfl) fun v2 h2 yr p2 A8=>?_⟩
 exact hR v2 h2 yr p2 fun b o q1 q2 q=>A8 b o q1 q2 ((Heap.get?_update_other _ _ (Ne.symm q2)).trans (kp b o q1 q))
theorem CL {vs:List Value} {bt:Nat→Nat→Bool} {Q:Value→Shared→Prop} (ha:argsOk "max" ⟨vs,[]⟩) (h2:2≤vs.length) (hz:vs.length < 64) (hh:A.handled=none)
 (hc:∀ (i j:Nat) (vi vj:Value) (t:Shared) (Q:Value→Shared→Prop) (E:Value→Shared→Prop),eU s.heap t.heap→vs[i]?=some vi→vs[j]?=some vj→Q (.bool (bt i j)) t→wpAny (model P w) A.in1 (richCompare .Gt vi vj) Q E t)
 (h:∀ v h' tk,vs[argBest bt (vs.length - 1)]?=some v→eU s.heap h'→Q v { s with heap:=h',toks:=tk }):wpAny (model P w) A (call (.builtin "max") vs) Q E s:=by
 have nm:(toString "max" ++ toString ".loop" :String)= "max.loop" :=by decide
 have lz:vs.length≤sizeLine:=by rw [sizeLine_eq];omega
 refine call_function_tree F.kind_max F.plain_max F.entry_max ha ?_
 match vs,h2 with
 | v1 :: v2 :: rest,_=>
   show wpAny (model P w) A.in1 (Builtin.Builtins.bindParams "max" ["key","default"] 0 ⟨[],[]⟩ >>= _) _ _ s
   refine wpAny_bind (wpAny_of_eq (show Builtin.Builtins.bindParams "max" ["key","default"] 0 ⟨[],[]⟩=pure [none,none] from rfl) ?_)
   show wpAny (model P w) A.in1 (newTuple (v1 :: v2 :: rest) >>= _) _ _ s
   refine wpAny_bind (wpAny_newTuple (hsz:=lz) ?_)
   have qd:(s.heap.push { cls:= .type "tuple",data:= .seq (v1 :: v2 :: rest).toArray }).objs.size=s.heap.objs.size+1:=Heap.size_push ..
   have tp:(s.heap.push { cls:= .type "tuple",data:= .seq (v1 :: v2 :: rest).toArray }).IsTuple s.heap.objs.size (v1 :: v2 :: rest).toArray:=⟨_,Heap.get?_push_size _ rfl,rfl,0,rfl⟩
   refine wpAny_bind (wpAny_pyIter_tuple tp ?_)
   generalize hg:s.heap.push { cls:= .type "tuple",data:= .seq (v1 :: v2 :: rest).toArray }=g at qd tp
   have k0:eU s.heap g:=fun b o q=>by rw [← hg];exact Heap.get?_push_of_some _ q
   apply wpAny_bind
   refine wpAny_newObj_type ?_
   have Ba:(g.push { cls:= .type "tuple_iterator",data:= .fields #[.ref s.heap.objs.size,.int 0 0] }).objs.size=s.heap.objs.size+2:=by rw [Heap.size_push,qd]
   rw [nm]
   refine wpAny_pure ⟨plainId_quiet F.plain_max_loop _,Bb (h0:=s.heap) (Walks.tuple (A:=A.in1) hh _ s.heap.objs.size (by rw [qd];exact Nat.ne_of_lt (Nat.lt_succ_self _)) (v1 :: v2 :: rest).toArray) (bt:=bt) (fun i j vi vj t Q E g1 p1 p2 q=>hc i j vi vj t Q E g1 (by simpa using p1) (by simpa using p2) q) ?_ (fun b o q=>?_) (by simp) (fun b o q=>Heap.get?_push_of_some _ (Heap.get?_push_of_some _ (k0 b o q))) ⟨⟨_,Heap.get?_push_of_some _ (Heap.get?_push_size _ rfl),rfl,rfl⟩,(tp.push _).push _⟩ (Heap.get?_push_size _ rfl) fun v h' tk p kp=>?_⟩
   ·intro q
    rw [qd,Ba] at q
    rcases List.mem_cons.mp q with q | q
    ·exact absurd q (by intro z;exact absurd (Nat.succ.inj z) (Nat.succ_ne_self _))
    ·have q:=List.mem_singleton.mp q
     exact absurd q (by intro z;have:s.heap.objs.size+2=s.heap.objs.size:=z;omega)
   ·have lb:=Heap.lt_size q
    rw [qd,Ba]
    refine ⟨fun z=>?_,fun z=>?_⟩
    ·have z:=List.mem_singleton.mp z
     rw [z] at lb
     exact absurd lb (Nat.not_lt.mpr (Nat.le_succ _))
    ·rw [z] at lb
     exact absurd lb (Nat.not_lt.mpr (Nat.le_add_right _ 2))
   ·refine h v h' tk (by simpa using p) fun b o q=>?_
    have lb:=Heap.lt_size q
    refine kp b o (fun z=>?_) (fun z=>?_) (Heap.get?_push_of_some _ (Heap.get?_push_of_some _ (k0 b o q)))
    ·have z:=List.mem_singleton.mp z
     rw [z,qd] at lb
     exact absurd lb (Nat.not_lt.mpr (Nat.le_succ _))
    ·rw [z,Ba] at lb
     exact absurd lb (Nat.not_lt.mpr (Nat.le_add_right _ 2))
end
end L3
namespace HT
open PySem PyProof.Rows
theorem CM (A:Around) (s:Shared) (a:Int) (t:Tok) (c:Int) (u:Tok) (prog:Program) (w:World) (E:Value→Shared→Prop) (Q:Value→Shared→Prop) (h:Q (.bool (decide (c < a))) s) :
 wpAny (model prog w) A (richCompare .Gt (.int a t) (.int c u)) Q E s:=
 (PyProof.Rows.gt_int h:wpAny (model prog w) A (compareOp .Gt (.int a t) (.int c u)) Q E s)
section
open PySem.SeqAt
open PySem.AutoSeq1 (wpAny_loadPart')
open PySem.MeetsSeq PySem.MeetsSeq2 PySem.MeetsSeq3
theorem sD (l b:Addr) (items items2:Array Value) (n n2:Nat) (dd dd2:Option Addr) (sl sl2:Array (Option Value)) (ns ms:List Int) (hi:IntsAre items.toList ns) (hj:IntsAre items2.toList ms) :
 Meets (Builtin.«tuple.__gt__» ⟨[.ref l,.ref b],[]⟩)
  (fun _ R s=>s.heap.get? l=some { cls:= .type "tuple",dict:=dd,data:= .seq items n,slots:=sl }∧s.heap.get? b=some { cls:= .type "tuple",dict:=dd2,data:= .seq items2 n2,slots:=sl2 }∧
   R (.ok (.ret (.bool (lexLt ms ns)))) s):=
 .of_wp fun prog w A R s h=>by
  obtain ⟨hp,g,d,tk,os⟩:=s;obtain ⟨hl,hb,h⟩:=h
  have f2:=AutoSeq1.sub_tuple_tuple
  have z1:items.size=ns.length:=by rw [← hi.length];simp
  have z2:items2.size=ms.length:=by rw [← hj.length];simp
  wp_walk using wpAny_loadPart' hl,wpAny_loadPart' hb,wpAny_forIn_list _ (fun rest b s'=>b.1=none∧s'= ⟨hp,g,d,tk,os⟩∧∃ (vs ws:List Value) (ns' ms':List Int),rest=vs.zip ws∧
   IntsAre vs ns'∧IntsAre ws ms'∧ns'.length+items2.size=ms'.length+items.size∧R (.ok (.ret (.bool (lexLt ms' ns')))) ⟨hp,g,d,tk,os⟩) _
  case turn=>
   rintro ⟨y,x⟩ rest b s' ⟨hb',rfl,vs,ws,ns',ms',hz,Ib,hwi,hlen,hR⟩
   cases Ib with
   | nil=>rw [List.zip_nil_left] at hz;cases hz
   | cons a t Ic=>
     cases hwi with
     | nil=>rw [List.zip_nil_right] at hz;cases hz
     | cons c u Ie=>
       rw [List.zip_cons_cons] at hz
       injection hz with hyx hrest
       injection hyx with hy hx
       subst hy hx
       rw [ju] at hR
       simp only [List.length_cons] at hlen
       obtain ⟨e,he,hiff⟩:=wA A.in1 ⟨hp,g,d,tk,os⟩ a t c u
       refine wpAny_bind (he prog w _ _ ?_)
       cases e with
       | true=>
         rw [if_pos (hiff.mp rfl).symm] at hR
         wp_walk
         exact ⟨rfl,rfl,_,_,_,_,hrest,Ic,Ie,by omega,hR⟩
       | false=>
         rw [if_neg (fun q=>absurd (hiff.mpr q.symm) Bool.false_ne_true)] at hR
         have Nh:=CM A.in1 ⟨hp,g,d,tk,os⟩ a t c u prog w
         wp_walk using Nh
         exact ⟨_,rfl,by simpa using hR⟩
  case fin=>
   rintro ⟨b1,b2⟩ s' ⟨hb',rfl,vs,ws,ns',ms',hz,Ib,hwi,hlen,hR⟩
   simp only at hb'
   subst hb'
   have hv:lexLt ms' ns'=decide (items.size > items2.size):=by
    cases Ib with
    | nil=>
      cases hwi with
      | nil=>
        simp only [List.length_nil] at hlen
        rw [iF]
        exact (decide_eq_false (by omega)).symm
      | cons c u hw=>
        simp only [List.length_nil,List.length_cons] at hlen
        rw [ki]
        exact (decide_eq_false (by omega)).symm
    | cons a t hv=>
      cases hwi with
      | nil=>
        simp only [List.length_nil,List.length_cons] at hlen
        rw [kh]
        exact (decide_eq_true (by omega)).symm
      | cons c u hw=>
        rw [List.zip_cons_cons] at hz
        cases hz
   rw [hv] at hR
   wp_walk
   exact ⟨_,rfl,by simpa [Builtin.Tuple.tupleCompareSizes] using hR⟩
  case h=>
   exact ⟨rfl,rfl,items.toList,items2.toList,ns,ms,rfl,hi,hj,by omega,h⟩
end
section
variable {prog:Program} {w:World} {A:Around} {E:Value→Shared→Prop} {s:Shared}
theorem yI {l b:Addr} {items items2:Array Value} {ns ms:List Int} {Q:Value→Shared→Prop} (hl:IsTup s.heap l items) (hb:IsTup s.heap b items2) (hi:IntsAre items.toList ns) (hj:IntsAre items2.toList ms)
 (hu:A.units < cLine) (h:Q (.bool (lexLt ms ns)) s):wpAny (model prog w) A (compareOp .Gt (.ref l) (.ref b)) Q E s:=by
 obtain ⟨⟨cls,dd,data,sl⟩,ho,hc,n,hd⟩:=id hl
 obtain ⟨⟨Ni,dd2,data2,sl2⟩,ho2,hc2,n2,hd2⟩:=id hb
 simp only at hc hd hc2 hd2
 subst hc hd hc2 hd2
 exact richCompare_meets_room (op:= .Gt) ⟨_,ho,rfl⟩ ⟨_,ho2,rfl⟩ PySem.F.slot_tuple_gt PySem.F.entry_tuple_gt (PySem.F.args_tuple_gt_2 _ _) (sD l b items items2 n n2 dd dd2 sl sl2 ns ms hi hj)
  ⟨ho,ho2,show Value.bool (lexLt ms ns)≠Value.notImplemented∧Q (.bool (lexLt ms ns)) s from ⟨(fun x=>nomatch x),h⟩⟩ hu
end
end HT
namespace L3
open PySem PySem.Spec PyProof.Rows L2
section
variable {X:Cx} {pos:Pos}
theorem gg (p q:Pl):HT.lexLt [p.x,p.y] [q.x,q.y]=decide (aZ p q):=by
 rw [HT.ju,HT.ju,HT.iF]
 by_cases ex:p.x=q.x
 ·rw [if_pos ex]
  by_cases ey:p.y=q.y
  ·rw [if_pos ey];exact (decide_eq_false (by unfold aZ;omega)).symm
  ·rw [if_neg ey,decide_eq_decide];unfold aZ;omega
 ·rw [if_neg ex,decide_eq_decide];unfold aZ;omega
theorem CN {P:Program} {w:World} {K:PySem.W.Frag} {H:Hp} {h:Heap} {p:Pl} {x:V} {u:Value} (ok:j3 P w H h) (d:Dat K H p.d x) (r:RelV x u):lD h u p:=by
 obtain ⟨a,xs,rfl,ha,hx⟩:=bK.mp d
 obtain rfl:u=Value.ref a:=r
 obtain ⟨its,rv,⟨o,h1,h2,n,h3⟩,_⟩:=eX ok ha
 obtain ⟨v1,v2,rfl,d1,d2⟩:=qu hx
 obtain rfl:=aJ.mp d1
 obtain rfl:=aJ.mp d2
 obtain ⟨u1,u2,rfl,⟨t1,rfl⟩,⟨t2,rfl⟩⟩:=vals2 rv
 exact ⟨a,o,t1,t2,n,rfl,h1,h2,h3⟩
theorem lD.tup {h:Heap} {v:Value} {p:Pl} (a:lD h v p):∃ (l:Addr) (its:Array Value),v= .ref l∧IsTup h l its∧IntsAre its.toList [p.x,p.y]:=by
 obtain ⟨b,o,t,u,n,h1,h2,h3,h4⟩:=a
 exact ⟨b,_,h1,⟨o,h2,h3,n,h4⟩,.cons _ _ (.cons _ _ .nil)⟩
def dh (h:Heap):List Value→List Pl→Prop:=Paired (lD h)
theorem i8 {P:Program} {w:World} {K:PySem.W.Frag} {H:Hp} {h:Heap} (ok:j3 P w H h):∀ {ps:List Pl} {xs:List V} {us:List Value},aG K H (ps.map Pl.d) xs→Vals xs us→dh h us ps
 | [],xs,us,d,r=>by rw [aL.mp d] at r;cases r;exact .nil
 | p :: ps,xs,us,d,r=>by
   obtain ⟨v,vs,rfl,d1,d2⟩:=aF.mp d
   cases r with
   | cons r rr=>exact .cons (CN ok d1 r) (i8 ok d2 rr)
theorem dh.get {h:Heap}:∀ {us:List Value} {ps:List Pl} {i:Nat} {u:Value},dh h us ps→us[i]?=some u→∃ p,ps[i]?=some p∧lD h u p
 | _,_,i,u,.nil,e=>by simp at e
 | _,_,i,u,.cons a r,e=>by
   cases i with
   | zero=>simp at e;subst e;exact ⟨_,rfl,a⟩
   | succ i=>exact dh.get (i:=i) r (by simpa using e)
theorem Vals.len {xs:List V} {us:List Value} (r:Vals xs us):us.length=xs.length:=(Vals.length r).symm
def bestOf (lt:Pl→Pl→Bool) (ps:List Pl) (i j:Nat):Bool:=lt (ps.getD i ⟨0,0⟩) (ps.getD j ⟨0,0⟩)
def GY (lt:Pl→Pl→Bool):List D→Mp→DK→Prop:=fun ds M Q=> ∃ ps:List Pl,ds=ps.map Pl.d∧2≤ps.length∧ps.length≤4∧Q (ps.getD (argBest (bestOf lt ps) (ps.length - 1)) ⟨0,0⟩).d M
theorem l8 (bt:Nat→Nat→Bool):∀ n,argBest bt n≤n
 | 0=>Nat.le_refl 0
 | n+1=>by
   unfold argBest
   split
   ·exact Nat.le_refl _
   ·exact Nat.le_succ_of_le (l8 bt n)
theorem Fe (a b:Value):argsOk "min" ⟨[a,b],[]⟩:=by unfold argsOk;kernel_rfl
theorem Ff (a b c:Value):argsOk "min" ⟨[a,b,c],[]⟩:=by unfold argsOk;kernel_rfl
theorem Fg (a b c d:Value):argsOk "min" ⟨[a,b,c,d],[]⟩:=by unfold argsOk;kernel_rfl
theorem IL:∀ (vs:List Value),2≤vs.length→vs.length≤4→argsOk "min" ⟨vs,[]⟩:=by
 intro vs h2 h4
 cases vs with
 | nil=>exact absurd h2 (by decide)
 | cons a vs=>
   cases vs with
   | nil=>exact absurd h2 (by simp)
   | cons b vs=>
     cases vs with
     | nil=>exact Fe a b
     | cons c vs=>
       cases vs with
       | nil=>exact Ff a b c
       | cons d vs=>
         cases vs with
         | nil=>exact Fg a b c d
         | cons e vs=>exact absurd h4 (by simp only [List.length_cons];omega)
theorem Fi (a b:Value):argsOk "max" ⟨[a,b],[]⟩:=by unfold argsOk;kernel_rfl
theorem Fj (a b c:Value):argsOk "max" ⟨[a,b,c],[]⟩:=by unfold argsOk;kernel_rfl
theorem Fl (a b c d:Value):argsOk "max" ⟨[a,b,c,d],[]⟩:=by unfold argsOk;kernel_rfl
theorem IM:∀ (vs:List Value),2≤vs.length→vs.length≤4→argsOk "max" ⟨vs,[]⟩:=by
 intro vs h2 h4
 cases vs with
 | nil=>exact absurd h2 (by decide)
 | cons a vs=>
   cases vs with
   | nil=>exact absurd h2 (by simp)
   | cons b vs=>
     cases vs with
     | nil=>exact Fi a b
     | cons c vs=>
       cases vs with
       | nil=>exact Fj a b c
       | cons d vs=>
         cases vs with
         | nil=>exact Fl a b c d
         | cons e vs=>exact absurd h4 (by simp only [List.length_cons];omega)
theorem IP (hu:X.A.units+64 < cLine) (hc:X.calm=true):Call3 X (.builtin "min") (GY fun p q=>decide (aZ p q)):=by
 constructor
 intro pins s σ H M xs ds us Q I rm rs dx ⟨ps,e,h2,h4,q⟩
 subst e
 have hl:us.length=ps.length:=by rw [Vals.len rs,← dx.length,List.length_map]
 have hp:=i8 I.hok dx rs
 refine CK (IL us (by omega) (by omega)) (by omega) (by omega) (I.ok.hd hc) (bt:=bestOf (fun p q=>decide (aZ p q)) ps) (fun i j vi vj t Q E g e1 e2 q=>?_) fun v h' tk e g=>?_
 ·obtain ⟨p1,f1,a1⟩:=hp.get e1
  obtain ⟨p2,f2,a2⟩:=hp.get e2
  obtain ⟨l1,i1,rfl,t1,n1⟩:=(a1.grow g).tup
  obtain ⟨l2,i2,rfl,t2,n2⟩:=(a2.grow g).tup
  have eb:bestOf (fun p q=>decide (aZ p q)) ps i j=decide (aZ p1 p2):=by unfold bestOf;rw [List.getD_eq_getElem?_getD,List.getD_eq_getElem?_getD,f1,f2];rfl
  rw [eb,← gg] at q
  exact (HT.lY t1 t2 n1 n2 (by show X.A.units+1 < cLine;omega) q:wpAny (model X.prog X.w) X.A.in1 (compareOp .Lt (.ref l1) (.ref l2)) Q E t)
 ·rw [hl] at e
  obtain ⟨x,ex,rx⟩:∃ x,xs[argBest (bestOf (fun p q=>decide (aZ p q)) ps) (ps.length - 1)]?=some x∧RelV x v:=by
   have lt:argBest (bestOf (fun p q=>decide (aZ p q)) ps) (ps.length - 1) < xs.length:=by
    have:=l8 (bestOf (fun p q=>decide (aZ p q)) ps) (ps.length - 1)
    rw [← dx.length,List.length_map];omega
   obtain ⟨u,eu,ru⟩:=Vals.get rs (List.getElem?_eq_getElem lt)
   rw [e] at eu
   cases eu
   exact ⟨_,List.getElem?_eq_getElem lt,ru⟩
  obtain ⟨d,ed,dd⟩:=dx.back ex
  rw [List.getElem?_map] at ed
  have eq:d=(ps.getD (argBest (bestOf (fun p q=>decide (aZ p q)) ps) (ps.length - 1)) ⟨0,0⟩).d:=by
   rw [List.getD_eq_getElem?_getD]
   cases z:ps[argBest (bestOf (fun p q=>decide (aZ p q)) ps) (ps.length - 1)]? with
   | none=>rw [z] at ed;cases ed
   | some p=>rw [z] at ed;cases ed;rfl
  subst eq
  exact ⟨x,H,I.kept g,rx,aH rm dd q⟩
theorem IQ (hu:X.A.units+64 < cLine) (hc:X.calm=true):Call3 X (.builtin "max") (GY fun p q=>decide (aZ q p)):=by
 constructor
 intro pins s σ H M xs ds us Q I rm rs dx ⟨ps,e,h2,h4,q⟩
 subst e
 have hl:us.length=ps.length:=by rw [Vals.len rs,← dx.length,List.length_map]
 have hp:=i8 I.hok dx rs
 refine CL (IM us (by omega) (by omega)) (by omega) (by omega) (I.ok.hd hc) (bt:=bestOf (fun p q=>decide (aZ q p)) ps) (fun i j vi vj t Q E g e1 e2 q=>?_) fun v h' tk e g=>?_
 ·obtain ⟨p1,f1,a1⟩:=hp.get e1
  obtain ⟨p2,f2,a2⟩:=hp.get e2
  obtain ⟨l1,i1,rfl,t1,n1⟩:=(a1.grow g).tup
  obtain ⟨l2,i2,rfl,t2,n2⟩:=(a2.grow g).tup
  have eb:bestOf (fun p q=>decide (aZ q p)) ps i j=decide (aZ p2 p1):=by unfold bestOf;rw [List.getD_eq_getElem?_getD,List.getD_eq_getElem?_getD,f1,f2];rfl
  rw [eb,← gg] at q
  exact (HT.yI t1 t2 n1 n2 (by show X.A.units+1 < cLine;omega) q:wpAny (model X.prog X.w) X.A.in1 (compareOp .Gt (.ref l1) (.ref l2)) Q E t)
 ·rw [hl] at e
  obtain ⟨x,ex,rx⟩:∃ x,xs[argBest (bestOf (fun p q=>decide (aZ q p)) ps) (ps.length - 1)]?=some x∧RelV x v:=by
   have lt:argBest (bestOf (fun p q=>decide (aZ q p)) ps) (ps.length - 1) < xs.length:=by
    have:=l8 (bestOf (fun p q=>decide (aZ q p)) ps) (ps.length - 1)
    rw [← dx.length,List.length_map];omega
   obtain ⟨u,eu,ru⟩:=Vals.get rs (List.getElem?_eq_getElem lt)
   rw [e] at eu
   cases eu
   exact ⟨_,List.getElem?_eq_getElem lt,ru⟩
  obtain ⟨d,ed,dd⟩:=dx.back ex
  rw [List.getElem?_map] at ed
  have eq:d=(ps.getD (argBest (bestOf (fun p q=>decide (aZ q p)) ps) (ps.length - 1)) ⟨0,0⟩).d:=by
   rw [List.getD_eq_getElem?_getD]
   cases z:ps[argBest (bestOf (fun p q=>decide (aZ q p)) ps) (ps.length - 1)]? with
   | none=>rw [z] at ed;cases ed
   | some p=>rw [z] at ed;cases ed;rfl
  subst eq
  exact ⟨x,H,I.kept g,rx,aH rm dd q⟩
def Q5:List D→Mp→DK→Prop:=fun ds M Q=> ∃ p q:Pl,ds= [p.d,q.d]∧Q (lo p q).d M
def Q6:List D→Mp→DK→Prop:=fun ds M Q=> ∃ p q:Pl,ds= [p.d,q.d]∧Q (hi p q).d M
theorem Call3.imp {f:Value} {r r':List D→Mp→DK→Prop} (h:Call3 X f r) (g:∀ ds M Q,r' ds M Q→r ds M Q):Call3 X f r':=
 ⟨fun pins s σ H M xs ds us Q I rm rs dx q=>h.run pins s σ H M xs ds us Q I rm rs dx (g _ _ _ q)⟩
theorem Lc (hu:X.A.units+64 < cLine) (hc:X.calm=true):Call3 X (.builtin "min") Q5:=(IP hu hc).imp fun ds M Q ⟨p,q,e,h⟩=>by
 refine ⟨[p,q],e,Nat.le_refl 2,Nat.le_add_right 2 2,?_⟩
 have e: [p,q].getD (argBest (bestOf (fun p q=>decide (aZ p q)) [p,q]) ([p,q].length - 1)) ⟨0,0⟩=lo p q:=by
  have a:argBest (bestOf (fun p q=>decide (aZ p q)) [p,q]) ([p,q].length - 1)=if decide (aZ q p)=true then 1 else 0:=rfl
  rw [a]
  unfold lo
  by_cases c:aZ q p
  ·rw [if_pos c,if_pos (decide_eq_true c)];rfl
  ·rw [if_neg c,if_neg (fun z=>c (of_decide_eq_true z))];rfl
 rw [e];exact h
theorem Ld (hu:X.A.units+64 < cLine) (hc:X.calm=true):Call3 X (.builtin "max") Q6:=(IQ hu hc).imp fun ds M Q ⟨p,q,e,h⟩=>by
 refine ⟨[p,q],e,Nat.le_refl 2,Nat.le_add_right 2 2,?_⟩
 have e: [p,q].getD (argBest (bestOf (fun p q=>decide (aZ q p)) [p,q]) ([p,q].length - 1)) ⟨0,0⟩=hi p q:=by
  have a:argBest (bestOf (fun p q=>decide (aZ q p)) [p,q]) ([p,q].length - 1)=if decide (aZ p q)=true then 1 else 0:=rfl
  rw [a]
  unfold hi
  by_cases c:aZ p q
  ·rw [if_pos c,if_pos (decide_eq_true c)];rfl
  ·rw [if_neg c,if_neg (fun z=>c (of_decide_eq_true z))];rfl
 rw [e];exact h
noncomputable def uT (h:Heap) (v:Value):Pl:=Option.getD (α:=Pl) ((B3 h).keyOf v) ⟨0,0⟩
theorem Ai {h:Heap} {v:Value} {p:Pl} (a:lD h v p):uT h v=p:=by
 unfold uT
 have e:(B3 h).keyOf v=some p:=Ah a
 exact congrArg (fun o=>Option.getD (α:=Pl) o ⟨0,0⟩) e
theorem dh.keys {h:Heap}:∀ {us:List Value} {ps:List Pl},dh h us ps→us.map (uT h)=ps
 | _,_,.nil=>rfl
 | _,_,.cons a r=>by rw [List.map_cons,Ai a,dh.keys r]
theorem dh.mem {h:Heap}:∀ {us:List Value} {ps:List Pl} {v:Value},dh h us ps→v∈us→∃ p,lD h v p
 | _,_,v,.nil,m=>by cases m
 | _,_,v,.cons a r,m=>by
   rcases List.mem_cons.mp m with rfl | m
   ·exact ⟨_,a⟩
   ·exact dh.mem r m
theorem cu {α:Type}:∀ {vs:List α} {p:α ×α},p∈vs.zip vs→p.1=p.2∧p.1∈vs
 | [],p,m=>by simp at m
 | v :: vs,p,m=>by
   rw [List.zip_cons_cons] at m
   rcases List.mem_cons.mp m with rfl | m
   ·exact ⟨rfl,List.mem_cons_self ..⟩
   ·exact ⟨(cu m).1,List.mem_cons_of_mem _ (cu m).2⟩
theorem sE {P:Program} {w:World} {A:Around} {E:Value→Shared→Prop} {s:Shared} {l:Addr} {vs:List Value} {ps:List Pl} {Q:Value→Shared→Prop} (hl:s.heap.IsList l vs.toArray) (hv:dh s.heap vs ps) (h64:vs.length < 64)
 (h:∀ (out:List Value) (qs:List Pl),(∀ v∈out,v∈vs)→qs=out.map (uT s.heap)→qs.Perm ps→qs.Pairwise (fun p q=> ¬ aZ q p)→Q (.ref (s.heap.objs.size+1)) { s with heap:=sortedAll s.heap vs out.toArray }) :
 wpAny (model P w) A (call (.builtin "sorted") [.ref l]) Q E s:=by
 have hk:KeysOf (B3 s.heap) (pairsOf vs):=fun p hp=>by
  rw [pairsOf_toList] at hp
  obtain ⟨q,a⟩:=hv.mem (cu hp).2
  exact ⟨q,Ah a⟩
 refine tY (κ:=B3 s.heap) (kd:=tuples' true) hl hk (fun t E Q g h2 q=>Fd (by omega) (fun v m=>?_) q) (fun t g=>II g true) h64 fun y hp hs=>?_
 ·obtain ⟨p,a⟩:=hv.mem m
  exact ⟨p,a.grow g⟩
 ·have pl:y.toList.Perm (vs.zip vs):=by rw [← pairsOf_toList];exact Array.perm_iff_toList_perm.mp hp
  have same:∀ p∈y.toList,p.1=p.2∧p.1∈vs:=fun p m=>cu (pl.mem_iff.mp m)
  have eo:y.map (·.2)=(y.toList.map (·.2)).toArray:=by rw [← Array.toList_map,Array.toArray_toList]
  rw [eo]
  refine h (y.toList.map (·.2)) _ (fun v m=>?_) rfl ?_ ?_
  ·obtain ⟨p,m2,rfl⟩:=List.mem_map.mp m
   rw [← (same p m2).1];exact (same p m2).2
  ·have q:=(pl.map (fun p=>p.2)).map (uT s.heap)
   have e:(vs.zip vs).map (fun p=>p.2)=vs:=List.map_snd_zip (Nat.le_refl _)
   rw [e,hv.keys] at q
   exact q
  ·rw [List.pairwise_iff_getElem]
   intro i j hi hj hij
   have li:i < y.size:=by simpa using hi
   have lj:j < y.size:=by simpa using hj
   have q:=hs i j (Nat.le_of_lt hij) (by rw [← hp.size_eq];exact lj)
   have key:∀ k (hk:k < y.size),KK (B3 s.heap) y k=uT s.heap y[k].2:=fun k hk=>by
    unfold KK
    rw [getElem?_pos y k hk]
    show Option.getD (α:=Pl) ((B3 s.heap).keyOf y[k].1) ⟨0,0⟩=_
    rw [(same y[k] (by simp)).1]
    rfl
   have q:(B3 s.heap).blt (KK (B3 s.heap) y j) (KK (B3 s.heap) y i)=false:=q
   rw [key i li,key j lj] at q
   have q:decide (aZ (uT s.heap y[j].2) (uT s.heap y[i].2))=false:=q
   simpa using of_decide_eq_false q
def Fo:List D→Mp→DK→Prop:=fun ds M Q=> ∃ (l:Addr) (ps:List Pl),ds= [.ref l]∧M l=some (.lst (ps.map Pl.d))∧ps.length < 64∧∀ (p:Addr) (qs:List Pl),M p=none→qs.Perm ps→qs.Pairwise (fun p q=> ¬ aZ q p)→Q (.ref p) (aA M p (.lst (qs.map Pl.d)))
theorem t7 {K:PySem.W.Frag} {H:Hp} {h:Heap} {P:Program} {w:World} (ok:j3 P w H h) {ps:List Pl} {zs:List V} {vs:List Value} (d:aG K H (ps.map Pl.d) zs) (r:Vals zs vs):∀ (out:List Value),(∀ v∈out,v∈vs)→
 ∃ ws,Vals ws out∧aG K H ((out.map (uT h)).map Pl.d) ws
 | [],_=>⟨[],.nil,aL.mpr rfl⟩
 | v :: out,m=>by
   obtain ⟨ws,h1,h2⟩:=t7 ok d r out fun u hu=>m u (List.mem_cons_of_mem _ hu)
   have one:∀ {ps:List Pl} {zs:List V} {vs:List Value},aG K H (ps.map Pl.d) zs→Vals zs vs→v∈vs→∃ (p:Pl) (x:V),RelV x v∧Dat K H p.d x:=by
    intro ps
    induction ps with
    | nil=>intro zs vs d r m;rw [aL.mp d] at r;cases r;cases m
    | cons p ps ih=>
      intro zs vs d r m
      obtain ⟨x,xs,rfl,d1,d2⟩:=aF.mp d
      cases r with
      | cons r1 r2=>
        rcases List.mem_cons.mp m with rfl | m
        ·exact ⟨p,x,r1,d1⟩
        ·exact ih d2 r2 m
   obtain ⟨p,x,rx,dx⟩:=one d r (m v (List.mem_cons_self ..))
   refine ⟨x :: ws,.cons rx h1,?_⟩
   rw [List.map_cons,List.map_cons,Ai (CN ok dx rx)]
   exact aF.mpr ⟨x,ws,rfl,dx,h2⟩
theorem i9:Call3 X (.builtin "sorted") Fo:=by
 constructor
 intro pins s σ H M xs ds us Q I rm rs dx ⟨l,ps,e,hM,h64,q⟩
 subst e
 obtain ⟨v,rfl,hv⟩:=mS dx
 obtain rfl:=aK.mp hv
 obtain ⟨u,rfl,r1⟩:=vals1 rs
 obtain rfl:u=Value.ref l:=r1
 obtain ⟨zs,hH,hz⟩:=rm.lst hM
 obtain ⟨its,rv,pl,hsz⟩:=I.list (iD.of (K:=X.K) hH)
 have hl:its.length=ps.length:=by rw [Vals.len rv,← hz.length,List.length_map]
 refine sE pl.isList (i8 I.hok hz rv) (by omega) fun out qs hm eq hp hs=>?_
 obtain ⟨ws,w1,w2⟩:=t7 I.hok hz rv out hm
 rw [← eq] at w2
 obtain ⟨n,hn⟩:=sortedAll_at s.heap its out.toArray
 have fr:H (s.heap.objs.size+1)=none:=I.hok.fresh (Nat.le_succ _)
 have zw:ws.length≤sizeLine:=by
  rw [← w2.length,List.length_map,hp.length_eq,sizeLine_eq];omega
 refine ⟨.ref (s.heap.objs.size+1),upd H (s.heap.objs.size+1) (.lst ws),I.laid (t':=s.toks) (fun b o e=>sortedAll_old e) (Nat.le_succ _) ⟨zw,out,n,w1,hn⟩,rfl,.ref _,aA M _ (.lst (qs.map Pl.d)),Fr.new fr fun _ hb=>bC hb,aK.mpr rfl,rm.newL fr w2,q _ _ (rm.free fr) hp hs⟩
end
end L3
local macro_rules | `(tactic| walk_at "sm")=> `(tactic| first | assumption | exact L3.Sm.sign _ | exact L3.Sm.zero | exact L3.Sm.one | exact L3.Sm.two | ((with_reducible apply L3.Sm.mul) <;> walk_at "sm") | ((with_reducible apply L3.Sm.sub) <;> walk_at "sm") | ((with_reducible apply L3.Sm.add) <;> walk_at "sm") | ((with_reducible apply L3.Sm.neg) <;> walk_at "sm") | ((with_reducible apply L3.Sm.abs) <;> walk_at "sm") | ((with_reducible apply L3.Sm.emod);(first | omega | decide +kernel);walk_at "sm") | exact L3.Sm.lit _)
local macro_rules | `(tactic| walk_at "mulok")=> `(tactic| (apply L3.MulOk.of;walk_at "sm";walk_at "sm";first | omega | decide +kernel))
local macro_rules | `(tactic| walk_at "rd1")=> `(tactic| first | refine ⟨_,rfl,?_⟩ | refine ⟨_,_,rfl,rfl,?_⟩ | refine ⟨_,_,_,Or.inl rfl,rfl,rfl,?_⟩ | (refine ⟨?side,?_⟩;(case side=>first | walk_at "mulok" | (simp only [List.length_cons,List.length_nil];decide) | (show (0:Int) < _;first | omega | (dsimp only;omega) | decide +kernel) | (show (0:Int)≤_;first | omega | (dsimp only;omega)) | exact ⟨by decide +kernel,by decide +kernel,by decide +kernel⟩ | exact ⟨by decide +kernel,_,L3.Sm.lit _,by decide +kernel⟩ | (left;walk_at "mulok") | exact Or.inr (Or.inr ⟨by decide,by decide⟩) | decide)) | refine ⟨rfl,?_⟩ | refine ⟨trivial,?_⟩ | refine ⟨_,Or.inl rfl,rfl,?_⟩ | refine ⟨_,_,rfl,Or.inl rfl,?_⟩ | refine ⟨_,_,_,_,rfl,L3.Cz.int _,L3.bF,?_⟩ | refine ⟨_,_,_,_,rfl,L3.Cz.tup _,L3.bF,?_⟩ | refine ⟨_,_,_,_,rfl,L3.Cz.bl _,L3.bF,?_⟩ | refine ⟨_,_,rfl,?_⟩ | refine ⟨_,_,_,rfl,?_⟩ | refine ⟨_,_,_,_,rfl,?_⟩)
local macro_rules | `(tactic| walk_at "rd")=> `(tactic| repeat walk_at "rd1")
local macro_rules | `(tactic| walk_at "smle")=> `(tactic| (apply L3.Sm.le;walk_at "sm";first | omega | decide +kernel))
local macro_rules | `(tactic| walk_at "om")=> `(tactic| first | omega | (dsimp only;omega))
namespace L3
open PySem L2
theorem GZ {a b c:Pl} (ha:a.Ok 140) (hb:b.Ok 140) (hc:c.Ok 140):Sm 290 (tw a b c):=by
 obtain ⟨a1,a2⟩:=ha
 obtain ⟨b1,b2⟩:=hb
 obtain ⟨c1,c2⟩:=hc
 unfold tw
 walk_at "smle"
theorem qB {α:Type} {qs:List α} (h:qs.length=3):∃ u v w,qs= [u,v,w]:=by
 match qs,h with
 | [u,v,w],_=>exact ⟨u,v,w,rfl⟩
theorem CO {α:Type} {v w b c:α} (h: [v,w].Perm [b,c]):(v=b∧w=c)∨(v=c∧w=b):=by
 have m:v∈[b,c]:=h.mem_iff.mp (by simp)
 rcases List.mem_cons.mp m with rfl | m
 ·exact .inl ⟨rfl,by have:=(List.perm_cons v).mp h;simpa using this⟩
 ·have:=List.mem_singleton.mp m
  subst this
  have h2:=(List.perm_cons v).mp (h.trans (List.Perm.swap v b []))
  exact .inr ⟨rfl,by simpa using h2⟩
theorem CP {α:Type} {u v w a b c:α} (h: [u,v,w].Perm [a,b,c]):(u=a∧v=b∧w=c)∨(u=a∧v=c∧w=b)∨(u=b∧v=a∧w=c)∨(u=b∧v=c∧w=a)∨(u=c∧v=a∧w=b)∨(u=c∧v=b∧w=a):=by
 have m:u∈[a,b,c]:=h.mem_iff.mp (by simp)
 rcases List.mem_cons.mp m with rfl | m
 ·rcases CO ((List.perm_cons u).mp h) with ⟨e1,e2⟩ | ⟨e1,e2⟩
  ·exact .inl ⟨rfl,e1,e2⟩
  ·exact .inr (.inl ⟨rfl,e1,e2⟩)
 ·rcases List.mem_cons.mp m with rfl | m
  ·have h2:=(List.perm_cons u).mp (h.trans (List.Perm.swap u a [c]))
   rcases CO h2 with ⟨e1,e2⟩ | ⟨e1,e2⟩
   ·exact .inr (.inr (.inl ⟨rfl,e1,e2⟩))
   ·exact .inr (.inr (.inr (.inl ⟨rfl,e1,e2⟩)))
  ·have:=List.mem_singleton.mp m
   subst this
   have h2:=(List.perm_cons u).mp (h.trans ((List.Perm.cons a (List.Perm.swap u b [])).trans (List.Perm.swap u a [b])))
   rcases CO h2 with ⟨e1,e2⟩ | ⟨e1,e2⟩
   ·exact .inr (.inr (.inr (.inr (.inl ⟨rfl,e1,e2⟩))))
   ·exact .inr (.inr (.inr (.inr (.inr ⟨rfl,e1,e2⟩))))
theorem CQ {n:Nat} {u v w a b c:Pl} (h: [u,v,w].Perm [a,b,c]) (ha:a.Ok n) (hb:b.Ok n) (hc:c.Ok n):u.Ok n∧v.Ok n∧w.Ok n:=by
 rcases CP h with ⟨rfl,rfl,rfl⟩ | ⟨rfl,rfl,rfl⟩ | ⟨rfl,rfl,rfl⟩ | ⟨rfl,rfl,rfl⟩ | ⟨rfl,rfl,rfl⟩ | ⟨rfl,rfl,rfl⟩ <;> exact ⟨by assumption,by assumption,by assumption⟩
instance (p q r s:Pl):Decidable (Q2 p q r s):=inferInstanceAs (Decidable (_∨_))
theorem gH (i j:Int):(!di (.int i) (.int j))=decide (i≠j):=by
 rw [eB,Bool.eq_iff_iff]
 simp
theorem dO (qs:List Pl):(qs.map Pl.d).all (plain 9)=true:=by
 rw [List.all_map,List.all_eq_true]
 intro q _
 rfl
end L3
namespace L3
open PySem PySem.Spec PyProof.Rows L2
def cV (cells:List (Str ×Addr)) (names:List (Str ×NameKind)) (cs:List (Str ×Addr)):List (Str ×Addr):=
 names.foldl (fun cs y=>if (y.2 == NameKind.free)=true then (y.1,(cells.lookup y.1).getD 0) :: cs else cs) cs
theorem qC {α β:Type} {f:α→β→Sem (ForInStep β)} {g:β→α→β}:∀ {l:List α} {b:β},(∀ x∈l,∀ b,f x b=pure (.yield (g b x)))→forIn l b f=(pure (l.foldl g b):Sem β)
 | [],b,_=>rfl
 | x :: l,b,h=>by
   rw [List.forIn_cons,h x (List.mem_cons_self ..),pure_bind]
   exact qC fun y hy=>h y (List.mem_cons_of_mem _ hy)
theorem yJ {sc:Scope} {env:Env} (h:∀ y∈sc.names,y.2= .free→∃ c,env.cells.lookup y.1=some c):closureFor sc env=pure (cV env.cells sc.names []):=by
 unfold closureFor cV
 dsimp only
 rw [qC (g:=fun cs y=>if (y.2 == NameKind.free)=true then (y.1,(env.cells.lookup y.1).getD 0) :: cs else cs)]
 ·rfl
 ·rintro ⟨n,k⟩ hy b
  by_cases hk:k= .free
  ·subst hk
   obtain ⟨c,hc⟩:=h _ hy rfl
   have hc:env.cells.lookup n=some c:=hc
   simp [cellOf,hc]
  ·have hb:(k == NameKind.free)=false:=by simpa using hk
   simp [hb]
theorem oZ {cells:List (Str ×Addr)} {x:Str} {c:Addr}:∀ {names:List (Str ×NameKind)} {cs:List (Str ×Addr)},(∀ y∈names,y.2= .free→∃ c,cells.lookup y.1=some c)→(∀ x c,cs.lookup x=some c→cells.lookup x=some c)→
 (cV cells names cs).lookup x=some c→cells.lookup x=some c
 | [],cs,_,h,e=>h x c e
 | (n,k) :: r,cs,hf,h,e=>by
   refine oZ (names:=r) (cs:=if (k == NameKind.free)=true then (n,(cells.lookup n).getD 0) :: cs else cs) (fun y hy=>hf y (List.mem_cons_of_mem _ hy)) (fun x c q=>?_) e
   split at q
   ·rename_i hk
    rw [List.lookup_cons] at q
    split at q
    ·rename_i hx
     have hx:=eq_of_beq hx
     subst hx
     obtain ⟨c',hc⟩:=hf (x,k) (List.mem_cons_self ..) (eq_of_beq hk)
     have hc:cells.lookup x=some c':=hc
     rw [hc] at q
     rw [hc];exact q
    ·exact h x c q
   ·exact h x c q
theorem o4 {cells:List (Str ×Addr)} {x:Str}:∀ {names:List (Str ×NameKind)} {cs:List (Str ×Addr)},((cs.lookup x).isSome=true∨(x,NameKind.free)∈names)→((cV cells names cs).lookup x).isSome=true
 | [],cs,h=>by
   rcases h with h | h
   ·exact h
   ·cases h
 | (n,k) :: r,cs,h=>by
   refine o4 (names:=r) (cs:=if (k == NameKind.free)=true then (n,(cells.lookup n).getD 0) :: cs else cs) ?_
   rcases h with h | h
   ·left
    split
    ·rw [List.lookup_cons]
     split
     ·rfl
     ·exact h
    ·exact h
   ·rcases List.mem_cons.mp h with e | h
    ·left
     cases e
     simp [List.lookup_cons]
    ·exact .inr h
theorem mem_of_lookup {β:Type} {x:Str} {b:β}:∀ {l:List (Str ×β)},l.lookup x=some b→(x,b)∈l
 | [],h=>by cases h
 | (n,c) :: r,h=>by
   rw [List.lookup_cons] at h
   split at h
   ·rename_i hx
    cases h
    have:=eq_of_beq hx
    subst this
    exact List.mem_cons_self ..
   ·exact List.mem_cons_of_mem _ (mem_of_lookup h)
def cK (outer:Scope) (N:List Str) (sc:Scope) (x:Str) (ys:List Str) (fs:List Nat):Bool:=
 (sc.kind == .function) && (outer.kind == .function) && sc.names.all (fun y=>!(y.2 == .cell) && (!(y.2 == .local) || sc.names.lookup y.1 == some .local) && (!(y.2 == .free) || outer.names.lookup y.1 == some .cell)) && (sc.names.lookup x == some .local) &&
  decide (ys.length=fs.length) && (ys.zip fs).all (fun p=>N[p.2]? == some p.1 && sc.names.lookup p.1 == some .free) && decide (x :: ys).Nodup
structure qD (outer:Scope) (N:List Str) (sc:Scope) (x:Str) (ys:List Str) (fs:List Nat):Prop where
 kind:sc.kind= .function
 Lf:outer.kind= .function
 CS:∀ y∈sc.names,y.2≠ .cell
 names:∀ y∈sc.names,y.2= .local→sc.names.lookup y.1=some .local
 Mf:∀ y∈sc.names,y.2= .free→outer.names.lookup y.1=some .cell
 loc:sc.names.lookup x=some .local
 len:ys.length=fs.length
 at':∀ (k:Nat) y,ys[k]?=some y→∃ i,fs[k]?=some i∧N[i]?=some y∧sc.names.lookup y=some .free
 nd:(x :: ys).Nodup
theorem qD.of {outer:Scope} {N:List Str} {sc:Scope} {x:Str} {ys:List Str} {fs:List Nat} (h:cK outer N sc x ys fs=true):qD outer N sc x ys fs:=by
 unfold cK at h
 simp only [Bool.and_eq_true,List.all_eq_true,decide_eq_true_eq] at h
 obtain ⟨⟨⟨⟨⟨⟨h1,NY⟩,h2⟩,h3⟩,h4⟩,h5⟩,h6⟩:=h
 refine ⟨eq_of_beq h1,eq_of_beq NY,fun y hy z=>?_,fun y hy z=>?_,fun y hy z=>?_,eq_of_beq h3,h4,fun k y e=>?_,h6⟩
 ·have:=(h2 y hy).1.1
  rw [z] at this
  simp at this
 ·have:=(h2 y hy).1.2
  rw [z] at this
  simpa using this
 ·have:=(h2 y hy).2
  rw [z] at this
  simpa using this
 ·have hk:k < fs.length:=by rw [← h4];exact (List.getElem?_eq_some_iff.mp e).1
  have ez:(ys.zip fs)[k]?=some (y,fs[k]):=by
   rw [List.getElem?_zip_eq_some]
   exact ⟨e,List.getElem?_eq_getElem hk⟩
  obtain ⟨q1,q2⟩:=h5 _ (List.mem_of_getElem? ez)
  exact ⟨fs[k],List.getElem?_eq_getElem hk,eq_of_beq q1,eq_of_beq q2⟩
theorem mX {env:Env} {y:Str} (hk:env.scope.kind= .function) (hc:env.scope.names.lookup y=some .cell):∀ {names:List (Str ×NameKind)},names.lookup y=some .free→
 (names.map fun (n,k)=>if (k == NameKind.free && env.scope.kind == .function && env.kindOf n == some .cell) then (n,NameKind.cell) else (n,k)).lookup y=some .cell
 | [],h=>by cases h
 | (n,k) :: r,h=>by
   rw [List.lookup_cons] at h
   split at h
   ·rename_i hx
    cases h
    have:=eq_of_beq hx
    subst this
    have hc:env.kindOf y=some .cell:=hc
    simp [hk,hc,List.lookup_cons]
   ·rename_i hx
    have ih:=mX hk hc h
    simp only [List.map_cons]
    split
    ·rw [List.lookup_cons,hx];exact ih
    ·rw [List.lookup_cons,hx];exact ih
abbrev t8 (X:Cx) (sc:Scope) (x:Str) (ys:List Str) (cl:List (Str ×Addr)) (C:Addr) (s0:Shared) (H0:Hp) (ex:List Addr):Cx:=
 { X with N:=x :: ys,s₀:=s0,H₀:=H0,env:=compEnvC sc cl C X.env,outer:=X.stack,ex:=ex,fn:=fun _=>false,pn:=[],xe:=fun _ _=>False }
structure JU (X:Cx) (ifs:List Expr) (t:lZ):Prop where
 run:∀ (pins:List (Addr ×Obj)) (s:Shared) (σ:St) (H:Hp) (ρ:En) (M:Mp) (Q:Bool→Mp→Prop),Inv X pins σ H s→Rep X.K H σ ρ M→t ρ M Q→
  wpAny (model X.prog X.w) X.A (forIn ifs true fun c r=>if r=true then do { let ok ← isTrue c X.env (eval c X.env);pure (ForInStep.yield ok) } else pure (ForInStep.yield r)) (TP X pins σ (oW X.K M H Q)) X.xe s
def NZ:lZ:=fun _ M Q=>Q true M
theorem qE {X:Cx}:JU X [] NZ:=⟨fun pins s σ H ρ M Q I r q=>wpAny_tests_nil ⟨H,I,M,.refl _ _,r.mem,q⟩⟩
theorem CT {X:Cx} {c:Expr} {t:lZ} (h:yq X c t):JU X [c] t:=⟨fun pins s σ H ρ M Q I r q=>wpAny_tests_one (h.run pins s σ H ρ M Q I r q)⟩
def mY (gd:Mp→Prop) (tt:lZ) (te:cY) (fr:En) (Q:List D→Mp→Prop):List D→List D→Mp→Prop
 | [],acc,M=>gd M∧Q acc M
 | d :: ds,acc,M=>gd M∧tt (some d :: fr) M fun b M1=>if b=true then te (some d :: fr) M1 fun y M2=>mY gd tt te fr Q ds (acc ++ [y]) M2 else mY gd tt te fr Q ds acc M1
def mZ (fs:List Nat) (ρ:En):En:=fs.map fun i=>(ρ[i]?).join
section
variable {X:Cx} {sc:Scope} {x:Str} {ys:List Str} {fs:List Nat}
theorem CU {fs:List Nat} {ρ:En} {k:Nat} {d:D} (h:(mZ fs ρ)[k]?=some (some d)):∃ i,fs[k]?=some i∧ρ[i]?=some (some d):=by
 unfold mZ at h
 rw [List.getElem?_map] at h
 cases e:fs[k]? with
 | none=>rw [e] at h;cases h
 | some i=>
   rw [e] at h
   refine ⟨i,rfl,?_⟩
   have h:(ρ[i]?).join=some d:=Option.some.inj h
   cases q:ρ[i]? with
   | none=>rw [q] at h;cases h
   | some o=>rw [q] at h;rw [show o=some d from h]
theorem Bc {pins:List (Addr ×Obj)} {σ:St} {H:Hp} {s s':Shared} {C:Addr} {fp:List Addr} {cl:List (Str ×Addr)} {ρ:En} {M:Mp} (ck:qD X.env.scope X.N sc x ys fs) (I:Inv X pins σ H s) (r:Rep X.K H σ ρ M) (hcl:cl=cV X.env.cells sc.names [])
 (hC:s.heap.objs.size≤C) (old:∀ b o,s.heap.get? b=some o→s'.heap.get? b=some o) (ns:∃ m,s'.heap.Ns C m) (hos:s'.os=s.os) (hg:s'.gens=s.gens) (hf:∀ b∈fp,j4 X pins H b) (hfp:∀ b∈fp,b < s.heap.objs.size) :
 ∃ σ',Inv (t8 X sc x ys cl C s H fp) [] σ' H s'∧Rep X.K H σ' (none :: mZ fs ρ) M:=by
 have CV:∀ y∈sc.names,y.2= .free→∃ c,X.env.cells.lookup y.1=some c:=fun y hy hk=>I.ok.has y.1 (.inl (ck.Mf y hy hk))
 have cf:∀ {y c},cl.lookup y=some c→X.env.cells.lookup y=some c:=fun {y c} e=>by rw [hcl] at e;exact oZ CV (fun _ _ z=>by cases z) e
 have ch:∀ y,sc.names.lookup y=some .free→∃ c,cl.lookup y=some c:=fun y e=>by rw [hcl];exact Option.isSome_iff_exists.mp (o4 (.inr (mem_of_lookup e)))
 have rk:∀ y k,(relabel sc X.env).names.lookup y=some k→(k= .cell∨k= .free)→∃ c,cl.lookup y=some c:=by
  intro y k e hk
  have:∃ k',sc.names.lookup y=some k'∧(k'=k∨k'= .free):=by
   clear ck CV cf ch
   revert e
   show (sc.names.map _).lookup y=some k→_
   generalize sc.names=names
   intro e
   induction names with
   | nil=>cases e
   | cons p r ih=>
     obtain ⟨n,kn⟩:=p
     simp only [List.map_cons] at e
     rw [List.lookup_cons]
     split
     ·rename_i hx
      split at e
      ·rename_i hc
       refine ⟨kn,rfl,.inr ?_⟩
       simp only [Bool.and_eq_true] at hc
       exact eq_of_beq hc.1.1
      ·rw [List.lookup_cons,hx] at e
       exact ⟨kn,rfl,.inl (Option.some.inj e)⟩
     ·rename_i hx
      split at e <;> (rw [List.lookup_cons,hx] at e;exact ih e)
  obtain ⟨k',e',hk'⟩:=this
  rcases hk' with rfl | rfl
  ·rcases hk with rfl | rfl
   ·exact absurd rfl (ck.CS _ (mem_of_lookup e'))
   ·exact ch y e'
  ·exact ch y e'
 have lfp:∀ b∈fp,b≠C:=fun b hb z=>absurd (Nat.lt_of_lt_of_le (hfp b hb) hC) (by rw [z];exact Nat.lt_irrefl _)
 have ok:(t8 X sc x ys cl C s H fp).Ok:={
  mod:=I.ok.mod
  kind:=ck.kind
  glob:=I.ok.glob
  blt:=I.ok.blt
  above:=hC
  inj:=fun a b c e1 e2=>I.ok.inj a b c (cf e1) (cf e2)
  has:=fun y hy=>by
   rcases hy with hy | hy
   ·exact rk y _ hy (.inl rfl)
   ·exact rk y _ hy (.inr rfl)
  JQ:=fun _ _ z=>by cases z
  hd:=I.ok.hd
  frames:=I.ok.frames
  stk:= .inl rfl
  J2:=fun b hb=>⟨lfp b hb,fun y c e=>(hf b hb).2.2.2.2.1 y c (cf e)⟩
  bs:=I.bs
  GJ:=Nat.le_trans I.ok.GJ I.sz
  AS:=fun b o e hb=>by
   rcases (hf b hb).2.2.2.1 with z | z
   ·exact I.ok.AS b o e z
   ·exact absurd (Nat.lt_of_lt_of_le (Heap.lt_size (I.ok.bs b o e).1) z) (Nat.lt_irrefl _)
  AU:=fun b hb z=>by
   rcases List.mem_cons.mp (I.yz b z) with e | e
   ·exact (hf b hb).2.1 e
   ·exact (hf b hb).2.2.1 e
  pC:=I.stack
  Hw:=I.zM }
 have fC:H C=none:=I.hok.fresh hC
 obtain ⟨m,hm⟩:=ns
 refine ⟨none :: fs.map (fun i=>(σ[i]?).join),⟨ok,hos,by rw [hg];exact I.bare,Un.kept old,⟨m,hm,fun i y v e1 e2 e3=>?_⟩,fun y c e=>?_,fC,fun y c e=>I.lF y c (cf e),fun p hp=>(by cases hp),I.hok.kept old,by simp [ck.len]⟩,⟨fun i d e=>?_,?_,r.mem⟩⟩
 ·cases i with
  | zero=>cases e2
  | succ i=>
    have e1:ys[i]?=some y:=e1
    obtain ⟨j,f1,f2,f3⟩:=ck.at' i y e1
    have e2:(fs.map fun i=>(σ[i]?).join)[i]?=some (some v):=e2
    rw [List.getElem?_map,f1] at e2
    have e2:(σ[j]?).join=some v:=Option.some.inj e2
    have e4:σ[j]?=some (some v):=by
     cases q:σ[j]? with
     | none=>rw [q] at e2;cases e2
     | some o=>rw [q] at e2;rw [show o=some v from e2]
    have hc:X.env.scope.names.lookup y=some .cell:=ck.Mf (y,.free) (mem_of_lookup f3) rfl
    obtain ⟨m0,_,hl⟩:=I.loc
    obtain ⟨u,ru,lk⟩:=hl j y v f2 e4 (.inr (.inl hc))
    refine ⟨u,ru,?_⟩
    rcases lk with ⟨k1,_⟩ | ⟨_,c,e5,e6⟩
    ·have k1:X.env.scope.names.lookup y=some .local:=k1
     rw [hc] at k1;cases k1
    ·obtain ⟨c',e7⟩:=ch y f3
     have:=cf e7
     rw [e5] at this
     cases this
     refine .inr ⟨.inl (mX I.ok.kind hc f3),c,e7,?_⟩
     obtain ⟨o,ho,hd⟩:=e6
     exact ⟨o,old _ _ ho,hd⟩
 ·obtain ⟨v,o,ho,hd⟩:=I.cell y c (cf e)
  exact ⟨v,o,old _ _ ho,hd⟩
 ·cases i with
  | zero=>cases e
  | succ i=>
    obtain ⟨j,f1,f2⟩:=CU (show (mZ fs ρ)[i]?=some (some d) from e)
    obtain ⟨v,g1,g2⟩:=r.env j d f2
    refine ⟨v,?_,g2⟩
    show (fs.map fun i=>(σ[i]?).join)[i]?=some (some v)
    rw [List.getElem?_map,f1]
    show some ((σ[j]?).join)=_
    rw [g1];rfl
 ·simp [mZ]
end
end L3
namespace L3
open PySem PySem.Spec PyProof.Rows L2
section
variable {X:Cx} {sc:Scope} {x:Str} {ys:List Str} {fs:List Nat} {elt iter:Expr} {px pos:Pos} {ifs:List Expr} {tt:lZ} {te:cY}
theorem yK {α:Type} {t:Sem α} {Q Q':α→Shared→Prop} {M:Model} {A:Around} {E:Value→Shared→Prop} {s:Shared} (h:wpAny M A t Q (fun _ _=>False) s) (hQ:∀ a s,Q a s→Q' a s):wpAny M A t Q' E s:=wpAny_mono h hQ fun _ _ z=>z.elim
theorem wR (elt target iter:Expr) (ifs:List Expr) (sc:Scope) (pos:Pos) (it acc:Value) (env:Env):compTurn (.ListComp elt [⟨target,iter,ifs,0⟩] sc pos) 0 it acc env=(standAt iter.pos >>= fun _=>pyNext it >>= fun r=>match r with
 | none=>pure (.done .next)
 | some v=>letOwnedTupleGo target it v >>= fun _=>assign target env v >>= fun _=>(forIn ifs true fun c r=>if r=true then do { let ok ← isTrue c env (eval c env);pure (ForInStep.yield ok) } else pure (ForInStep.yield r)) >>= fun ok=>
   if ok=true then (eval elt env >>= fun y=>call (.builtin "list.append") [acc,y] >>= fun _=>again (.compLoop (.ListComp elt [⟨target,iter,ifs,0⟩] sc pos) 0 it acc env)) else again (.compLoop (.ListComp elt [⟨target,iter,ifs,0⟩] sc pos) 0 it acc env)):=by
 rw [compTurn_list]
 congr 1;funext _;congr 1;funext r
 cases r with
 | none=>rfl
 | some v=>
   dsimp only
   congr 1;funext _;congr 1;funext _;congr 1;funext ok
   cases ok with
   | false=>rfl
   | true=>simp only [if_true,bind_assoc,pure_bind]
structure N1 (X X':Cx) (Dl:Addr) (fp:List Addr) (tn:Nat→Heap→Prop) (M0:Mp) (H0:Hp) (fr:En) (i:Nat) (s:Shared) (acc:List D) (M:Mp):Prop where
 ex:∃ σ H y ws,Inv X' [] σ H s∧tn i s.heap∧(∀ b∈fp,H b=none)∧Rep X.K H σ (y :: fr) M∧Fr M0 H0 M H∧H Dl=some (.lst ws)∧M Dl=none∧aG X.K H acc ws∧acc.length≤i
theorem Fp (hc:X.calm=true) (ck:qD X.env.scope X.N sc x ys fs) (ht:∀ cl C s0 H0 ex,JU (t8 X sc x ys cl C s0 H0 ex) ifs tt) (he:∀ cl C s0 H0 ex,cM (t8 X sc x ys cl C s0 H0 ex) elt te)
 {pins:List (Addr ×Obj)} {σ:St} {H:Hp} {s:Shared} {ρ:En} {M:Mp} {it:Addr} {fp:List Addr} {tn:Nat→Heap→Prop} {J:It} {inv:Hp→Prop} {ds:List D} {gd:Mp→Prop} {Q:DK} {E:Value→Shared→Prop} {Ma:Mp} {Ha:Hp} {use:Option (Value→Sem Unit)} {Qs:Value→Shared→Prop} (fa:Fr Ma Ha M H)
 (fin:∀ (C Dl:Addr) (s6:Shared) (H5:Hp),Inv X pins σ H5 s6→(∃ m,s6.heap.Ns C m)→j4 X pins H5 C→Post X.K Ma Ha Q (.ref Dl) H5→compPost (model X.prog X.w) X.A E use Qs (.ref Dl) C (.ok .next) s6)
 (I:Inv X pins σ H s) (r:Rep X.K H σ ρ M) (T:Turn X.prog X.w X.K (.Name x px) J fp it tn) (st:tn 0 s.heap) (hf:∀ b∈fp,j4 X pins H b) (hJ:CA X.K J inv ds) (hz:ds.length < sizeLine)
 (stay:∀ M1 H1,Fr M H M1 H1→b9 X.K H1 M1→gd M1→inv H1) (q:mY gd tt te (mZ fs ρ) (fun zs M2=> ∀ p,M2 p=none→Q (.ref p) (aA M2 p (.lst zs))) ds [] M) :
 wpAny (model X.prog X.w) X.A (newList []) (fun acc s3=>wpAny (model X.prog X.w) X.A (newFunctionEnv sc X.env.globals (cV X.env.cells sc.names []) [] X.env.qual none .none (some X.env)) (fun cenv s4=>
  codeAny (model X.prog X.w) X.A (.compStart (.ListComp elt [⟨.Name x px,iter,ifs,0⟩] sc pos) 0 (.ref it) acc { cenv with scope:=relabel sc X.env }) (compPost (model X.prog X.w) X.A E use Qs acc cenv.locals) s4) E s3) E s:=by
 have hfp:∀ b∈fp,b < s.heap.objs.size:=fun b hb=>by
  obtain ⟨o,e,_⟩:=T.obj 0 _ st b hb
  exact Heap.lt_size e
 refine wpAny_newList (hsz:=Nat.zero_le _) ?_
 have fD:H s.heap.objs.size=none:=I.hok.fresh (Nat.le_refl _)
 have k1:∀ b o,s.heap.get? b=some o→(s.heap.push { cls:= .type "list",data:= .seq ([]:List Value).toArray }).get? b=some o:=fun b o e=>Heap.get?_push_of_some _ e
 have z3:(s.heap.push { cls:= .type "list",data:= .seq ([]:List Value).toArray }).objs.size=s.heap.objs.size+1:=Heap.size_push ..
 have I3:Inv X pins σ (upd H s.heap.objs.size (.lst [])) { s with heap:=s.heap.push { cls:= .type "list",data:= .seq ([]:List Value).toArray } }:=
  I.laid (t':=s.toks) k1 (Nat.le_refl _) ⟨Nat.zero_le _,[],0,.nil,Heap.get?_push_size _ rfl⟩
 refine wpAny_newFunctionEnv ck.CS (fun y hy=>by cases hy) (fun h1 PB Lg=>?_) ck.kind
 generalize PC:({ s with heap:=s.heap.push { cls:= .type "list",data:= .seq ([]:List Value).toArray } }:Shared)=s3 at I3 PB Lg ⊢
 have Q7:s3.heap.objs.size=s.heap.objs.size+1:=by rw [← PC];exact z3
 have old:∀ b o,s3.heap.get? b=some o→h1.get? b=some o:=fun b o e=>Lg.extBut b o (Nat.ne_of_lt (Heap.lt_size e)) (Heap.get?_push_of_some _ e)
 have PD:∀ b∈fp,j4 X pins (upd H s.heap.objs.size (.lst [])) b:=fun b hb=>⟨by rw [aW (Nat.ne_of_lt (hfp b hb))];exact (hf b hb).1,(hf b hb).2⟩
 have PF:Fr M H M (upd H s.heap.objs.size (.lst [])):=Fr.new fD fun _ _=>rfl
 have r3:Rep X.K (upd H s.heap.objs.size (.lst [])) σ ρ M:=r.go PF (r.mem.new fD)
 obtain ⟨σ',I4,r4⟩:=Bc (s:=s3) (s':={ s3 with heap:=h1,toks:=s3.toks+([]:List (Str ×Value)).length }) (C:=s3.heap.objs.size) (fp:=fp) ck I3 r3 rfl (Nat.le_refl _) old ⟨_,PB⟩ rfl rfl PD (fun b hb=>by rw [Q7];exact Nat.lt_succ_of_lt (hfp b hb))
 have MD:M s.heap.objs.size=none:=r.mem.free fD
 have PJ:tn 0 h1:=T.keep 0 _ _ st fun b hb o e=>old b o (by rw [← PC];exact k1 b o e)
 have N3:∀ {H':Hp},(∀ b∈fp,H' b=none)→∀ b∈fp,j4 (t8 X sc x ys (cV X.env.cells sc.names []) s3.heap.objs.size s3 (upd H s.heap.objs.size (.lst [])) fp) [] H' b:=fun {H'} hn b hb=>
  ⟨hn b hb,(I4.ok.J2 b hb).1,I4.ok.AU b hb,.inl hb,fun y c e z=>(I4.ok.J2 b hb).2 y c e z,fun p hp=>by cases hp⟩
 have loop:∀ s4:Shared,s4= { s3 with heap:=h1,toks:=s3.toks+([]:List (Str ×Value)).length }→
  codeAny (model X.prog X.w) X.A (.compLoop (.ListComp elt [⟨.Name x px,iter,ifs,0⟩] sc pos) 0 (.ref it) (.ref s.heap.objs.size) ((t8 X sc x ys (cV X.env.cells sc.names []) s3.heap.objs.size s3 (upd H s.heap.objs.size (.lst [])) fp)).env) (compPost (model X.prog X.w) X.A E use Qs (.ref s.heap.objs.size) s3.heap.objs.size) s4:=by
  rintro s4 rfl
  refine codeAny_loop rfl (I:=fun n s'=> ∃ i acc M',n=ds.length - i∧i≤ds.length∧N1 X (t8 X sc x ys (cV X.env.cells sc.names []) s3.heap.objs.size s3 (upd H s.heap.objs.size (.lst [])) fp) s.heap.objs.size fp tn M H (mZ fs ρ) i s' acc M'∧mY gd tt te (mZ fs ρ) (fun zs M2=> ∀ p,M2 p=none→Q (.ref p) (aA M2 p (.lst zs))) (ds.drop i) acc M')
   (fun n s5 hI=>?_) ds.length ⟨0,[],M,rfl,Nat.zero_le _,⟨σ',_,none,[],I4,PJ,fun b hb=>(PD b hb).1,r4,PF,dZ,MD,aL.mpr rfl,Nat.le_refl _⟩,q⟩
  obtain ⟨i,acc,M5,rfl,hi,⟨σ5,H5,y5,ws,I5,JR,f5,r5,EM,PK,PL,PM,Te⟩,q5⟩:=hI
  show wpAny (model X.prog X.w) X.A ((compTurn (.ListComp elt [⟨.Name x px,iter,ifs,0⟩] sc pos) 0 (.ref it) (.ref s.heap.objs.size) ((t8 X sc x ys (cV X.env.cells sc.names []) s3.heap.objs.size s3 (upd H s.heap.objs.size (.lst [])) fp)).env).onRaise (fun z=>do { noteFrame z ((t8 X sc x ys (cV X.env.cells sc.names []) s3.heap.objs.size s3 (upd H s.heap.objs.size (.lst [])) fp)).env;theTreesLotGoes z })) _ _ s5
  refine wpAny_noted ?_
  rw [wR]
  refine wpAny_bind (wpAny_standAt ?_)
  by_cases hlt:i < ds.length
  ·have hdr:ds.drop i=ds[i] :: ds.drop (i+1):=List.drop_eq_getElem_cons hlt
   rw [hdr] at q5
   obtain ⟨hg,q5⟩:=q5
   have hinv:=stay M5 H5 EM r5.mem hg
   refine wpAny_bind (yK (T.item (t8 X sc x ys (cV X.env.cells sc.names []) s3.heap.objs.size s3 (upd H s.heap.objs.size (.lst [])) fp) rfl rfl rfl hc i [] s5 σ5 H5 (fun _ _=>False) I5 (N3 f5) JR (hJ.go i H5 hlt hinv)) fun r6 s6 ⟨u,e6,h6⟩=>?_)
   subst e6
   refine wpAny_bind (yK h6 fun _ s7 ⟨v,H7,I7,rv,yl,N4,f7⟩=>?_)
   obtain ⟨e7,d,hd1,hd2⟩:=hJ.EL i H5 v H7 hlt hinv yl
   subst e7
   have ed:d=ds[i]:=Option.some.inj (hd1.symm.trans (List.getElem?_eq_getElem hlt))
   subst ed
   have Q8:=I7.pinned (N3 f7) (T.obj _ _ N4)
   have lx:(relabel sc X.env).names.lookup x=some .local:=lookup_relabel_local ck.loc
   refine wpAny_bind (yK ((cT (X:=(t8 X sc x ys (cV X.env.cells sc.names []) s3.heap.objs.size s3 (upd H s.heap.objs.size (.lst [])) fp)) (i:=0) (x:=x) (pos:=px) ck.nd rfl (.inl lx) (.inr lx)).run _ s7 σ5 H7 (y5 :: mZ fs ρ) M5 v ds[i] u (fun ρ' M'=>ρ'=some ds[i] :: mZ fs ρ∧M'=M5) Q8 r5 rv hd2 ⟨rfl,rfl⟩) fun _ s8 ⟨σ8,H8,I8,ρ8,M8,N5,r8,e8,Q9⟩=>?_)
   subst e8 Q9
   obtain ⟨Ra,Rb⟩:=N5 _ _ PL PK
   refine wpAny_bind (yK ((ht _ _ _ _ _).run _ s8 σ8 H8 _ M8 _ I8 r8 q5) fun b s9 ⟨H9,I9,M9,Mg,Rc,q9⟩=>?_)
   obtain ⟨PN,PR⟩:=Mg _ _ Rb Ra
   have r9:=r8.go Mg Rc
   have Lh:=(EM.trans N5).trans Mg
   have PU:aG X.K H9 acc ws:=aG.mono ((N5.trans Mg).ext r5.mem) _ _ PM
   have next:∀ {H':Hp} {s':Shared},Inv (t8 X sc x ys (cV X.env.cells sc.names []) s3.heap.objs.size s3 (upd H s.heap.objs.size (.lst [])) fp) ([] ++ qm fp s7.heap) σ8 H' s'→(tn (i+1) s'.heap∧∀ b∈fp,H' b=none):=fun {H' s'} I'=>by
    have pin:∀ b∈fp,∀ o,s7.heap.get? b=some o→s'.heap.get? b=some o∧H' b=none:=fun b hb o e=>by
     have:=I'.pin (b,o) (List.mem_append_right _ (List.mem_append_right _ (lX hb e)))
     exact ⟨this.1,this.2.1⟩
    refine ⟨T.keep _ _ _ N4 fun b hb o e=>(pin b hb o e).1,fun b hb=>?_⟩
    obtain ⟨o,e,_⟩:=T.obj _ _ N4 b hb
    exact (pin b hb o e).2
   cases b with
   | false=>
     rw [if_neg Bool.false_ne_true]
     obtain ⟨n1,n2⟩:=next I9
     exact wpAny_pure ⟨rfl,ds.length - (i+1),by omega,i+1,acc,M9,rfl,hlt,⟨σ8,H9,_,ws,I9.kg,n1,n2,r9,Lh,PN,PR,PU,by omega⟩,q9⟩
   | true=>
     rw [if_pos rfl]
     refine wpAny_bind (yK ((he _ _ _ _ _).run _ s9 σ8 H9 _ M9 _ I9 r9 q9) fun Rf Rg ⟨v10,G0,Rh,N6,dy,EA,Fq,N7,Li,N8⟩=>?_)
     obtain ⟨Lj,Lk⟩:=Fq _ _ PR PN
     have PV:=r9.go Fq Li
     have Ll:aG X.K G0 acc ws:=aG.mono (Fq.ext r9.mem) _ _ PU
     have lw:ws.length < sizeLine:=by rw [← Ll.length];omega
     refine wpAny_bind (yK (kZ (X:=(t8 X sc x ys (cV X.env.cells sc.names []) s3.heap.objs.size s3 (upd H s.heap.objs.size (.lst [])) fp)) _ Rg σ8 G0 (.ref s.heap.objs.size) [v10] (.ref s.heap.objs.size) [Rf] (fun _ H'=>H'=upd G0 s.heap.objs.size (.lst (ws ++ [v10]))) Rh rfl (.cons N6 .nil) ⟨_,ws,v10,rfl,rfl,Lj,lw,rfl⟩) fun _ Tf ⟨_,Tg,PX,_,Ri⟩=>?_)
     subst Ri
     have ex:Ext G0 (upd G0 s.heap.objs.size (.lst (ws ++ [v10]))):=Ext.ko Lj
     have N9:b9 X.K (upd G0 s.heap.objs.size (.lst (ws ++ [v10]))) EA:=fun a o e=>by
      have na:a≠s.heap.objs.size:=fun z=>by rw [z,Lk] at e;cases e
      exact (Li a o e).mono ex fun u q=>by rw [aW na];exact q
     have Rj:Rep X.K (upd G0 s.heap.objs.size (.lst (ws ++ [v10]))) σ8 (some ds[i] :: mZ fs ρ) EA:=⟨fun j d e=>let ⟨v,e1,e2⟩:=PV.env j d e;⟨v,e1,Dat.mono ex _ _ e2⟩,PV.len,N9⟩
     have Oa:Fr M H EA (upd G0 s.heap.objs.size (.lst (ws ++ [v10]))):=fun b o n e=>by
      obtain ⟨e1,n1⟩:=(Lh.trans Fq) b o n e
      exact ⟨by rw [aW (bR e fD)];exact e1,n1⟩
     obtain ⟨n1,n2⟩:=next PX
     exact wpAny_pure ⟨rfl,ds.length - (i+1),by omega,i+1,acc ++ [dy],EA,rfl,hlt,⟨σ8,_,_,ws ++ [v10],PX.kg,n1,n2,Rj,Oa,dZ,Lk,aG.mono ex _ _ (Ll.append (aG.one N7)),by simp;omega⟩,N8⟩
  ·have ei:i=ds.length:=by omega
   subst ei
   rw [List.drop_of_length_le (Nat.le_refl _)] at q5
   obtain ⟨hg,q5⟩:=q5
   have hinv:=stay M5 H5 EM r5.mem hg
   refine wpAny_bind (yK (T.done (t8 X sc x ys (cV X.env.cells sc.names []) s3.heap.objs.size s3 (upd H s.heap.objs.size (.lst [])) fp) rfl rfl rfl hc ds.length [] s5 σ5 H5 (fun _ _=>False) I5 (N3 f5) JR (hJ.stop H5 hinv)) fun r6 s6 ⟨e6,I6⟩=>?_)
   subst e6
   refine wpAny_pure ?_
   obtain ⟨m,hm,_⟩:=id I6.loc
   have I7:Inv X pins σ H5 s6:=I3.J5 (s':=s6) (ch:=fp) I6.os I6.base I6.hok I6.bare fun b hb=>⟨(hf b hb).2.2.2.1,(hf b hb).2.1,(hf b hb).2.2.2.2.1,(hf b hb).2.2.2.2.2⟩
   refine fin _ _ s6 H5 I7 ⟨m,hm⟩ (I3.Cc (Nat.le_refl _) I6.free) (Post.back fa ⟨.ref s.heap.objs.size,aA M5 s.heap.objs.size (.lst acc),fun b o n e=>?_,aK.mpr rfl,fun a o e=>?_,q5 _ PL⟩)
   ·obtain ⟨e1,n1⟩:=EM b o n e
    exact ⟨e1,by rw [bC (bR e fD)];exact n1⟩
   ·by_cases ha:a=s.heap.objs.size
    ·subst ha
     rw [ah] at e
     cases e
     exact ⟨ws,PK,PM⟩
    ·rw [bC ha] at e
     exact r5.mem a o e
 exact codeAny_compStart_list (loop _ rfl) (T.self X.A 0 _ _ _ PJ (loop _ rfl))
end
end L3
namespace L3
open PySem PySem.Spec PyProof.Rows L2
section
variable {X:Cx} {sc:Scope} {x:Str} {ys:List Str} {fs:List Nat} {elt iter:Expr} {px pos:Pos} {ifs:List Expr} {tt:lZ} {te:cY} {ti:cY}
def Ob (Q:DK):List D→Mp→Prop:=fun zs M2=> ∀ p,M2 p=none→Q (.ref p) (aA M2 p (.lst zs))
def Oc (fs:List Nat) (ti:cY) (tt:lZ) (te:cY):cY:=fun ρ M Q=>ti ρ M fun d M1=> ∃ a xs,d= .ref a∧M1 a=some (.lst xs)∧xs.length < sizeLine∧bf (mY (fun M=>M a=some (.lst xs)) tt te (mZ fs ρ) (Ob Q) xs [] M1)
def Od (fs:List Nat) (t:sj) (tt:lZ) (te:cY):cY:=fun ρ M Q=>t ρ M fun vs M1=> ∃ j:Int,vs= [.int j]∧ -(2 ^ 62)≤j∧j < 2 ^ 62∧j.toNat < sizeLine∧bf (mY (fun _=>True) tt te (mZ fs ρ) (Ob Q) ((List.range j.toNat).map fun (k:Nat)=>L3.D.int (k:Int)) [] M1)
def Rk (X:Cx) (fs:List Nat) (tt:lZ) (te:cY) (σ:St) (ρ:En) (M:Mp) (H:Hp) (Q:DK):It→Hp→Prop:=fun J H2=> ∃ M2 inv ds gd,Fr M H M2 H2∧Rep X.K H2 σ ρ M2∧CA X.K J inv ds∧ds.length < sizeLine∧(∀ M1 H1,Fr M2 H2 M1 H1→b9 X.K H1 M1→gd M1→inv H1)∧mY gd tt te (mZ fs ρ) (Ob Q) ds [] M2
theorem Ft {pins:List (Addr ×Obj)} {σ:St} {M:Mp} {H:Hp} {Q:DK} {E:Value→Shared→Prop}:∀ (C Dl:Addr) (s6:Shared) (H5:Hp),Inv X pins σ H5 s6→(∃ m,s6.heap.Ns C m)→j4 X pins H5 C→Post X.K M H Q (.ref Dl) H5→
 compPost (model X.prog X.w) X.A E none (EP X pins σ (Post X.K M H Q)) (.ref Dl) C (.ok .next) s6:=fun C Dl s6 H5 I ⟨m,hm⟩ f P=>
 ⟨m,hm,fun h' sb=>⟨.ref Dl,H5,I.turned (t':=s6.toks) (fun b o hb e=>sb.extBut b o hb e) f.1 f.2.1 f.2.2.2.1 f.2.2.2.2.1 f.2.2.2.2.2,rfl,P⟩⟩
theorem G1 {use:Option (Value→Sem Unit)} {Qs:Value→Shared→Prop} {ps:Pos} (hc:X.calm=true) (hk:cK X.env.scope X.N sc x ys fs=true) (ht:∀ cl C s0 H0 ex,JU (t8 X sc x ys cl C s0 H0 ex) ifs tt) (he:∀ cl C s0 H0 ex,cM (t8 X sc x ys cl C s0 H0 ex) elt te)
 (hs:∀ z,foldedSetIterable iter X.env z=pure z) {pins:List (Addr ×Obj)} {s:Shared} {σ:St} {H:Hp} {ρ:En} {M:Mp} {Q:DK} (I:Inv X pins σ H s)
 (fin:∀ (C Dl:Addr) (s6:Shared) (H5:Hp),Inv X pins σ H5 s6→(∃ m,s6.heap.Ns C m)→j4 X pins H5 C→Post X.K M H Q (.ref Dl) H5→compPost (model X.prog X.w) X.A X.xe use Qs (.ref Dl) C (.ok .next) s6)
 (h:wpAny (model X.prog X.w) X.A (eval iter X.env) (fun v s1=>wpAny (model X.prog X.w) X.A (pyIter v) (MW X pins σ (.Name x px) (Rk X fs tt te σ ρ M H Q)) X.xe s1) X.xe s) :
 wpAny (model X.prog X.w) X.A (comprehension (.ListComp elt [⟨.Name x px,iter,ifs,0⟩] sc pos) sc X.env ps (newList []) false (eval iter X.env) use) Qs X.xe s:=by
 have ck:=qD.of hk
 refine wpAny_comprehension_free (use:=use) (cl:=cV X.env.cells sc.names []) rfl hs (yJ fun y hy z=>I.ok.has y.1 (.inl (ck.Mf y hy z))) ck.kind ck.names (dc h fun v s1 h1=>dc h1 fun itv s2 h2=>?_)
 obtain ⟨it,fp,tn,J,H2,e,I2,T,st2,f2,M2,inv,ds,gd,fr,r2,hJ,hz,stay,q⟩:=h2
 subst e
 exact Fp hc ck ht he fr fin I2 r2 T st2 f2 hJ hz stay q
structure Mh (X:Cx) (sc:Scope) (x:Str) (px:Pos) (ys:List Str) (fs:List Nat) (iter:Expr) (ifs:List Expr) (elt:Expr) (t:cY):Prop where
 run:∀ {use:Option (Value→Sem Unit)} {Qs:Value→Shared→Prop} {ps pos:Pos} {pins:List (Addr ×Obj)} {s:Shared} {σ:St} {H:Hp} {ρ:En} {M:Mp} {Q:DK},Inv X pins σ H s→Rep X.K H σ ρ M→t ρ M Q→
  (∀ (C Dl:Addr) (s6:Shared) (H5:Hp),Inv X pins σ H5 s6→(∃ m,s6.heap.Ns C m)→j4 X pins H5 C→Post X.K M H Q (.ref Dl) H5→compPost (model X.prog X.w) X.A X.xe use Qs (.ref Dl) C (.ok .next) s6)→
  wpAny (model X.prog X.w) X.A (comprehension (.ListComp elt [⟨.Name x px,iter,ifs,0⟩] sc pos) sc X.env ps (newList []) false (eval iter X.env) use) Qs X.xe s
theorem wU {t:cY} (h:Mh X sc x px ys fs iter ifs elt t):cM X (.ListComp elt [⟨.Name x px,iter,ifs,0⟩] sc pos) t:=by
 constructor
 intro pins s σ H ρ M Q I r q
 rw [eval_ListComp]
 exact h.run I r q Ft
theorem Lm {t:cY} {j:Nat} {y:Str} {py spos:Pos} (h:Mh X sc x px ys fs iter ifs elt t) (hN:X.N.Nodup) (hj:X.N[j]?=some y) (hy:Loc X.env.scope y)
 (hsw:swapsWith (.ListComp elt [⟨.Name x px,iter,ifs,0⟩] sc pos) (some (.Name y py)) spos.line X.env=pure true:=by rfl) (hf:X.fn y=true∨X.env.scope.names.lookup y=some .local:=by first | exact .inl rfl | exact .inr rfl) :
 Ab X (.Assign [.Name y py] (.ListComp elt [⟨.Name x px,iter,ifs,0⟩] sc pos) spos) (GX j t):=by
 constructor
 intro pins s σ H ρ M D I r q
 rw [exec_Assign_Name_used _ _ _ _ hsw]
 refine wpAny_bind (wpAny_standAt (wpAny_bind ?_))
 show wpAny (model X.prog X.w) X.A (do { let _ ← comprehension (.ListComp elt [⟨.Name x px,iter,ifs,0⟩] sc pos) sc X.env _ (newList []) false (eval iter X.env) (some (assign (.Name y py) X.env)) }) _ _ s
 refine wpAny_bind (dc (h.run (use:=some (assign (.Name y py) X.env)) (Qs:=fun _ s'=>SP X pins (ends X.K M H D) .next s') I r q fun C Dl s6 H5 I6 hC f P=>?_) fun _ s' hq=>wpAny_pure (wpAny_pure hq))
 obtain ⟨m,o,es,ep,ho,hd,hrest⟩:=hC
 obtain ⟨d,M5,EM,dd,Rl,q5⟩:=P
 have Rm:Inv X (pins ++ [(C,o)]) σ H5 s6:=I6.qa fun p hp=>(List.mem_append.mp hp).elim (fun z=>I6.pin p (List.mem_append_right _ z)) fun z=>by
  have e:=List.mem_singleton.mp z
  subst e
  exact ⟨ho,f.1,f.2.1,f.2.2.1,fun v z=>by rw [hd] at z;cases z⟩
 refine dc ((cT (i:=j) (x:=y) (pos:=py) hN hj hy hf).run _ s6 σ H5 ρ M5 (.ref Dl) d (.ref Dl) (D.nx) Rm (r.go EM Rl) rfl dd q5) fun _ s7 ⟨σ7,H7,I7,ρ7,M7,Rn,r7,q7⟩=>?_
 have pin:=I7.pin (C,o) (List.mem_append_right _ (List.mem_append_right _ (List.mem_singleton.mpr rfl)))
 refine ⟨m,⟨o,es,ep,pin.1,hd,hrest⟩,fun h' sb=>?_⟩
 have I8:Inv X pins σ7 H7 s7:=I7.qa fun p hp=>I7.pin p (List.mem_append_right _ (List.mem_append_left _ hp))
 exact ⟨σ7,H7,I8.turned (t':=s7.toks) (fun b o hb e=>sb.extBut b o hb e) pin.2.1 f.2.1 f.2.2.2.1 f.2.2.2.2.1 f.2.2.2.2.2,ρ7,M7,EM.trans Rn,r7,q7⟩
theorem m5 (hc:X.calm=true) (hk:cK X.env.scope X.N sc x ys fs=true) (hi:cM X iter ti) (ht:∀ cl C s0 H0 ex,JU (t8 X sc x ys cl C s0 H0 ex) ifs tt) (he:∀ cl C s0 H0 ex,cM (t8 X sc x ys cl C s0 H0 ex) elt te)
 (hs:∀ z,foldedSetIterable iter X.env z=pure z:=by intro _;rfl):Mh X sc x px ys fs iter ifs elt (Oc fs ti tt te):=by
 constructor
 intro use Qs ps pos pins s σ H ρ M Q I r h fin
 refine G1 (ρ:=ρ) hc hk ht he hs I fin (zN hi.dn pins s σ H _ I (fH r h fun v H' d M' f dv r' ⟨a,xs,e1,hM,hz,q⟩=>?_))
 subst e1
 obtain rfl:=aK.mp dv
 obtain ⟨zs,ha,hy⟩:=r'.mem.lst hM
 exact ⟨a,rfl,⟨zs,iD.of ha⟩,M',_,xs,_,f,r',CB,hz,fun M1 H1 f1 lG g1=>lG.lst g1,q.out⟩
theorem Ln {a:Expr} {t:sj} {p rpos:Pos} (hc:X.calm=true) (hk:cK X.env.scope X.N sc x ys fs=true) (E8:Gl X "range") (hm:X.mg "range" =none) (ha:yH X [a] t) (ht:∀ cl C s0 H0 ex,JU (t8 X sc x ys cl C s0 H0 ex) ifs tt) (he:∀ cl C s0 H0 ex,cM (t8 X sc x ys cl C s0 H0 ex) elt te)
 (hst:starEach [a] X.env= [(false,eval a X.env)]:=by rfl) (hs:∀ z,foldedSetIterable (.Call (.Name "range" p) [a] [] rpos) X.env z=pure z:=by intro _;rfl):Mh X sc x px ys fs (.Call (.Name "range" p) [a] [] rpos) ifs elt (Od fs t tt te):=by
 constructor
 intro use Qs ps pos pins s σ H ρ M Q I r h fin
 refine G1 (ρ:=ρ) hc hk ht he hs I fin (tM E8 hm ha.dn hst pins s σ H _ I (kq r h fun vs H' ds M' f dv r' ⟨j,e1,h1,h2,hz,q⟩=>?_))
 subst e1
 obtain ⟨v,rfl,hv⟩:=mS dv
 obtain rfl:=aJ.mp hv
 exact ⟨j,rfl,h1,h2,M',_,_,_,f,r',CC,by simpa using hz,fun _ _ _ _ _=>trivial,q.out⟩
theorem dP {gd:Mp→Prop} {fr:En} {Q:List D→Mp→Prop} {M:Mp} (Pv:Nat→List D→Mp→Prop):∀ (ds:List D),(∀ (i:Nat) (d:D) (acc:List D) (M:Mp) (N:List D→Mp→Prop),ds[i]?=some d→Pv i acc M→(∀ acc' M',Pv (i+1) acc' M'→N acc' M')→
 gd M∧tt (some d :: fr) M fun b M1=>if b=true then te (some d :: fr) M1 fun y M2=>N (acc ++ [y]) M2 else N acc M1)→
 (∀ acc M,Pv ds.length acc M→gd M∧Q acc M)→Pv 0 [] M→mY gd tt te fr Q ds [] M:=by
 intro ds hstep hend h0
 have key:∀ (zs:List D) (i:Nat) (acc:List D) (M:Mp),ds.drop i=zs→Pv i acc M→i≤ds.length→mY gd tt te fr Q zs acc M:=by
  intro zs
  induction zs with
  | nil=>
    intro i acc M e p hi
    have:ds.length≤i:=by
     have:=congrArg List.length e
     rw [List.length_drop] at this
     simp at this
     omega
    obtain rfl:i=ds.length:=by omega
    exact hend acc M p
  | cons z zs ih=>
    intro i acc M e p hi
    have hx:ds[i]?=some z:=by
     have:=congrArg (fun l=>l[0]?) e
     simpa using this
    have hlt:i < ds.length:=(List.getElem?_eq_some_iff.mp hx).1
    refine hstep i z acc M _ hx p fun acc' M' p'=>ih (i+1) acc' M' ?_ p' hlt
    rw [← List.drop_drop,e]
    rfl
 exact key ds 0 [] M rfl h0 (Nat.zero_le _)
end
end L3
namespace L3
open PySem PySem.Spec PyProof.Rows L2
structure Mi (outer:Scope) (N:List Str) (sc:Scope) (x:Str) (ys:List Str) (fs:List Nat):Prop where
 kind:sc.kind= .function
 Lf:outer.kind= .function
 names:∀ y∈sc.names,y.2= .local→sc.names.lookup y.1=some .local
 Mf:∀ y∈sc.names,y.2= .free→outer.names.lookup y.1=some .cell
 loc:sc.names.lookup x=some .cell
 cells:sc.names.filter (fun y=>y.2 == .cell)= [(x,.cell)]
 len:ys.length=fs.length
 at':∀ (k:Nat) y,ys[k]?=some y→∃ i,fs[k]?=some i∧N[i]?=some y∧sc.names.lookup y=some .free
 nd:(x :: ys).Nodup
section
variable {X:Cx} {sc:Scope} {x:Str} {ys:List Str} {fs:List Nat}
end
section
variable {X:Cx} {sc:Scope} {x:Str} {ys:List Str} {fs:List Nat} {elt iter:Expr} {px pos:Pos} {ifs:List Expr} {tt:lZ} {te:cY} {ti:cY}
end
end L3
namespace L3
open PySem PySem.Spec PyProof.Rows L2
section
variable {X:Cx}
theorem m6 {ds es:List D} (h:ds.length≠es.length):cZ ds es=false:=by
 rw [eE,beq_eq_false_iff_ne.mpr h,Bool.and_false]
def Oe:R3:=fun d e M Q=> ∃ a b xs ys,d= .ref a∧e= .ref b∧M a=some (.lst xs)∧M b=some (.lst ys)∧xs.all (plain 9)=true∧ys.all (plain 9)=true∧Q (.bl (cZ xs ys)) M
theorem Lo (hu:X.A.units+64 < cLine):nP X (compareOp .Eq) Oe:=by
 constructor
 intro pins s σ H M x y d e v u Q I rm rx ry dx dy ⟨a,b,xs,ys,e1,e2,ha,hb,pa,pb,q⟩
 subst e1;subst e2
 obtain rfl:=aK.mp dx
 obtain rfl:=aK.mp dy
 obtain rfl:v=Value.ref a:=rx
 obtain rfl:u=Value.ref b:=ry
 obtain ⟨zs,h1,h2⟩:=rm.lst ha
 obtain ⟨ws,h3,h4⟩:=rm.lst hb
 obtain ⟨its,rv,pl,hz⟩:=I.list (iD.of (K:=X.K) h1)
 obtain ⟨its2,mR,Bd,hz2⟩:=I.list (iD.of (K:=X.K) h3)
 have l1:=h2.length.trans rv.length
 have l2:=h4.length.trans mR.length
 have fin:∀ k,k=cZ xs ys→EP X pins σ (Post X.K M H Q) (.bool k) s:=fun k e=>⟨.bl k,H,I,rfl,aH rm (bu.mpr rfl) (by rw [e];exact q)⟩
 by_cases hs:its.toArray.size=its2.toArray.size
 ·refine SeqAt.RcAt.lists (A:=X.A) (s:=s) (e:=fun j=>di (xs.getD j .bA) (ys.getD j .bA)) pl.isList Bd.isList hs (by omega) (i7 I.hok (n:=9) (by show X.A.units+1+9 < cLine;omega) pa pb h2 h4 rv mR) _ _ _ _ (fin _ ?_)
  simp only [List.size_toArray] at hs
  rw [eE,List.size_toArray,← l1]
  have e:ys.length=xs.length:=by omega
  rw [e,Nat.min_self,beq_self_eq_true,Bool.and_true]
 ·refine SeqAt.RcAt.lists_lengths (A:=X.A) (s:=s) pl.isList Bd.isList (by simpa using hs) (by omega) _ _ _ _ (fin _ ?_)
  simp only [List.size_toArray] at hs
  exact (m6 (by omega)).symm
abbrev Lp:=En→Mp→(Option Int→Mp→Prop)→Prop
structure Mj (X:Cx) (e:Option Expr) (t:Lp):Prop where
 dn:∃ t2:TO,PO X e t2∧∀ σ H ρ M Q Q',Rep X.K H σ ρ M→t ρ M Q→(∀ o H' M',Fr M H M' H'→Rep X.K H' σ ρ M'→Q o M'→Q' o H')→t2 σ H Q'
def Of:Lp:=fun _ M Q=>Q none M
def IS (t:cY):Lp:=fun ρ M Q=>t ρ M fun d M1=> ∃ i,d= .int i∧Q (some i) M1
theorem Be:Mj X none Of:=⟨zU,ES,fun σ H ρ M Q Q' r q k=>k none H M (.refl _ _) r q⟩
theorem nY {e:Expr} {t:cY} (h:cM X e t):Mj X (some e) (IS t):=⟨GP (L3.dn X.K t),ET h.dn,fun σ H ρ M Q Q' r q k=>fH r q fun v H' d M' f dv r' ⟨i,e1,q⟩=>by
 subst e1
 obtain rfl:=aJ.mp dv
 exact ⟨i,rfl,k (some i) H' M' f r' q⟩⟩
def cutD (xs:List D) (lo hi:Option Int):List D:=(xs.drop (HT.oU xs.length 0 lo)).take (HT.oU xs.length xs.length hi - HT.oU xs.length 0 lo)
theorem aG.drop {K:PySem.W.Frag} {H:Hp}:∀ {ds:List D} {xs:List V} (n:Nat),aG K H ds xs→aG K H (ds.drop n) (xs.drop n)
 | ds,xs,0,h=>h
 | [],xs,n+1,h=>by rw [aL.mp h];exact aL.mpr rfl
 | d :: ds,xs,n+1,h=>by
   obtain ⟨v,vs,rfl,_,h2⟩:=aF.mp h
   exact aG.drop n h2
theorem aG.take {K:PySem.W.Frag} {H:Hp}:∀ {ds:List D} {xs:List V} (n:Nat),aG K H ds xs→aG K H (ds.take n) (xs.take n)
 | ds,xs,0,h=>aL.mpr rfl
 | [],xs,n+1,h=>by rw [aL.mp h];exact aL.mpr rfl
 | d :: ds,xs,n+1,h=>by
   obtain ⟨v,vs,rfl,h1,h2⟩:=aF.mp h
   exact aF.mpr ⟨v,vs.take n,rfl,h1,aG.take n h2⟩
def Lq:R3:=fun d e M Q=> ∃ a b xs ys,d= .ref a∧e= .ref b∧M a=some (.lst xs)∧M b=some (.lst ys)∧xs.length+ys.length≤sizeLine∧∀ p,M p=none→Q (.ref p) (aA M p (.lst (xs ++ ys)))
theorem CW:nP X (binaryOp .Add) Lq:=KH Il fun H M x y d e Q rm dx dy ⟨a,b,xs,ys,e1,e2,ha,hb,hz,q⟩=>by
 subst e1;subst e2
 obtain rfl:=aK.mp dx
 obtain rfl:=aK.mp dy
 obtain ⟨zs,h1,h2⟩:=rm.lst ha
 obtain ⟨ws,h3,h4⟩:=rm.lst hb
 exact ⟨a,b,zs,ws,rfl,rfl,h1,h3,by rw [← h2.length,← h4.length];exact hz,fun p hp=>⟨.ref p,aA M p (.lst (xs ++ ys)),Fr.new hp fun _ hb=>bC hb,aK.mpr rfl,rm.newL hp (h2.append h4),q p (rm.free hp)⟩⟩
end
end L3
namespace L3
open PySem PySem.Spec PyProof.Rows L2
section
variable {X:Cx}
def B4 (M:Mp) (d:D) (xs:List D):Prop:=d= .wG xs∨∃ a,d= .ref a∧M a=some (.lst xs)
theorem B4.of {M:Mp} {a:Addr} {xs:List D} (h:M a=some (.lst xs)):B4 M (.ref a) xs:= .inr ⟨a,rfl,h⟩
theorem B4.sq {K:PySem.W.Frag} {H:Hp} {M:Mp} {d:D} {xs:List D} {x:V} (h:B4 M d xs) (rm:b9 K H M) (dx:Dat K H d x):∃ a zs,x= .ref a∧iD K H a zs∧aG K H xs zs:=by
 rcases h with rfl | ⟨a,rfl,hM⟩
 ·obtain ⟨a,zs,rfl,h1,h2⟩:=mP.mp dx
  exact ⟨a,zs,rfl,h1.sq,h2⟩
 ·obtain rfl:=aK.mp dx
  obtain ⟨zs,h1,h2⟩:=rm.lst hM
  exact ⟨a,zs,rfl,iD.of h1,h2⟩
def Lr:R3:=fun d e M Q=> ∃ xs ys,B4 M d xs∧B4 M e ys∧xs.all (plain 9)=true∧ys.all (plain 9)=true∧Q (.bl (cZ xs ys)) M
def Ls:R3:=fun d e M Q=> ∃ xs ys,B4 M d xs∧B4 M e ys∧xs.all (plain 9)=true∧ys.all (plain 9)=true∧Q (.bl (!cZ xs ys)) M
theorem CY (hu:X.A.units+64 < cLine):nP X (compareOp .Eq) Lr:=by
 constructor
 intro pins s σ H M x y d e v u Q I rm rx ry dx dy ⟨xs,ys,ha,hb,pa,pb,q⟩
 obtain ⟨a,zs,rfl,h1,h2⟩:=ha.sq rm dx
 obtain ⟨b,ws,rfl,h3,h4⟩:=hb.sq rm dy
 obtain rfl:v=Value.ref a:=rx
 obtain rfl:u=Value.ref b:=ry
 obtain ⟨its,rv,pl,hz⟩:=I.list h1
 obtain ⟨its2,mR,Bd,hz2⟩:=I.list h3
 have l1:=h2.length.trans rv.length
 have l2:=h4.length.trans mR.length
 have fin:∀ k,k=cZ xs ys→EP X pins σ (Post X.K M H Q) (.bool k) s:=fun k e=>⟨.bl k,H,I,rfl,aH rm (bu.mpr rfl) (by rw [e];exact q)⟩
 by_cases hs:its.toArray.size=its2.toArray.size
 ·refine SeqAt.RcAt.lists (A:=X.A) (s:=s) (e:=fun j=>di (xs.getD j .bA) (ys.getD j .bA)) pl.isList Bd.isList hs (by omega) (i7 I.hok (n:=9) (by show X.A.units+1+9 < cLine;omega) pa pb h2 h4 rv mR) _ _ _ _ (fin _ ?_)
  simp only [List.size_toArray] at hs
  rw [eE,List.size_toArray,← l1]
  have e:ys.length=xs.length:=by omega
  rw [e,Nat.min_self,beq_self_eq_true,Bool.and_true]
 ·refine SeqAt.RcAt.lists_lengths (A:=X.A) (s:=s) pl.isList Bd.isList (by simpa using hs) (by omega) _ _ _ _ (fin _ ?_)
  simp only [List.size_toArray] at hs
  exact (m6 (by omega)).symm
theorem CZ (hu:X.A.units+64 < cLine):nP X (compareOp .NotEq) Ls:=by
 constructor
 intro pins s σ H M x y d e v u Q I rm rx ry dx dy ⟨xs,ys,ha,hb,pa,pb,q⟩
 obtain ⟨a,zs,rfl,h1,h2⟩:=ha.sq rm dx
 obtain ⟨b,ws,rfl,h3,h4⟩:=hb.sq rm dy
 obtain rfl:v=Value.ref a:=rx
 obtain rfl:u=Value.ref b:=ry
 obtain ⟨its,rv,pl,hz⟩:=I.list h1
 obtain ⟨its2,mR,Bd,hz2⟩:=I.list h3
 have l1:=h2.length.trans rv.length
 have l2:=h4.length.trans mR.length
 have fin:∀ k,k=(!cZ xs ys)→EP X pins σ (Post X.K M H Q) (.bool k) s:=fun k e=>⟨.bl k,H,I,rfl,aH rm (bu.mpr rfl) (by rw [e];exact q)⟩
 by_cases hs:its.toArray.size=its2.toArray.size
 ·refine SeqAt.RcNeAt.lists (A:=X.A) (s:=s) (e:=fun j=>di (xs.getD j .bA) (ys.getD j .bA)) pl.isList Bd.isList hs (by omega) (i7 I.hok (n:=9) (by show X.A.units+1+9 < cLine;omega) pa pb h2 h4 rv mR) _ _ _ _ (fin _ ?_)
  simp only [List.size_toArray] at hs
  rw [eE,List.size_toArray,← l1]
  have e:ys.length=xs.length:=by omega
  rw [e,Nat.min_self,beq_self_eq_true,Bool.and_true]
 ·refine SeqAt.RcNeAt.lists_lengths (A:=X.A) (s:=s) pl.isList Bd.isList (by simpa using hs) (by omega) _ _ _ _ (fin _ ?_)
  simp only [List.size_toArray] at hs
  rw [m6 (by omega)]
  rfl
def C0:D→Bool | .bA=>true | _=>false
def Og:R3:=fun d e M Q=>e= .bA∧Q (.bl (C0 d)) M
theorem Bf {K:PySem.W.Frag} {H:Hp} {d:D} {x:V} (h:Dat K H d x):decide (x= .bA)=C0 d:=by
 cases d with
 | bA=>obtain rfl:=cJ.mp h;rfl
 | bl b=>obtain rfl:=bu.mp h;rfl
 | int i=>obtain rfl:=aJ.mp h;rfl
 | str z=>obtain rfl:=gf.mp h;rfl
 | ty n=>obtain rfl:=yG.mp h;rfl
 | ref a=>obtain rfl:=aK.mp h;rfl
 | tup ds=>obtain ⟨a,xs,rfl,_⟩:=bK.mp h;rfl
 | wG ds=>obtain ⟨a,xs,rfl,_⟩:=mP.mp h;rfl
 | GR n=>obtain ⟨a,o,u,rfl,_⟩:=Aa.mp h;rfl
 | exc C nm ds=>obtain ⟨a,o,u,xs,rfl,_⟩:=EZ.mp h;rfl
theorem g9:nP X (compareOp .Is) Og:=KH HU fun H M x y d e Q rm dx dy ⟨e1,q⟩=>by
 subst e1
 exact ⟨cJ.mp dy,by rw [Bf dx];exact aH rm (bu.mpr rfl) q⟩
def IT:List D→Mp→DK→Prop:=fun ds M Q=> ∃ d xs,ds= [d]∧B4 M d xs∧∀ p,M p=none→Q (.ref p) (aA M p (.lst xs))
theorem qF:Call3 X (.type "list") IT:=Cy uL fun H M xs ds Q rm dx ⟨d,ys,e1,hs,q⟩=>by
 subst e1
 obtain ⟨v,rfl,hv⟩:=mS dx
 obtain ⟨a,zs,rfl,h1,h2⟩:=hs.sq rm hv
 exact ⟨a,zs,rfl,.inl h1,fun p hp=>⟨.ref p,aA M p (.lst ys),Fr.new hp fun _ hb=>bC hb,aK.mpr rfl,rm.newL hp h2,q p (rm.free hp)⟩⟩
def Oh (te:cY) (tl th:Lp):cY:=fun ρ M Q=>te ρ M fun d M1=>tl ρ M1 fun lo M2=>th ρ M2 fun hi M3=> ∃ xs,B4 M3 d xs∧∀ p,M3 p=none→Q (.ref p) (aA M3 p (.lst (cutD xs lo hi)))
theorem ja {e:Expr} {lo hi:Option Expr} {te:cY} {tl th:Lp} {p2 pos:Pos} (he:cM X e te) (hl:Mj X lo tl) (hh:Mj X hi th):cM X (.Subscript e (.Slice lo hi none p2) pos) (Oh te tl th):=by
 obtain ⟨Th,pl,gl⟩:=hl.dn
 obtain ⟨Ti,ph,gh⟩:=hh.dn
 refine up (Ck EX he.dn pl ph) fun σ H ρ M Q r q=>fH r q fun v H' d M' f dv r' q1=>gl _ _ _ _ _ _ r' q1 fun lo H2 M2 f2 r2 q2=>gh _ _ _ _ _ _ r2 q2 fun hi H3 M3 f3 r3 ⟨xs,hL,q3⟩=>?_
 obtain ⟨a,zs,rfl,hz,hd⟩:=hL.sq r3.mem (Dat.mono ((f2.trans f3).ext r'.mem) _ _ dv)
 have ec:cutD xs lo hi=(xs.drop (HT.oU zs.length 0 lo)).take (HT.oU zs.length zs.length hi - HT.oU zs.length 0 lo):=by unfold cutD;rw [hd.length]
 refine ⟨a,zs,rfl,hz,fun p hp=>⟨.ref p,aA M3 p (.lst (cutD xs lo hi)),((f.trans f2).trans f3).trans (Fr.new hp fun _ hb=>bC hb),aK.mpr rfl,r3.mem.newL hp ?_,q3 p (r3.mem.free hp)⟩⟩
 rw [ec]
 exact aG.take _ (aG.drop _ hd)
end
end L3
namespace L3
open PySem PySem.Spec PyProof.Rows L2
theorem Bg:bootBuiltins "sum" =some (.builtin "sum"):=by decide +kernel
section
variable {X:Cx}
theorem m7 {K:PySem.W.Frag} {H:Hp}:∀ {ns:List Int} {xs:List V},aG K H (ns.map D.int) xs→xs=ns.map V.int
 | [],xs,h=>aL.mp h
 | n :: ns,xs,h=>by
   obtain ⟨v,vs,rfl,h1,h2⟩:=aF.mp h
   rw [aJ.mp h1,m7 h2]
   rfl
theorem o5 (ns:List Int):∀ n,n≤ns.length→preSum (fun i=>ns.getD i 0) n=(ns.take n).sum
 | 0,_=>by simp [preSum]
 | n+1,h=>by
   have ih:=o5 ns n (by omega)
   have e:ns.getD n 0=ns[n]'(by omega):=by rw [List.getD_eq_getElem?_getD,List.getElem?_eq_getElem (by omega)];rfl
   show preSum _ n+ns.getD n 0=_
   rw [ih,e,List.take_succ,List.getElem?_eq_getElem (by omega:n < ns.length),Option.toList_some,List.sum_append,List.sum_cons,List.sum_nil,Int.add_zero]
def Oi:List D→Mp→DK→Prop:=fun ds M Q=> ∃ (l:Addr) (ns:List Int),ds= [.ref l]∧M l=some (.lst (ns.map D.int))∧Q (.int ns.sum) M
theorem Lu (hc:X.calm=true):Call3 X (.builtin "sum") Oi:=by
 constructor
 intro pins s σ H M xs ds us Q I rm rs dx ⟨l,ns,e,hM,q⟩
 subst e
 obtain ⟨v,rfl,hv⟩:=mS dx
 obtain rfl:=aK.mp hv
 obtain ⟨u,rfl,r1⟩:=vals1 rs
 obtain rfl:u=Value.ref l:=r1
 obtain ⟨zs,hH,hz⟩:=rm.lst hM
 obtain ⟨its,rv,pl,hsz⟩:=I.list (iD.of (K:=X.K) hH)
 obtain rfl:=m7 hz
 have hlen:its.length=ns.length:=by rw [Vals.len rv,List.length_map]
 have ll:l < s.heap.objs.size:=by obtain ⟨o,e,_⟩:=pl.isList;exact Heap.lt_size e
 have hne:l≠s.heap.objs.size:=Nat.ne_of_lt ll
 refine call_sum_walkAnyS (wpAny_pyIter_list pl.isList ?_)
 refine ⟨s.heap.objs.size,[s.heap.objs.size,l],[s.heap.objs.size],_,its.toArray.size,_,_,fun i=>ns.getD i 0,rfl,(Walks.list (show X.A.in1.handled=none from I.ok.hd hc) s.heap.objs.size l hne its.toArray).toS,?_,?_,?_,?_⟩
 ·refine ⟨⟨_,Heap.get?_push_size _ rfl,rfl,rfl⟩,?_⟩
  obtain ⟨o,e,c,d⟩:=pl.isList
  exact ⟨o,Heap.get?_push_of_some _ e,c,d⟩
 ·intro b hb
  rw [Heap.size_push]
  simp only [List.mem_cons,List.not_mem_nil,or_false] at hb
  rcases hb with rfl | rfl
  ·exact Nat.lt_succ_self _
  ·exact Nat.lt_succ_of_lt ll
 ·intro i v hv
  have hv:its[i]?=some v:=by simpa using hv
  have hi:i < its.length:=(List.getElem?_eq_some_iff.mp hv).1
  have hx:(ns.map V.int)[i]?=some (.int (ns.getD i 0)):=by
   rw [List.getElem?_map,List.getD_eq_getElem?_getD,List.getElem?_eq_getElem (by omega)]
   rfl
  obtain ⟨u,hu,ru⟩:=rv.get hx
  rw [hu] at hv
  cases hv
  exact ru
 ·intro s' t' mv
  have I1:Inv X pins σ H { s with heap:=s.heap.push { cls:= .type "list_iterator",data:= .fields #[.ref l,rawInt 0] },toks:=s.toks }:=I.kept fun b o e=>Heap.get?_push_of_some _ e
  have fo:=I.Cc (H':=H) (Nat.le_refl _) (I.hok.fresh (Nat.le_refl _))
  obtain ⟨f0,f1,f2,f3,f4,f5⟩:=fo
  have I2:Inv X pins σ H { s with heap:=s'.heap,toks:=s'.toks }:=I1.turned (h':=s'.heap) (t':=s'.toks) (fun b o hb e=>mv.heap b o (by simpa using hb) e) f0 f1 f3 f4 f5
  have es:s'= { s with heap:=s'.heap,toks:=s'.toks }:=by
   have g:=mv.gens
   have d:=mv.drawn
   have o:=mv.os
   cases s'
   cases s
   simp only at g d o ⊢
   subst g d o
   rfl
  rw [es]
  refine ⟨.int ns.sum,H,I2,⟨t',?_⟩,aH rm (aJ.mpr rfl) q⟩
  rw [List.size_toArray,hlen,o5 ns _ (Nat.le_refl _),List.take_length]
theorem qG {pins:List (Addr ×Obj)} {σ:St} {H:Hp} {s:Shared} {M:Mp} {A:Around} (I:Inv X pins σ H s) (rm:b9 X.K H M) (hu:A.units+12 < cLine) {a b:Addr} {xs ys:List D} (hne:a≠b) (ha:M a=some (.lst xs)) (hb:M b=some (.lst ys)) (pa:xs.all (plain 9)=true) (pb:ys.all (plain 9)=true) :
 SeqAt.EqAt A s (.ref a) (.ref b) (cZ xs ys):=by
 obtain ⟨zs,h1,h2⟩:=rm.lst ha
 obtain ⟨ws,h3,h4⟩:=rm.lst hb
 obtain ⟨its,rv,pl,hz⟩:=I.list (iD.of (K:=X.K) h1)
 obtain ⟨its2,mR,Bd,hz2⟩:=I.list (iD.of (K:=X.K) h3)
 have l1:=h2.length.trans rv.length
 have l2:=h4.length.trans mR.length
 refine SeqAt.EqAt.of_refs hne ?_
 by_cases hs:its.toArray.size=its2.toArray.size
 ·have key:=SeqAt.RcAt.lists (A:=A) (s:=s) (e:=fun j=>di (xs.getD j .bA) (ys.getD j .bA)) pl.isList Bd.isList hs (by omega) (i7 I.hok (n:=9) (by show A.units+1+9 < cLine;omega) pa pb h2 h4 rv mR)
  simp only [List.size_toArray] at hs
  have e:ys.length=xs.length:=by omega
  rw [eE,e,Nat.min_self,beq_self_eq_true,Bool.and_true]
  rw [List.size_toArray,← l1] at key
  exact key
 ·have key:=SeqAt.RcAt.lists_lengths (A:=A) (s:=s) pl.isList Bd.isList (by simpa using hs) (by omega)
  simp only [List.size_toArray] at hs
  rw [m6 (by omega)]
  exact key
end
end L3
namespace L3
open PySem PySem.Spec PyProof.Rows L2
theorem C3 {ps:List Pl} {i:Nat} {x:D} (h:(ps.map Pl.d)[i]?=some x):∃ p,ps[i]?=some p∧x=p.d:=by
 rw [List.getElem?_map] at h
 cases e:ps[i]? with
 | none=>rw [e] at h;cases h
 | some p=>rw [e] at h;exact ⟨p,rfl,(Option.some.inj h).symm⟩
theorem yL (ns:List Int):(ns.map D.int).all (plain 9)=true:=by
 rw [List.all_eq_true]
 intro d hd
 obtain ⟨i,_,rfl⟩:=List.mem_map.mp hd
 rfl
theorem jz {ns:List Int} {k:Int} (h0:0≤k) (h1:k < ns.length):∃ z:Int,z∈ns∧oV (ns.map D.int) k=some (.int z):=by
 obtain ⟨j,rfl⟩:∃ j:Nat,k=(j:Int):=⟨k.toNat,by omega⟩
 have hlt:j < ns.length:=by omega
 refine ⟨ns[j],List.getElem_mem hlt,bJ ?_⟩
 rw [List.getElem?_map,List.getElem?_eq_getElem hlt]
 rfl
theorem l9 {ns:List Int} {n:Nat} {z:Int} (h:ns.all (fun z=>decide (z.natAbs < 2 ^ n))=true) (m:z∈ns):Sm n z:=of_decide_eq_true (List.all_eq_true.mp h z m)
theorem Fv {q:Pl} {ps:List Pl}:inD q.d (ps.map Pl.d)=decide (q∈ps):=by
 unfold inD
 rw [Bool.eq_iff_iff,List.any_eq_true,decide_eq_true_eq]
 constructor
 ·rintro ⟨x,hx,e⟩
  obtain ⟨p,hp,rfl⟩:=List.mem_map.mp hx
  rw [cU] at e
  rw [← of_decide_eq_true e];exact hp
 ·intro hq
  exact ⟨q.d,List.mem_map.mpr ⟨q,hq,rfl⟩,by rw [cU];exact decide_eq_true rfl⟩
theorem m8 {ts:List Pl} {f:Pl→Bool} {i:Nat} {t:Pl} (h:ts[i]?=some t):(ts.take (i+1)).filter f=(ts.take i).filter f ++ (if f t=true then [t] else []):=by
 rw [List.take_succ,h,List.filter_append]
 congr 1
 show List.filter f [t]=_
 rw [List.filter_cons]
 rfl
theorem qH (ds:List D):cZ ds []=ds.isEmpty:=by
 cases ds <;> simp [cZ]
theorem k7 {ds:List D} (h:ds.all (plain 9)=true):cZ ds ds=true:=by
 have:=i6 10 (.tup ds) h
 rwa [jw] at this
theorem wV {α:Type} (g:α→D) (xs:List α) (n:Nat) (h:n≤xs.length):cutD (xs.map g) (some (n:Int)) none=(xs.drop n).map g:=by
 unfold cutD
 rw [HT.zT,HT.wB]
 rw [List.length_map,Nat.min_eq_left h,List.map_drop]
 exact List.take_of_length_le (by simp)
end L3
namespace Att
open PySem PySem.W PySem.Calls PyProof.Rows
def Bh (z:Int):Prop:=Builtin.Int.intBits z≤1048576
theorem qI {N:Nat}:∀ {ns:List Int},WData.weightAll (ns.map WData.int)≤N→∀ z∈ns,Builtin.Int.intBits z≤N
 | [],_,z,m=>by cases m
 | n :: ns,h,z,m=>by
   have e:WData.weightAll ((n :: ns).map WData.int)=Builtin.Int.intBits n+1+WData.weightAll (ns.map WData.int):=by
    rw [List.map_cons]
    simp only [WData.weightAll,WData.weight,Builtin.Int.intBits]
   rw [e] at h
   rcases List.mem_cons.mp m with rfl | m
   ·omega
   ·exact qI (by omega) z m
theorem IU {ns:List Int} (h:WData.layableAll [WData.list (ns.map WData.int)]=true):∀ z∈ns,Bh z:=by
 have h:WData.layable (WData.list (ns.map WData.int))=true:=by simpa [WData.layableAll] using h
 unfold WData.layable at h
 have h:=of_decide_eq_true (Bool.and_eq_true_iff.mp h).2
 have e:WData.weight (WData.list (ns.map WData.int))=WData.weightAll (ns.map WData.int):=by simp only [WData.weight]
 rw [e] at h
 exact fun z m=>qI h z m
theorem uU {l:OpenLaw} {n:Nat} {q:Program} {loose:List Str} {XP:(Str→Option Value)→Heap→Prop} {YP:World→Heap→Prop} {d:DefRec}
 (hn:l.most=some n) (hdf:d.params.defaults= [])
 (call:∀ (w:World) (s₀ s₁:Shared) (mg mb:Str→Option Value) (fa:Addr) (o:Obj) (pm cd doc:Value) (a:Addr) (vs:List Value) (ns:List Int),
  Ground q loose [] XP w s₀ mg mb s₁.heap→YP w s₁.heap→
  s₁.heap.get? fa=some o→o.data= .func (docDef d.name d.params d.body d.scope pm cd doc)→s₁.heap.CodeRec cd d.name→mg d.name=some (.ref fa)→
  s₁.heap.get? a=some { cls:= .type "list",data:= .seq vs.toArray }→IntsAre vs ns→ns.length≤n→(∀ z∈ns,Bh z)→s₁.gens= #[]→
  codeAny (model l.prog w) callerA (.call (.ref fa) ⟨[.ref a],[]⟩) (fun r s'=>r= .ok (.ret (.bool true))∧OldK s₁.heap s'.heap∧s'.os=s₁.os∧AllBare s'.gens) s₁) :
 WalkO q loose XP YP l.row.toRowW d [] (fun f vs=>PySem.call f vs):=by
 intro w s₀ s₁ mg mb G Y fa o pm cd doc dV kV ho hd hcd hD hmg hg args vals as hpre hlay hrd hwl hlo
 obtain rfl:dV= .none:=Dflts.none hD hdf
 obtain rfl:kV= .none:=Dflts.noKw hD
 obtain ⟨a,vs,ns,rfl,rfl,hobj,hints,hlen⟩:=A2 hn hpre hwl
 refine enter_call (codeAny_mono (call w s₀ s₁ mg mb fa o pm cd doc a vs ns G Y ho (fd_plain hd) hcd hmg hobj hints hlen (IU hlay) hg) fun r s' hq=>?_)
 obtain ⟨rfl,h2,h3,h4⟩:=hq
 exact ⟨.inl ⟨.bool true,.bool true,[],rfl,fun _=>rfl,.bool true,A3 l _,fun _=>⟨List.Pairwise.nil,fun _ hm=>(nomatch hm)⟩⟩,h2,h3,h4⟩
end Att
namespace L2
open PySem PySem.Spec PyProof.Rows
end L2
namespace L3
open PySem PySem.Spec PyProof.Rows L2 Att
def C4:wK:=fun ds Q=> ∃ ns:List Int,ds= [.wG (ns.map D.int)]∧ns.length≤63∧(∀ z∈ns,Bh z)∧Q (.bl true)
theorem Fw {K:PySem.W.Frag} {H:Hp} {a:Addr} {ns:List Int} {E:XK} (hl:ns.length≤63) (hb:∀ z∈ns,Bh z) (hO:EY H) (hS:iD K H a (ns.map V.int)):wg K C4 [.ref a] H (fun v _=>v= .bl true) E:=by
 have hz:Fz K H a (ns.map V.int):=by
  rcases hS with (h | ⟨o,h⟩) | h
  ·rcases hO a with z | ⟨o,xs,z⟩
   ·rw [z] at h;cases h
   ·rw [z] at h;cases h
  ·exact .inl ⟨o,h⟩
  ·exact .inr h
 exact ⟨[.wG (ns.map D.int)],fun d=>d= .bl true,aG.one (mP.mpr ⟨a,_,rfl,hz,tX ns⟩),⟨ns,rfl,hl,hb,rfl⟩,fun d v H' q dv _=>by subst q;exact bu.mp dv⟩
def IV (i j:Int):Prop:=MulOk i j∨HM i j∨(Bh i∧∃ n,Sm n j∧n≤1000)
theorem IV.ok {i j:Int} (h:IV i j):IntMulOk i j:=by
 rcases h with h | h | ⟨h,n,h1,h2⟩
 ·exact h.ok
 ·exact h.ok
 ·have:=mQ h1
  exact IntMulOk.of_bits (Nat.le_trans h (by decide)) (Nat.le_trans this (by omega))
section
variable {X:Cx}
theorem iH:nP X (binaryOp .Mult) (tU IV fun i j=>i*j):=wH (Kh fun _ _ _ _ _ _ _ hc q=>mul_int q hc.ok)
end
end L3
namespace L3
open PySem PySem.Spec PyProof.Rows L2
def dX:List Pl→List Pl→Bool
 | [],[]=>false
 | [],_ :: _=>true
 | _ :: _,[]=>false
 | p :: ps,q :: qs=>if p=q then dX ps qs else decide (aZ p q)
theorem o6:∀ ps,dX ps ps=false
 | []=>rfl
 | p :: ps=>by unfold dX;rw [if_pos rfl];exact o6 ps
theorem m9:∀ ps qs,dX ps qs=true∨ps=qs∨dX qs ps=true
 | [],[]=> .inr (.inl rfl)
 | [],_ :: _=> .inl rfl
 | _ :: _,[]=> .inr (.inr rfl)
 | p :: ps,q :: qs=>by
   unfold dX
   by_cases e:p=q
   ·subst e
    rw [if_pos rfl,if_pos rfl]
    rcases m9 ps qs with h | h | h
    ·exact .inl h
    ·exact .inr (.inl (by rw [h]))
    ·exact .inr (.inr h)
   ·rw [if_neg e,if_neg (Ne.symm e)]
    rcases iG e with h | h
    ·exact .inl (decide_eq_true h)
    ·exact .inr (.inr (decide_eq_true h))
theorem mh:∀ ps qs rs,dX ps qs=true→dX qs rs=true→dX ps rs=true
 | [],[],_,h,_=>by cases h
 | [],_ :: _,[],_,h=>by cases h
 | [],_ :: _,_ :: _,_,_=>rfl
 | _ :: _,[],_,h,_=>by cases h
 | _ :: _,_ :: _,[],_,h=>by cases h
 | p :: ps,q :: qs,r :: rs,h1,h2=>by
   unfold dX at *
   by_cases e1:p=q
   ·subst e1
    rw [if_pos rfl] at h1
    by_cases e2:p=r
    ·rw [if_pos e2] at h2 ⊢;exact mh ps qs rs h1 h2
    ·rw [if_neg e2] at h2 ⊢;exact h2
   ·rw [if_neg e1] at h1
    have b1:=of_decide_eq_true h1
    by_cases e2:q=r
    ·subst e2;rw [if_neg e1];exact h1
    ·rw [if_neg e2] at h2
     have b3:=c6 b1 (of_decide_eq_true h2)
     rw [if_neg (uS b3)]
     exact decide_eq_true b3
def pJ (n:Nat) (h:Heap) (v:Value) (ps:List Pl):Prop:=ps.length=n∧∃ (a:Addr) (o:Obj) (its:List Value) (m:Nat),v= .ref a∧h.get? a=some o∧o.cls= .type "tuple"∧o.data= .seq its.toArray m∧dh h its ps
theorem dh.grow {h h':Heap} (g:eU h h'):∀ {us:List Value} {ps:List Pl},dh h us ps→dh h' us ps
 | _,_,.nil=> .nil
 | _,_,.cons a r=> .cons (a.grow g) (dh.grow g r)
theorem pJ.grow {n:Nat} {h h':Heap} {v:Value} {ps:List Pl} (a:pJ n h v ps) (g:eU h h'):pJ n h' v ps:=by
 obtain ⟨hl,b,o,its,m,h1,h2,h3,h4,h5⟩:=a
 exact ⟨hl,b,o,its,m,h1,g _ _ h2,h3,h4,h5.grow g⟩
theorem pJ.inj {n:Nat} {h:Heap} {v:Value} {ps qs:List Pl} (a:pJ n h v ps) (b:pJ n h v qs):ps=qs:=by
 obtain ⟨_,a1,o,its,m,rfl,h2,h3,h4,h5⟩:=a
 obtain ⟨_,a2,o',its',m',e,k2,k3,k4,k5⟩:=b
 injection e with e
 subst e
 rw [h2] at k2
 injection k2 with k2
 subst k2
 rw [h4] at k4
 injection k4 with k4 _
 have k4:its=its':=by simpa using k4
 subst k4
 rw [← h5.keys,← k5.keys]
open Classical in
noncomputable def uV (n:Nat) (h:Heap):KeyKind where
 α:=List Pl
 blt p q:=dX p q
 irrefl p:=o6 p
 trans p q r a b:=mh p q r a b
 negTrans p q r a:=by
  rcases m9 p q with c | c | c
  ·exact .inl c
  ·subst c;exact .inr a
  ·exact .inr (mh _ _ _ c a)
 total p q a b:=by
  rcases m9 p q with c | c | c
  ·rw [a] at c;cases c
  ·exact c
  ·rw [b] at c;cases c
 keyOf v:=if e:∃ p,pJ n h v p then some e.choose else none
 dflt:=[]
open Classical in
theorem uW {n:Nat} {h:Heap} {v:Value} {p:List Pl} (a:pJ n h v p):(uV n h).keyOf v=some p:=by
 have e:∃ p,pJ n h v p:=⟨p,a⟩
 show (if e:∃ p,pJ n h v p then some e.choose else none)=some p
 rw [dif_pos e,pJ.inj e.choose_spec a]
open Classical in
theorem C5 {n:Nat} {h:Heap} {v:Value} {p:List Pl} (a:(uV n h).keyOf v=some p):pJ n h v p:=by
 have a:(if e:∃ p,pJ n h v p then some e.choose else none)=some p:=a
 by_cases e:∃ p,pJ n h v p
 ·rw [dif_pos e] at a
  have:=e.choose_spec
  rwa [Option.some.inj a] at this
 ·rw [dif_neg e] at a;cases a
section
variable {P:Program} {w:World} {A:Around} {E:Value→Shared→Prop} {s:Shared}
theorem qJ {u v:Value} {p q:Pl} {Q:Bool→Shared→Prop} (hu:A.units < cLine) (a:lD s.heap u p) (b:lD s.heap v q) (h:Q (decide (p=q)) s):wpAny (model P w) A (eqBool u v) Q E s:=by
 obtain ⟨a1,o1,t1,u1,n1,rfl,h2,h3,h4⟩:=a
 obtain ⟨a2,o2,t2,u2,n2,rfl,k2,k3,k4⟩:=b
 refine wpAny_eqBool_tuple (knd:=intKind P w) (x:=[p.x,p.y]) (y:=[q.x,q.y]) hu ⟨o1,_,n1,h2,h3,h4,?_⟩ ⟨o2,_,n2,k2,k3,k4,?_⟩ ?_
 ·exact .cons (by simp [intKind,Value.isInt]) (.cons (by simp [intKind,Value.isInt]) .nil)
 ·exact .cons (by simp [intKind,Value.isInt]) (.cons (by simp [intKind,Value.isInt]) .nil)
 ·have e:decide ([p.x,p.y]= [q.x,q.y])=decide (p=q):=by
   rw [decide_eq_decide]
   cases p;cases q
   simp
  rw [e];exact h
theorem ku {u v:Value} {p q:Pl} {Q:Bool→Shared→Prop} (hu:A.units < cLine) (a:lD s.heap u p) (b:lD s.heap v q) (h:Q (decide (aZ p q)) s):wpAny (model P w) A (oneLt' false u v) Q E s:=by
 obtain ⟨l,its,rfl,h1,h2⟩:=a.tup
 obtain ⟨l',its',rfl,k1,k2⟩:=b.tup
 rw [oneLt'_eq]
 simp only [Bool.false_eq_true,if_false]
 apply wpAny_bind
 refine (HT.lY h1 k1 h2 k2 hu ?_:wpAny (model P w) A (compareOp .Lt (.ref l) (.ref l')) _ E s)
 refine wpAny_truthy_bool ?_
 rw [gg]
 exact h
theorem dh.cons_inv {h:Heap} {us:List Value} {p:Pl} {ps:List Pl} (a:dh h us (p :: ps)):∃ u vs,us=u :: vs∧lD h u p∧dh h vs ps:=by
 cases a with
 | cons a r=>exact ⟨_,_,rfl,a,r⟩
theorem dh.nil_inv {h:Heap} {us:List Value} (a:dh h us []):us= []:=by
 cases a
 rfl
theorem C6 {α:Type} {qs:List α} (h:qs.length=2):∃ u v,qs= [u,v]:=by
 match qs,h with
 | [u,v],_=>exact ⟨u,v,rfl⟩
theorem Lv {n:Nat} (hn:n=2∨n=3) {t:Shared} {x y:Value} {ps qs:List Pl} {R:Bool→Shared→Prop} (hu:A.units < cLine) (kx:pJ n t.heap x ps) (ky:pJ n t.heap y qs) (hR:R (dX ps qs) t):wpAny (model P w) A (keyLt' (tuples' false) x y) R E t:=by
 obtain ⟨l1,a,o,its,m,rfl,h2,h3,h4,h5⟩:=kx
 obtain ⟨l2,b,o',its',m',rfl,k2,k3,k4,k5⟩:=ky
 rw [tZ]
 apply wpAny_bind;apply listItems_at h2 h4
 apply wpAny_bind;apply listItems_at k2 k4
 rcases hn with rfl | rfl
 ·obtain ⟨p1,p2,rfl⟩:=C6 l1
  obtain ⟨q1,q2,rfl⟩:=C6 l2
  obtain ⟨u1,us,rfl,a1,h5⟩:=h5.cons_inv
  obtain ⟨u2,us,rfl,a2,h5⟩:=h5.cons_inv
  obtain rfl:=h5.nil_inv
  obtain ⟨v1,vs,rfl,b1,k5⟩:=k5.cons_inv
  obtain ⟨v2,vs,rfl,b2,k5⟩:=k5.cons_inv
  obtain rfl:=k5.nil_inv
  ·clear h2 h4 k2 k4 h3 k3
   simp only [List.toList_toArray,List.zip_cons_cons,List.zip_nil_right,List.zipIdx_cons,List.zipIdx_nil,List.forIn_cons,List.forIn_nil,bind_assoc,Bool.false_and]
   apply wpAny_bind
   refine qJ hu a1 b1 ?_
   unfold dX at hR
   by_cases e1:p1=q1
   ·rw [if_pos e1] at hR
    rw [decide_eq_true e1]
    simp only [Bool.not_true,Bool.false_eq_true,if_false,pure_bind,bind_assoc]
    apply wpAny_bind
    refine qJ hu a2 b2 ?_
    unfold dX at hR
    by_cases e2:p2=q2
    ·rw [if_pos e2] at hR
     rw [decide_eq_true e2]
     simp only [Bool.not_true,Bool.false_eq_true,if_false,pure_bind]
     exact wpAny_pure hR
    ·rw [if_neg e2] at hR
     rw [decide_eq_false e2]
     simp only [Bool.not_false,if_true,bind_assoc,pure_bind]
     apply wpAny_bind
     exact ku hu a2 b2 (wpAny_pure hR)
   ·rw [if_neg e1] at hR
    rw [decide_eq_false e1]
    simp only [Bool.not_false,if_true,bind_assoc,pure_bind]
    apply wpAny_bind
    exact ku hu a1 b1 (wpAny_pure hR)
 ·obtain ⟨p1,p2,p3,rfl⟩:=qB l1
  obtain ⟨q1,q2,q3,rfl⟩:=qB l2
  obtain ⟨u1,us,rfl,a1,h5⟩:=h5.cons_inv
  obtain ⟨u2,us,rfl,a2,h5⟩:=h5.cons_inv
  obtain ⟨u3,us,rfl,a3,h5⟩:=h5.cons_inv
  obtain rfl:=h5.nil_inv
  obtain ⟨v1,vs,rfl,b1,k5⟩:=k5.cons_inv
  obtain ⟨v2,vs,rfl,b2,k5⟩:=k5.cons_inv
  obtain ⟨v3,vs,rfl,b3,k5⟩:=k5.cons_inv
  obtain rfl:=k5.nil_inv
  ·clear h2 h4 k2 k4 h3 k3
   simp only [List.toList_toArray,List.zip_cons_cons,List.zip_nil_right,List.zipIdx_cons,List.zipIdx_nil,List.forIn_cons,List.forIn_nil,bind_assoc,Bool.false_and]
   apply wpAny_bind
   refine qJ hu a1 b1 ?_
   unfold dX at hR
   by_cases e1:p1=q1
   ·rw [if_pos e1] at hR
    rw [decide_eq_true e1]
    simp only [Bool.not_true,Bool.false_eq_true,if_false,pure_bind,bind_assoc]
    apply wpAny_bind
    refine qJ hu a2 b2 ?_
    unfold dX at hR
    by_cases e2:p2=q2
    ·rw [if_pos e2] at hR
     rw [decide_eq_true e2]
     simp only [Bool.not_true,Bool.false_eq_true,if_false,pure_bind,bind_assoc]
     apply wpAny_bind
     refine qJ hu a3 b3 ?_
     unfold dX at hR
     by_cases e3:p3=q3
     ·rw [if_pos e3] at hR
      rw [decide_eq_true e3]
      simp only [Bool.not_true,Bool.false_eq_true,if_false,pure_bind]
      exact wpAny_pure hR
     ·rw [if_neg e3] at hR
      rw [decide_eq_false e3]
      simp only [Bool.not_false,if_true,bind_assoc,pure_bind]
      apply wpAny_bind
      exact ku hu a3 b3 (wpAny_pure hR)
    ·rw [if_neg e2] at hR
     rw [decide_eq_false e2]
     simp only [Bool.not_false,if_true,bind_assoc,pure_bind]
     apply wpAny_bind
     exact ku hu a2 b2 (wpAny_pure hR)
   ·rw [if_neg e1] at hR
    rw [decide_eq_false e1]
    simp only [Bool.not_false,if_true,bind_assoc,pure_bind]
    apply wpAny_bind
    exact ku hu a1 b1 (wpAny_pure hR)
theorem C7 {n:Nat} (hn:n=2∨n=3) (hu:A.units < cLine) {h:Heap} {t:Shared} (g:eU h t.heap):Ask P w A t (uV n h) (tuples' false):=
 ⟨fun E x y p q R kx ky hR=>Lv hn hu ((C5 kx).grow g) ((C5 ky).grow g) hR⟩
theorem Aj {n:Nat} (hn:n=2∨n=3) {vs:List Value} (h2:1≤vs.length) (hv:∀ v∈vs,∃ p,pJ n s.heap v p) {Q:SortKind→Shared→Prop} (h:Q (tuples' false) s):wpAny (model P w) A (keyKind' vs.toArray) Q E s:=by
 rw [keyKind'_eq,List.mapM_toArray]
 simp only [bind_map_left]
 apply wpAny_bind
 refine mW (fun _ b=> ∃ u p,b=some u∧lD s.heap u p) vs _ (fun v hm Q hQ=>?_) fun bs hb=>?_
 ·obtain ⟨ps,hl,a,o,its,m,rfl,k2,k3,k4,k5⟩:=hv v hm
  rw [t6]
  apply wpAny_bind
  refine wpAny_typeOf (T:= "tuple") ⟨o,k2,k3⟩ ?_
  have e:(Value.type "tuple" !=Value.type "tuple")=false:=by decide
  rw [e]
  simp only [Bool.false_eq_true,if_false,pure_bind]
  apply wpAny_bind;apply listItems_at k2 k4
  cases ps with
  | nil=>simp at hl;omega
  | cons p ps=>
    obtain ⟨u,us,rfl,a,_⟩:=k5.cons_inv
    exact wpAny_pure (hQ _ ⟨u,p,rfl,a⟩)
 ·have all:∀ (vs:List Value) (bs:List (Option Value)),Paired (fun _ b=> ∃ u p,b=some u∧lD s.heap u p) vs bs→bs.length=vs.length∧(∀ b∈bs,∃ u p,b=some u∧lD s.heap u p):=by
   intro vs
   induction vs with
   | nil=>intro bs q;cases q;exact ⟨rfl,fun _ z=>by cases z⟩
   | cons v vs ih=>
     intro bs q
     cases q with
     | cons q1 q2=>
       obtain ⟨l,m⟩:=ih _ q2
       refine ⟨by simp [l],fun b hb=>?_⟩
       rcases List.mem_cons.mp hb with rfl | hb
       ·exact q1
       ·exact m b hb
  obtain ⟨hl,hm⟩:=all vs bs hb
  have c:(bs.toArray.all fun b=>b.isSome)=true:=by
   simp only [List.all_toArray,List.all_eq_true]
   intro b hb
   obtain ⟨u,p,rfl,_⟩:=hm b hb
   rfl
  rw [if_pos c]
  apply wpAny_bind;apply wpAny_rule
  rw [oneTypeOnly'_eq]
  have ef:bs.toArray.filterMap id=(bs.filterMap id).toArray:=by simp
  rw [ef,List.mapM_toArray]
  simp only [bind_map_left,bind_assoc]
  apply wpAny_bind
  refine mW (fun _ b=>b=Value.type "tuple") _ _ (fun v hv' Q hQ=>?_) fun cs hc=>?_
  ·obtain ⟨b,hb1,hb2⟩:=List.mem_filterMap.mp hv'
   obtain ⟨u,p,rfl,a,o,t,u',m,rfl,k2,k3,k4⟩:=hm b hb1
   have hb2:some (Value.ref a)=some v:=hb2
   cases hb2
   exact wpAny_typeOf (T:= "tuple") ⟨o,k2,k3⟩ (hQ _ rfl)
  ·have len:1≤(bs.filterMap id).length:=by
    cases bs with
    | nil=>simp at hl;omega
    | cons b bs=>
      obtain ⟨u,p,rfl,_⟩:=hm b (List.mem_cons_self ..)
      simp
   have all2:∀ (us cs:List Value),Paired (fun _ b=>b=Value.type "tuple") us cs→cs=us.map fun _=>Value.type "tuple" :=by
    intro us
    induction us with
    | nil=>intro cs q;cases q;rfl
    | cons u us ih=>intro cs q;cases q with | cons q1 q2=>rw [q1,ih _ q2];rfl
   rw [all2 _ _ hc]
   generalize bs.filterMap id=us at len
   cases us with
   | nil=>simp at len
   | cons u us=>
     have e0:(List.map (fun _=>Value.type "tuple") (u :: us)).toArray[0]?=some (Value.type "tuple"):=by simp
     rw [e0]
     have e1:((List.map (fun _=>Value.type "tuple") (u :: us)).toArray.all fun x=>x == Value.type "tuple")=true:=by
      simp only [List.all_toArray,List.all_map,List.all_eq_true]
      intro _ _;rfl
     simp only [e1,if_true,pure_bind]
     exact wpAny_pure h
end
noncomputable def iI (n:Nat) (h:Heap) (v:Value):List Pl:=Option.getD (α:=List Pl) ((uV n h).keyOf v) []
theorem qe {n:Nat} {h:Heap} {v:Value} {p:List Pl} (a:pJ n h v p):iI n h v=p:=by
 unfold iI
 have e:(uV n h).keyOf v=some p:=uW a
 exact congrArg (fun o=>Option.getD (α:=List Pl) o []) e
def iJ (n:Nat) (h:Heap):List Value→List (List Pl)→Prop:=Paired (pJ n h)
theorem iJ.keys {n:Nat} {h:Heap}:∀ {us:List Value} {ps:List (List Pl)},iJ n h us ps→us.map (iI n h)=ps
 | _,_,.nil=>rfl
 | _,_,.cons a r=>by rw [List.map_cons,qe a,iJ.keys r]
theorem iJ.mem {n:Nat} {h:Heap}:∀ {us:List Value} {ps:List (List Pl)} {v:Value},iJ n h us ps→v∈us→∃ p,pJ n h v p
 | _,_,v,.nil,m=>by cases m
 | _,_,v,.cons a r,m=>by
   rcases List.mem_cons.mp m with rfl | m
   ·exact ⟨_,a⟩
   ·exact iJ.mem r m
theorem wW {n:Nat} (hn:n=2∨n=3) {P:Program} {w:World} {A:Around} {E:Value→Shared→Prop} {s:Shared} {l:Addr} {vs:List Value} {ps:List (List Pl)} {Q:Value→Shared→Prop} (hu:A.units+64 < cLine) (hl:s.heap.IsList l vs.toArray) (hv:iJ n s.heap vs ps) (h64:vs.length < 64)
 (h:∀ (out:List Value) (qs:List (List Pl)),(∀ v∈out,v∈vs)→qs=out.map (iI n s.heap)→qs.Perm ps→qs.Pairwise (fun p q=>dX q p=false)→Q (.ref (s.heap.objs.size+1)) { s with heap:=sortedAll s.heap vs out.toArray }) :
 wpAny (model P w) A (call (.builtin "sorted") [.ref l]) Q E s:=by
 have hk:KeysOf (uV n s.heap) (pairsOf vs):=fun p hp=>by
  rw [pairsOf_toList] at hp
  obtain ⟨q,a⟩:=hv.mem (cu hp).2
  exact ⟨q,uW a⟩
 refine tY (κ:=uV n s.heap) (kd:=tuples' false) hl hk (fun t E Q g h2 q=>Aj hn (by omega) (fun v m=>?_) q) (fun t g=>C7 hn (by show A.units+1+1 < cLine;omega) g) h64 fun y hp hs=>?_
 ·obtain ⟨p,a⟩:=hv.mem m
  exact ⟨p,a.grow g⟩
 ·have pl:y.toList.Perm (vs.zip vs):=by rw [← pairsOf_toList];exact Array.perm_iff_toList_perm.mp hp
  have same:∀ p∈y.toList,p.1=p.2∧p.1∈vs:=fun p m=>cu (pl.mem_iff.mp m)
  have eo:y.map (·.2)=(y.toList.map (·.2)).toArray:=by rw [← Array.toList_map,Array.toArray_toList]
  rw [eo]
  refine h (y.toList.map (·.2)) _ (fun v m=>?_) rfl ?_ ?_
  ·obtain ⟨p,m2,rfl⟩:=List.mem_map.mp m
   rw [← (same p m2).1];exact (same p m2).2
  ·have q:=(pl.map (fun p=>p.2)).map (iI n s.heap)
   have e:(vs.zip vs).map (fun p=>p.2)=vs:=List.map_snd_zip (Nat.le_refl _)
   rw [e,hv.keys] at q
   exact q
  ·rw [List.pairwise_iff_getElem]
   intro i j hi hj hij
   have li:i < y.size:=by simpa using hi
   have lj:j < y.size:=by simpa using hj
   have q:=hs i j (Nat.le_of_lt hij) (by rw [← hp.size_eq];exact lj)
   have key:∀ k (hk:k < y.size),KK (uV n s.heap) y k=iI n s.heap y[k].2:=fun k hk=>by
    unfold KK
    rw [getElem?_pos y k hk]
    show Option.getD (α:=List Pl) ((uV n s.heap).keyOf y[k].1) []=_
    rw [(same y[k] (by simp)).1]
    rfl
   have q:(uV n s.heap).blt (KK (uV n s.heap) y j) (KK (uV n s.heap) y i)=false:=q
   rw [key i li,key j lj] at q
   have q:dX (iI n s.heap y[j].2) (iI n s.heap y[i].2)=false:=q
   simpa using q
def tD (ps:List Pl):D:= .tup (ps.map Pl.d)
theorem C8 {n:Nat} {P:Program} {w:World} {K:PySem.W.Frag} {H:Hp} {h:Heap} {ps:List Pl} {x:V} {u:Value} (ok:j3 P w H h) (hl:ps.length=n) (d:Dat K H (tD ps) x) (r:RelV x u):pJ n h u ps:=by
 obtain ⟨a,xs,rfl,ha,hx⟩:=bK.mp d
 obtain rfl:u=Value.ref a:=r
 obtain ⟨its,rv,⟨o,h1,h2,m,h3⟩,_⟩:=eX ok ha
 exact ⟨hl,a,o,its,m,rfl,h1,h2,h3,i8 ok hx rv⟩
theorem nZ {n:Nat} {P:Program} {w:World} {K:PySem.W.Frag} {H:Hp} {h:Heap} (ok:j3 P w H h):∀ {ps:List (List Pl)} {xs:List V} {us:List Value},(∀ p∈ps,p.length=n)→aG K H (ps.map tD) xs→Vals xs us→iJ n h us ps
 | [],xs,us,_,d,r=>by rw [aL.mp d] at r;cases r;exact .nil
 | p :: ps,xs,us,hl,d,r=>by
   obtain ⟨v,vs,rfl,d1,d2⟩:=aF.mp d
   cases r with
   | cons r1 r2=>exact .cons (C8 ok (hl p (List.mem_cons_self ..)) d1 r1) (nZ ok (fun q hq=>hl q (List.mem_cons_of_mem _ hq)) d2 r2)
theorem mj {n:Nat} {K:PySem.W.Frag} {H:Hp} {h:Heap} {P:Program} {w:World} (ok:j3 P w H h) {ps:List (List Pl)} {zs:List V} {vs:List Value} (hl:∀ p∈ps,p.length=n) (d:aG K H (ps.map tD) zs) (r:Vals zs vs):∀ (out:List Value),(∀ v∈out,v∈vs)→
 ∃ ws,Vals ws out∧aG K H ((out.map (iI n h)).map tD) ws
 | [],_=>⟨[],.nil,aL.mpr rfl⟩
 | v :: out,m=>by
   obtain ⟨ws,h1,h2⟩:=mj ok hl d r out fun u hu=>m u (List.mem_cons_of_mem _ hu)
   have one:∀ {ps:List (List Pl)} {zs:List V} {vs:List Value},(∀ p∈ps,p.length=n)→aG K H (ps.map tD) zs→Vals zs vs→v∈vs→∃ (p:List Pl) (x:V),p.length=n∧RelV x v∧Dat K H (tD p) x:=by
    intro ps
    induction ps with
    | nil=>intro zs vs _ d r m;rw [aL.mp d] at r;cases r;cases m
    | cons p ps ih=>
      intro zs vs hl d r m
      obtain ⟨x,xs,rfl,d1,d2⟩:=aF.mp d
      cases r with
      | cons r1 r2=>
        rcases List.mem_cons.mp m with rfl | m
        ·exact ⟨p,x,hl p (List.mem_cons_self ..),r1,d1⟩
        ·exact ih (fun q hq=>hl q (List.mem_cons_of_mem _ hq)) d2 r2 m
   obtain ⟨p,x,lp,rx,dx⟩:=one hl d r (m v (List.mem_cons_self ..))
   refine ⟨x :: ws,.cons rx h1,?_⟩
   rw [List.map_cons,List.map_cons,qe (C8 ok lp dx rx)]
   exact aF.mpr ⟨x,ws,rfl,dx,h2⟩
section
variable {X:Cx}
def C9 (n:Nat):List D→Mp→DK→Prop:=fun ds M Q=> ∃ (l:Addr) (ps:List (List Pl)),ds= [.ref l]∧M l=some (.lst (ps.map tD))∧(∀ p∈ps,p.length=n)∧ps.length < 64∧∀ (p:Addr) (qs:List (List Pl)),M p=none→qs.Perm ps→qs.Pairwise (fun p q=>dX q p=false)→Q (.ref p) (aA M p (.lst (qs.map tD)))
theorem n8 {n:Nat} (hn:n=2∨n=3) (hu:X.A.units+64 < cLine):Call3 X (.builtin "sorted") (C9 n):=by
 constructor
 intro pins s σ H M xs ds us Q I rm rs dx ⟨l,ps,e,hM,Lw,h64,q⟩
 subst e
 obtain ⟨v,rfl,hv⟩:=mS dx
 obtain rfl:=aK.mp hv
 obtain ⟨u,rfl,r1⟩:=vals1 rs
 obtain rfl:u=Value.ref l:=r1
 obtain ⟨zs,hH,hz⟩:=rm.lst hM
 obtain ⟨its,rv,pl,hsz⟩:=I.list (iD.of (K:=X.K) hH)
 have hl:its.length=ps.length:=by rw [Vals.len rv,← hz.length,List.length_map]
 refine wW hn hu pl.isList (nZ I.hok Lw hz rv) (by omega) fun out qs hm eq hp hs=>?_
 obtain ⟨ws,w1,w2⟩:=mj I.hok Lw hz rv out hm
 rw [← eq] at w2
 obtain ⟨m,hm'⟩:=sortedAll_at s.heap its out.toArray
 have fr:H (s.heap.objs.size+1)=none:=I.hok.fresh (Nat.le_succ _)
 have zw:ws.length≤sizeLine:=by
  rw [← w2.length,List.length_map,hp.length_eq,sizeLine_eq];omega
 refine ⟨.ref (s.heap.objs.size+1),upd H (s.heap.objs.size+1) (.lst ws),I.laid (t':=s.toks) (fun b o e=>sortedAll_old e) (Nat.le_succ _) ⟨zw,out,m,w1,hm'⟩,rfl,.ref _,aA M _ (.lst (qs.map tD)),Fr.new fr fun _ hb=>bC hb,aK.mpr rfl,rm.newL fr w2,q _ _ (rm.free fr) hp hs⟩
end
end L3
namespace L3
open PySem
def kB (t:List Pl):Prop:= ∃ u v w,t= [u,v,w]∧aZ u v∧aZ u w∧0 < tw u v w
theorem kB.uniq {s t:List Pl} (hs:kB s) (ht:kB t) (h:s.Perm t):s=t:=by
 obtain ⟨u,v,w,rfl,b1,b2,p1⟩:=hs
 obtain ⟨a,b,c,rfl,c1,c2,p2⟩:=ht
 rcases CP h with ⟨rfl,rfl,rfl⟩ | ⟨rfl,rfl,rfl⟩ | ⟨rfl,rfl,rfl⟩ | ⟨rfl,rfl,rfl⟩ | ⟨rfl,rfl,rfl⟩ | ⟨rfl,rfl,rfl⟩
 ·rfl
 ·rw [kr] at p2;omega
 ·exact absurd c1 (bH b1)
 ·exact absurd c1 (bH b2)
 ·exact absurd c2 (bH b1)
 ·exact absurd c2 (bH b2)
theorem Ak {a b c:Pl} (h:tw a b c≠0):a≠b∧a≠c∧b≠c:=
 ⟨fun e=>by subst e;rw [mV] at h;exact h rfl,fun e=>by subst e;rw [qw] at h;exact h rfl,fun e=>by subst e;rw [wN] at h;exact h rfl⟩
def Dc (a b c:Pl):List Pl:=if aZ a b∧aZ a c then [a,b,c] else if aZ b c then [b,c,a] else [c,a,b]
theorem Al {a b c:Pl} (h:0 < tw a b c):kB (Dc a b c)∧(Dc a b c).Perm [a,b,c]:=by
 obtain ⟨n1,n2,n3⟩:=Ak (show tw a b c≠0 by omega)
 unfold Dc
 by_cases k:aZ a b∧aZ a c
 ·rw [if_pos k]
  exact ⟨⟨a,b,c,rfl,k.1,k.2,h⟩,.refl _⟩
 ·rw [if_neg k]
  by_cases k2:aZ b c
  ·rw [if_pos k2]
   refine ⟨⟨b,c,a,rfl,k2,?_,by rw [jy];exact h⟩,(List.perm_append_comm (l₁:=[b,c]) (l₂:=[a]))⟩
   rcases iG n1 with z | z
   ·exact absurd ⟨z,c6 z k2⟩ k
   ·exact z
  ·rw [if_neg k2]
   have cb:aZ c b:=by rcases iG n3 with z | z;exact absurd z k2;exact z
   have ca:aZ c a:=by
    rcases iG n2 with z | z
    ·exact absurd ⟨c6 z cb,z⟩ k
    ·exact z
   exact ⟨⟨c,a,b,rfl,ca,cb,by rw [← jy c a b];exact h⟩,(List.perm_append_comm (l₁:=[c]) (l₂:=[a,b]))⟩
def Dd (a b c:Pl):List Pl:=if 0 < tw a b c then Dc a b c else Dc a c b
theorem uX {a b c:Pl} (h:tw a b c≠0):kB (Dd a b c)∧(Dd a b c).Perm [a,b,c]:=by
 unfold Dd
 by_cases k:0 < tw a b c
 ·rw [if_pos k];exact Al k
 ·rw [if_neg k]
  obtain ⟨h1,h2⟩:=Al (a:=a) (b:=c) (c:=b) (by rw [kr];omega)
  exact ⟨h1,h2.trans (.cons a (.swap b c []))⟩
theorem Am {u v w a b c:Pl} (h: [u,v,w].Perm [a,b,c]):tw u v w≠0↔tw a b c≠0:=by
 rcases CP h with ⟨rfl,rfl,rfl⟩ | ⟨rfl,rfl,rfl⟩ | ⟨rfl,rfl,rfl⟩ | ⟨rfl,rfl,rfl⟩ | ⟨rfl,rfl,rfl⟩ | ⟨rfl,rfl,rfl⟩
 ·exact Iff.rfl
 ·rw [kr u v w];omega
 ·rw [uR u v w];omega
 ·rw [jy w u v]
 ·rw [← jy u v w]
 ·rw [uR v w u,jy u v w];omega
theorem wX {t:List Pl} {a b c:Pl} (ht:kB t) (h:t.Perm [a,b,c]):tw a b c≠0∧t=Dd a b c:=by
 have hn:tw a b c≠0:=by
  obtain ⟨u,v,w,rfl,_,_,p⟩:=ht
  exact (Am h).mp (by omega)
 obtain ⟨h1,h2⟩:=uX hn
 exact ⟨hn,ht.uniq h1 (h.trans h2.symm)⟩
theorem yM {a b c u v w:Pl} (hn:tw a b c≠0) (hp: [u,v,w].Perm [a,b,c]) (hs: [u,v,w].Pairwise (fun p q=> ¬ aZ q p)) :
 Dd a b c=if 0 < tw u v w then [u,v,w] else [u,w,v]:=by
 have hn2:tw u v w≠0:=(Am hp).mpr hn
 obtain ⟨n1,n2,n3⟩:=Ak hn2
 have b1:aZ u v:=by rcases iG n1 with z | z;exact z;exact absurd z ((List.pairwise_cons.mp hs).1 v (by simp))
 have b2:aZ u w:=by rcases iG n2 with z | z;exact z;exact absurd z ((List.pairwise_cons.mp hs).1 w (by simp))
 by_cases k:0 < tw u v w
 ·rw [if_pos k]
  exact (wX ⟨u,v,w,rfl,b1,b2,k⟩ hp).2.symm
 ·rw [if_neg k]
  exact (wX ⟨u,w,v,rfl,b2,b1,by rw [kr];omega⟩ ((List.Perm.cons u (.swap v w [])).trans hp)).2.symm
def one (ok:List Pl→Bool) (a b c:Pl):List (List Pl):=if tw a b c≠0∧ok (Dd a b c)=true then [Dd a b c] else []
def c2:Nat→Nat | 0=>0 | m+1=>c2 m+m
def c3:Nat→Nat | 0=>0 | k+1=>c3 k+c2 k
end L3
namespace L3
open PySem PySem.Spec PyProof.Rows L2
theorem IW {u v w:Pl} (k:di (.int (tw u v w).sign) (.int 1)=true):0 < tw u v w:=by
 rw [eB] at k
 exact Int.sign_eq_one_iff_pos.mp (eq_of_beq k)
theorem Fx {u v w:Pl} (k:¬ di (.int (tw u v w).sign) (.int 1)=true):¬ 0 < tw u v w:=fun z=>by
 apply k
 rw [eB,Int.sign_eq_one_of_pos z]
 rfl
theorem jA {ts:List (List Pl)} {i:Nat} {x:D} (h:(ts.map tD)[i]?=some x):∃ t,ts[i]?=some t∧x=tD t:=by
 rw [List.getElem?_map] at h
 cases e:ts[i]? with
 | none=>rw [e] at h;cases h
 | some p=>rw [e] at h;exact ⟨p,rfl,(Option.some.inj h).symm⟩
theorem ia {ts:List (List Pl)} {f:List Pl→Bool} {i:Nat} {t:List Pl} (h:ts[i]?=some t):(ts.take (i+1)).filter f=(ts.take i).filter f ++ (if f t=true then [t] else []):=by
 rw [List.take_succ,h,List.filter_append]
 congr 1
 show List.filter f [t]=_
 rw [List.filter_cons]
 rfl
theorem ic:∀ {as bs:List (List Pl)},as.Perm bs→as.Pairwise (fun a b=>dX b a=false)→bs.Pairwise (fun a b=>dX b a=false)→as=bs
 | [],bs,h,_,_=>by rw [List.nil_perm.mp h]
 | a :: as,[],h,_,_=>by simp at h
 | a :: as,b :: bs,h,h1,h2=>by
   obtain ⟨p1,p2⟩:=List.pairwise_cons.mp h1
   obtain ⟨q1,q2⟩:=List.pairwise_cons.mp h2
   have e:a=b:=by
    have ma:a∈b :: bs:=h.mem_iff.mp (List.mem_cons_self ..)
    have mb:b∈a :: as:=h.mem_iff.mpr (List.mem_cons_self ..)
    rcases List.mem_cons.mp ma with e | ma
    ·exact e
    rcases List.mem_cons.mp mb with e | mb
    ·exact e.symm
    rcases m9 a b with c | c | c
    ·rw [q1 a ma] at c;cases c
    ·exact c
    ·rw [p1 b mb] at c;cases c
   subst e
   rw [ic ((List.perm_cons a).mp h) p2 q2]
theorem cW (fs:List (List Pl)):(fs.map tD).all (plain 9)=true:=by
 rw [List.all_eq_true]
 intro d hd
 obtain ⟨t,_,rfl⟩:=List.mem_map.mp hd
 show (t.map Pl.d).all (plain 8)=true
 rw [List.all_eq_true]
 intro d hd
 obtain ⟨p,_,rfl⟩:=List.mem_map.mp hd
 rfl
end L3
namespace L3
open PySem PySem.Spec PyProof.Rows L2 Att
def G2 (t:List Pl):Prop:= ∃ a b c:Pl,t= [a,b,c]∧a.Ok 140∧b.Ok 140∧c.Ok 140
def PY:List Pl→Int
 | [a,b,c]=>tw a b c
 | _=>0
def wY (ts:List (List Pl)):Int:=(ts.map PY).sum
theorem map_take {α β:Type} {f:α→β} {xs:List α} {i:Nat} {x:α} (h:xs[i]?=some x):(xs.take (i+1)).map f=(xs.take i).map f ++ [f x]:=by
 rw [List.take_succ,h,List.map_append]
 rfl
end L3
namespace PySem
open PySem.Calls PySem.W
theorem yN:typeLookup (.type "list_reverseiterator") "__len__" =pure none:=by rw [typeLookup_type,builtinLookup_eq_fast];kernel_rfl
theorem De:typeLookup (.type "list_reverseiterator") "__length_hint__" =pure (some (.builtin "list_reverseiterator.__length_hint__")):=by rw [typeLookup_type,builtinLookup_eq_fast];kernel_rfl
theorem Fy:isSubtype (.type "list_reverseiterator") (.type "list_reverseiterator")=pure true:=by rw [isSubtype_type];kernel_rfl
section
variable {prog:Program} {w:World} {A:Around} {s:Shared} {R:Result→Shared→Prop} {E:Value→Shared→Prop}
variable {I:Addr} {fp wr:List Addr} {G:Array GenState→Array GenState→Prop} {n:Nat} {P:Nat→Value→Prop} {St:Nat→Shared→Prop}
theorem Df {Q:Bool→Shared→Prop} (hT:s.TypeIs (.ref I) "list_reverseiterator") (h:Q false s):wpAny (model prog w) A (Builtin.List.listLengthHint (.ref I)) Q E s:=by
 unfold Builtin.List.listLengthHint
 refine wpAny_bind (wpAny_specialOf hT yN ?_)
 show wpAny _ A (specialOf (Value.ref I) (Str.ofString "__length_hint__") >>= _) _ _ _
 refine wpAny_bind (wpAny_specialOf hT De ?_)
 have hs:splitId "list_reverseiterator.__length_hint__" =some ("list_reverseiterator","__length_hint__"):=by decide +kernel
 simp only [hs]
 refine wpAny_bind (wpAny_isInstance (T:= "list_reverseiterator") (b:=true) hT Fy ?_)
 simp only [Bool.not_true,Bool.false_eq_true,if_false]
 exact wpAny_pure h
theorem n9 (W:WalksS prog w A.in1 I fp wr G n P St) (hT:∀ i s,St i s→s.TypeIs (.ref I) "list_reverseiterator") (S:Addr) (res:Value) (c₀:Nat) (hst:St 0 s) (hSf:S∉fp) (hI:I∈fp)
 (hS:s.heap.get? S=some { cls:= .type "list",data:= .seq #[] c₀ })
 (hR:∀ s' acc' c',Moved (S :: wr) G s s'→s'.heap.get? S=some { cls:= .type "list",dict:=none,data:= .seq acc' c',slots:= #[] }→ItemsOf P acc' n→R (.ok (.ret res)) s') (hn:n≤sizeLine) :
 wpAny (model prog w) A.in1 (Builtin.List.listExtendWith (.ref S) (.ref I) res)
  (fun fin s'=>match fin with | .done f=>R (.ok f) s' | .again c'=>c'.quiet=true∧codeAny (model prog w) A c' R s') (fun e s'=>R (.error e) s') s:=by
 have hSI:S≠I:=fun e=>hSf (e▸hI)
 unfold Builtin.List.listExtendWith
 refine wpAny_bind (wpAny_typeOf (hT 0 _ hst) ?_)
 have h1:Builtin.List.listSameRef (.ref S) (.ref I)=false:=by simp [Builtin.List.listSameRef,hSI]
 have h2:(Value.type "list_reverseiterator" == Value.type "list")=false:=by decide
 have h3:(Value.type "list_reverseiterator" == Value.type "tuple")=false:=by decide
 simp only [h1,h2,h3,Bool.or_false,Bool.false_eq_true,if_false]
 refine wpAny_bind (W.self 0 _ _ _ hst ?_)
 refine wpAny_bind (wpAny_holding (Df (hT 0 _ hst) ?_))
 show wpAny _ A.in1 (again (.builtin "list.extend.loop" ⟨[.ref S,.ref I,res],[]⟩)) _ _ _
 exact wpAny_pure ⟨plainId_quiet F.plain_extend_loop _,codeAny_extend_loopS W hn _ hSf _ n 0 _ _ _ rfl (Nat.zero_le _) hst hS (ItemsOf.nil P) fun s' acc' c' hm hS' hacc=>hR s' acc' c' hm hS' hacc⟩
theorem lE (W:WalksS prog w A.in1 I fp wr G n P St) (hT:∀ i s,St i s→s.TypeIs (.ref I) "list_reverseiterator") (S:Addr) (hst:St 0 s) (hSf:S∉fp) (hI:I∈fp)
 (hS:s.heap.get? S=some { cls:= .type "list",data:= .seq #[] })
 (hR:∀ s' acc' c',Moved (S :: wr) G s s'→s'.heap.get? S=some { cls:= .type "list",dict:=none,data:= .seq acc' c',slots:= #[] }→ItemsOf P acc' n→R (.ok (.ret .none)) s') (hn:n≤sizeLine) :
 wpAny (model prog w) A.in1 (Builtin.«list.__init__» ⟨[.ref S,.ref I],[]⟩)
  (fun fin s'=>match fin with | .done f=>R (.ok f) s' | .again c'=>c'.quiet=true∧codeAny (model prog w) A c' R s') (fun e s'=>R (.error e) s') s:=by
 show wpAny _ A.in1 (do let old ← Builtin.List.listItems (.ref S);Builtin.List.listUpdate (.ref S) (fun _=> #[]);letGo old.toList.reverse;Builtin.List.listExtendWith (.ref S) (.ref I) .none) _ _ s
 refine wpAny_bind ?_
 unfold Builtin.List.listItems
 refine wpAny_bind (wpAny_seqItems hS rfl (wpAny_pure ?_))
 show wpAny _ A.in1 (updateSeq S (fun _=> #[]) >>= fun _=>letGo (#[]:Array Value).toList.reverse >>= fun _=>Builtin.List.listExtendWith (.ref S) (.ref I) .none) _ _ s
 refine wpAny_bind (wpAny_updateSeq hS rfl ?_)
 have JV:=Heap.get?_update_self (Obj.mapSeq (fun _=>(#[]:Array Value))) hS rfl
 have FA:∀ b o,b≠S→s.heap.get? b=some o→(s.heap.update S (Obj.mapSeq (fun _=>(#[]:Array Value)))).get? b=some o:=
  fun b o hb e=>(Heap.get?_update_other _ _ (Ne.symm hb)).trans e
 refine wpAny_bind (wpAny_letGo ?_)
 refine n9 W hT S .none _ (W.frame 0 s _ s.toks hst (Nat.le_refl _) fun b hb o e=>FA b o (fun h=>hSf (h▸hb)) e) hSf hI JV (fun s' acc' c' hm hS' hacc=>?_) hn
 exact hR s' acc' c' (Moved.trans W.gtrans ((Moved.refl W.grefl).then_heap (Nat.le_refl _) fun b o hb e=>FA b o (fun h=>hb (h▸List.mem_cons_self)) e) hm) hS' hacc
theorem sF {Q:Value→Shared→Prop} (W:WalksS prog w A.in1.in1 I fp wr G n P St) (hT:∀ i s,St i s→s.TypeIs (.ref I) "list_reverseiterator") (hst:St 0 s) (hfp:∀ b∈fp,b < s.heap.objs.size) (hI:I∈fp)
 (hQ:∀ s' acc' c',Moved (s.heap.objs.size :: wr) G { s with heap:=s.heap.push { cls:= .type "list",data:= .seq #[] } } s'→
  s'.heap.get? s.heap.objs.size=some { cls:= .type "list",dict:=none,data:= .seq acc' c',slots:= #[] }→ItemsOf P acc' n→Q (.ref s.heap.objs.size) s') (hn:n≤sizeLine) :
 wpAny (model prog w) A (call (.type "list") [.ref I]) Q E s:=by
 have hSf:s.heap.objs.size∉fp:=fun hm=>Nat.lt_irrefl _ (hfp _ hm)
 refine callType_codes (Q₁:=fun obj s₁=>obj= .ref s.heap.objs.size∧s₁= { s with heap:=s.heap.push { cls:= .type "list",data:= .seq #[] } }) F.called_list (F.typeCall_list_1 _) F.entry_list_init
  (code_list_new _ ⟨rfl,rfl⟩) fun obj s₁ h₁=>?_
 obtain ⟨rfl,rfl⟩:=h₁
 have hS:(s.heap.push { cls:= .type "list",data:= .seq #[] }).get? s.heap.objs.size=some { cls:= .type "list",data:= .seq #[] }:=Heap.get?_push_size _ rfl
 refine ⟨⟨_,hS,rfl⟩,F.args_list_init_2 _ _,lE W hT _ (W.frame 0 s _ s.toks hst (Nat.le_refl _) fun b _ o e=>Heap.get?_push_of_some _ e) hSf hI hS (fun s' acc' c' hm hS' hacc=>?_) hn⟩
 exact ⟨rfl,hQ s' acc' c' hm hS' hacc⟩
end
end PySem
namespace L3
open PySem PySem.Spec PyProof.Rows L2
section
variable {X:Cx} {pos:Pos}
def Oj (to:cY):cY:=fun ρ M Q=>to ρ M fun d M1=> ∃ l xs y,d= .ref l∧M1 l=some (.lst (xs ++ [y]))∧Q y (aA M1 l (.lst xs))
theorem aG.snoc {K:PySem.W.Frag} {H:Hp}:∀ {ds:List D} {y:D} {xs:List V},aG K H (ds ++ [y]) xs→∃ zs v,xs=zs ++ [v]∧aG K H ds zs∧Dat K H y v
 | [],y,xs,h=>by
   obtain ⟨v,rfl,hv⟩:=mS h
   exact ⟨[],v,rfl,aL.mpr rfl,hv⟩
 | d :: ds,y,xs,h=>by
   obtain ⟨v,vs,rfl,h1,h2⟩:=aF.mp h
   obtain ⟨zs,u,rfl,h3,h4⟩:=aG.snoc h2
   exact ⟨v :: zs,u,rfl,aF.mpr ⟨v,zs,rfl,h1,h3⟩,h4⟩
theorem Lx {o:Expr} {to:cY} {apos:Pos} (ho:cM X o to) (IE:PE X (.Call (.Attribute o "pop" apos) [] [] pos) (Ky X.K "list" KA (dn X.K to))):cM X (.Call (.Attribute o "pop" apos) [] [] pos) (Oj to):=
 up IE fun σ H ρ M Q r q=>fH r q fun v H' d M' f dv r' ⟨l,xs,y,e1,hM,q2⟩=>by
  subst e1
  obtain rfl:=aK.mp dv
  obtain ⟨ys,ha,hy⟩:=r'.mem.lst hM
  obtain ⟨zs,u,rfl,h1,h2⟩:=aG.snoc hy
  refine ⟨.inl ⟨rfl,_,iD.of ha⟩,l,zs ++ [u],u,rfl,rfl,ha,by simp,?_⟩
  rw [List.dropLast_concat]
  exact ⟨y,aA M' l (.lst xs),f.trans (Fr.write (K:=X.K) hM),Dat.mono (Ext.ko ha) _ _ h2,r'.mem.ko ha h1,q2⟩
theorem wZ {K:PySem.W.Frag} {H:Hp}:∀ {ds:List D} {xs:List V},aG K H ds xs→aG K H ds.reverse xs.reverse
 | [],xs,h=>by rw [aL.mp h];exact aL.mpr rfl
 | d :: ds,xs,h=>by
   obtain ⟨v,vs,rfl,h1,h2⟩:=aF.mp h
   rw [List.reverse_cons,List.reverse_cons]
   exact (wZ h2).append (aG.one h1)
theorem w4:∀ {xs:List V} {us:List Value},Vals xs us→Vals xs.reverse us.reverse
 | _,_,.nil=> .nil
 | _,_,.cons r rr=>by
   rw [List.reverse_cons,List.reverse_cons]
   exact (w4 rr).append (.cons r .nil)
theorem qK:bootBuiltins "reversed" =some (.type "reversed"):=by decide +kernel
def Ly (te:cY):cY:=fun ρ M Q=>te ρ M fun d M1=> ∃ xs,B4 M1 d xs∧∀ p,M1 p=none→Q (.ref p) (aA M1 p (.lst xs.reverse))
theorem Bj {e:Expr} {te:cY} {p1 p2 pos2:Pos} (hc:X.calm=true) (E8:Gl X "list") (hml:X.mg "list" =none) (hgr:Gl X "reversed") (hmr:X.mg "reversed" =none) (he:cM X e te)
 (s1:starEach [e] X.env= [(false,eval e X.env)]:=by rfl)
 (s2:starEach [.Call (.Name "reversed" p2) [e] [] pos2] X.env= [(false,eval (.Call (.Name "reversed" p2) [e] [] pos2) X.env)]:=by rfl) :
 cM X (.Call (.Name "list" p1) [.Call (.Name "reversed" p2) [e] [] pos2] [] pos) (Ly te):=by
 constructor
 intro pins s σ H ρ M Q I r h
 refine wpAny_Call_Name_kw (iC I E8 hml bx ?_ (by decide) (by decide))
 refine PyProof.Rows.callWith_type1 (Q:=EP X pins σ (Post X.K M H Q)) ?_ (by rw [s2];rfl) (by rfl)
 rw [s2]
 show wpAny _ _ (spliced ((false,eval (.Call (.Name "reversed" p2) [e] [] pos2) X.env) :: backTo pos [])) _ _ s
 refine Calls.spliced_cons ?_
 refine wpAny_Call_Name_kw (iC I hgr hmr qK ?_ (by decide) (by decide))
 refine PyProof.Rows.callWith_type1 ?_ (by rw [s1];rfl) (by rfl)
 rw [s1]
 show wpAny _ _ (spliced ((false,eval e X.env) :: backTo pos2 [])) _ _ s
 refine Calls.spliced_cons (dc (he.run pins s σ H ρ M _ I r h) fun v s1 ⟨x,H1,I1,rv,d,M1,f1,dd,lG,xs,hL,q⟩=>Calls.spliced_nil ?_)
 obtain ⟨a,zs,rfl,hz,hd⟩:=hL.sq lG dd
 obtain rfl:v=Value.ref a:=rv
 obtain ⟨its,FD,pl,hsz⟩:=I1.list hz
 have la:a < s1.heap.objs.size:=by obtain ⟨o,e,_⟩:=pl.isList;exact Heap.lt_size e
 refine PySem.call_reversed_list pl.isList ?_
 refine Calls.spliced_nil ?_
 have qd:(s1.heap.push (PySem.revObj a ((its.toArray.size:Int) - 1))).objs.size=s1.heap.objs.size+1:=Heap.size_push ..
 have Tj:zs.length=its.length:=FD.length
 refine sF (PySem.Walks.listRev (A:=X.A.in1.in1) (show X.A.in1.in1.handled=none from I.ok.hd hc) s1.heap.objs.size a (Nat.ne_of_lt la) its.toArray).toS (fun i s st=>st.2.1.typeIs) ?_ ?_ (by simp) (fun s' acc' c' mv hS' hacc=>?_) (by rw [List.size_toArray];omega)
 ·refine ⟨Nat.zero_le _,⟨_,Heap.get?_push_size _ rfl,rfl,?_⟩,?_⟩
  ·simp [PySem.revObj]
  ·obtain ⟨o,e,c,dd⟩:=pl.isList
   exact ⟨o,Heap.get?_push_of_some _ e,c,dd⟩
 ·intro b hb
  show b < (s1.heap.push (PySem.revObj a ((its.toArray.size:Int) - 1))).objs.size
  rw [qd]
  simp only [List.mem_cons,List.not_mem_nil,or_false] at hb
  rcases hb with rfl | rfl
  ·exact Nat.lt_succ_self _
  ·exact Nat.lt_succ_of_lt la
 ·have hS':s'.heap.get? (s1.heap.objs.size+1)=some { cls:= .type "list",dict:=none,data:= .seq acc' c',slots:= #[] }:=by rw [← qd];exact hS'
  have Ol:acc'=its.reverse.toArray:=by
   apply Array.ext'
   rw [List.toList_toArray]
   apply List.ext_getElem?
   intro j
   have Tn:acc'.size=its.length:=by
    have:=hacc.1
    rw [List.size_toArray] at this
    exact this
   by_cases hj:j < its.length
   ·have g1:acc'[j]?=some (acc'[j]'(by omega)):=Array.getElem?_eq_getElem (by omega)
    have g2:=hacc.2 j _ g1
    have g2:its[its.length - 1 - j]?=some (acc'[j]'(by omega)):=by simpa using g2
    rw [List.getElem?_reverse hj,g2]
    rw [Array.getElem?_toList,g1]
   ·rw [List.getElem?_eq_none (by simp;omega),List.getElem?_eq_none (by simp;omega)]
  subst Ol
  have kp:∀ b o,s1.heap.get? b=some o→s'.heap.get? b=some o:=fun b o e=>by
   have lb:=Heap.lt_size e
   refine mv.heap b o ?_ (Heap.get?_push_of_some _ (Heap.get?_push_of_some _ e))
   intro hb
   simp only [List.mem_cons,List.not_mem_nil,or_false] at hb
   rcases hb with z | z
   ·have z:b=(s1.heap.push (PySem.revObj a ((its.toArray.size:Int) - 1))).objs.size:=z
    rw [qd] at z
    rw [z] at lb
    exact absurd lb (Nat.not_lt.mpr (Nat.le_succ _))
   ·rw [z] at lb
    exact Nat.lt_irrefl _ lb
  have fr:H1 (s1.heap.objs.size+1)=none:=I1.hok.fresh (Nat.le_succ _)
  have es:s'= { s1 with heap:=s'.heap,toks:=s'.toks }:=by
   have g:=mv.gens
   have d:=mv.drawn
   have o:=mv.os
   cases s'
   cases s1
   simp only at g d o ⊢
   subst g d o
   rfl
  have I2:Inv X pins σ (upd H1 (s1.heap.objs.size+1) (.lst zs.reverse)) { s1 with heap:=s'.heap,toks:=s'.toks }:=
   I1.laid (t':=s'.toks) kp (Nat.le_succ _) ⟨by rw [List.length_reverse];exact hsz,its.reverse,c',w4 FD,hS'⟩
  rw [es]
  have ev:(Value.ref (s1.heap.push (PySem.revObj a ((its.toArray.size:Int) - 1))).objs.size)= .ref (s1.heap.objs.size+1):=by rw [qd]
  refine ⟨.ref (s1.heap.objs.size+1),_,I2,ev,.ref _,aA M1 _ (.lst xs.reverse),f1.trans (Fr.new fr fun _ hb=>bC hb),aK.mpr rfl,lG.newL fr (wZ hd),q _ (lG.free fr)⟩
end
end L3
namespace L3
open PySem PySem.Spec PyProof.Rows L2
section
variable {X:Cx} {pos:Pos}
end
structure PZ (K:PySem.W.Frag) (J:It) (inv:Hp→Prop) (ds:List L3.D):Prop where
 go:∀ i H,i < ds.length→inv H→J.go i H
 EL:∀ i H x H',i < ds.length→inv H→J.EL i H x H'→(∀ b o,H b=some o→H' b=some o)∧∃ d,ds[i]?=some d∧Dat K H' d x
 stop:∀ H,inv H→J.stop ds.length H
end L3
namespace L2
open PySem PySem.Spec PyProof.Rows
section
variable {X:Cx} {pins:List (Addr ×Obj)} {σ:St} {H:Hp} {s:Shared} {h':Heap}
theorem Inv.FE {t':Nat} {fp:List Addr} (I:Inv X pins σ H s) (k:∀ b o,b∉fp→s.heap.get? b=some o→h'.get? b=some o) (hf:∀ b∈fp,j4 X pins H b):Inv X pins σ H { s with heap:=h',toks:=t' }:=by
 have J4:∀ b u,H b=some u→b∉fp:=fun b u e z=>by rw [(hf b z).1] at e;cases e
 refine I.step (g':=s.gens) (d':=s.drawn) (ch:=fp) (fun b hb=>?_) (fun b o _ _ hc e _=>k b o hc e) (fun b o _ _ hc e _=>⟨o.slots,k b o hc e⟩) (fun _ _ _ _ n=>n)
  (fun b o hc e=>⟨o,k b o hc e⟩) (fun _ _ e=>e) (fun _ _ _ e=>e) (fun b ps e=>⟨#[],by rw [e];simp⟩) (fun m hm=>?_) (fun b u e=>?_) I.bare
 ·obtain ⟨f0,f1,f2,f3,f4,f5⟩:=hf b hb
  exact ⟨f3,f1,f4,f5⟩
 ·obtain ⟨o,es,ep,ho,r⟩:=hm
  exact ⟨o,es,ep,k _ o (fun z=>(hf _ z).2.1 rfl) ho,r⟩
 ·refine (I.hok b u e).stay (fun c v hc q=>k c v ?_ q) (fun _ q=>q) fun _ _ q=>q
  rcases hc with z | z
  ·rw [z];exact J4 b u e
  ·exact J4 c _ z
end
section
variable {X:Cx}
theorem Bk:bootBuiltins "zip" =some (.type "zip"):=by decide +kernel
end
end L2
namespace L3
open PySem PySem.Spec PyProof.Rows L2
def pairD (x y:D):D:= .tup [x,y]
section
variable {X:Cx} {pos:Pos} {body:List Stmt} {g:Ey} {tb:mL}
end
end L3
namespace PySem
open PySem.Calls PySem.W
abbrev iK (h:Heap) (z TI TO T:Addr) (f:Bool):Prop:=
 h.get? z=some { cls:= .type "zip",dict:=none,data:= .fields #[rawInt T,.bool f,.bool false,.ref TI,.ref TO],slots:= #[] }
section
variable {prog:Program} {w:World} {A:Around} {E:Value→Shared→Prop} {s:Shared}
theorem w5 {M:Model} {a:Addr} {Q:Option Obj→Shared→Prop} (h:Q (s.heap.get? a) s):wpAny M A (loadIfAlive a) Q E s:=
 fun _ _ _=>h
theorem ng {z TI TO T:Addr} {f:Bool} {oT:Obj} {Q:Bool→Shared→Prop} (hz:iK s.heap z TI TO T f) (hT:s.heap.get? T=some oT)
 (hQ:∀ h',iK h' z TI TO T true→h'.objs.size=s.heap.objs.size→(∀ c o,c≠z→s.heap.get? c=some o→h'.get? c=some o)→Q false { s with heap:=h' }) :
 wpAny (model prog w) A (Builtin.SmallTypes.ownedTupleIsFree (.ref z)) Q E s:=by
 unfold Builtin.SmallTypes.ownedTupleIsFree
 refine wpAny_bind (wpAny_field hz rfl (x:=rawInt T) rfl ?_)
 show wpAny _ _ (loadIfAlive T >>= _) _ _ _
 refine wpAny_bind (w5 ?_)
 rw [hT]
 show wpAny _ _ (field (.ref z) 1 >>= _) _ _ _
 refine wpAny_bind (wpAny_field hz rfl (x:= .bool f) rfl ?_)
 cases f with
 | true=>exact wpAny_pure (hQ s.heap hz rfl fun _ _ _ e=>e)
 | false=>
   show wpAny _ _ (setField (.ref z) 1 (.bool true) >>= _) _ _ _
   refine wpAny_bind (wpAny_setField_rec hz (by simp) fun h₁ Ml hs₁=>wpAny_pure (hQ h₁ Ml hs₁.1 fun c o c1 e=>hs₁.extBut _ _ c1 e))
theorem sG {z TI TO T i1 i2 l1 l2:Addr} {f:Bool} {k1 k2:Nat} {xs ys:Array Value} {x y:Value} {oT:Obj} {Q:Value→Shared→Prop} (D:ZipApart z TI TO i1 i2 l1 l2)
 (hz:iK s.heap z TI TO T f) (hT:s.heap.get? T=some oT) (hTI:IsPair s.heap TI (.ref i1) (.ref i2))
 (h1:s.heap.IsListIter i1 l1 k1) (h2:s.heap.IsListIter i2 l2 k2) (hl1:s.heap.IsList l1 xs) (hl2:s.heap.IsList l2 ys) (hx:xs[k1]?=some x) (hy:ys[k2]?=some y)
 (hQ:∀ h',iK h' z TI TO T true→h'.IsListIter i1 l1 (k1+1)→h'.IsListIter i2 l2 (k2+1)→IsPair h' s.heap.objs.size x y→h'.objs.size=s.heap.objs.size+1→
  (∀ c o,c≠z→c≠i1→c≠i2→s.heap.get? c=some o→h'.get? c=some o)→Q (.ref s.heap.objs.size) { s with heap:=h' }) :
 wpAny (model prog w) A (Builtin.«zip.__next__» ⟨[.ref z],[]⟩) (fun fin s'=> ∃ v,fin= .done (.ret v)∧Q v s') E s:=by
 show wpAny _ _ (field (.ref z) 2 >>= _) _ _ _
 refine wpAny_bind (wpAny_field hz rfl (x:= .bool false) rfl ?_)
 show wpAny _ _ (field (.ref z) 3 >>= _) _ _ _
 refine wpAny_bind (wpAny_field hz rfl (x:= .ref TI) rfl ?_)
 refine wpAny_bind (wpAny_seqItems hTI rfl ?_)
 show wpAny _ _ (Builtin.SmallTypes.ownedTupleIsFree (.ref z) >>= _) _ _ _
 refine wpAny_bind (ng hz hT fun h₁ Ml hn₁ hk₁=>?_)
 simp only [Bool.false_eq_true,if_false]
 have e1:h₁.IsListIter i1 l1 k1:=h1.at fun o e=>hk₁ i1 o D.i1z e
 have e2:h₁.IsListIter i2 l2 k2:=h2.at fun o e=>hk₁ i2 o D.i2z e
 have m1:h₁.IsList l1 xs:=by obtain ⟨o,e,r⟩:=hl1;exact ⟨o,hk₁ _ _ D.l1z e,r⟩
 have m2:h₁.IsList l2 ys:=by obtain ⟨o,e,r⟩:=hl2;exact ⟨o,hk₁ _ _ D.l2z e,r⟩
 refine wpAny_bind ?_
 rw [← Array.forIn_toList]
 simp only [List.forIn_cons,List.forIn_nil]
 refine wpAny_bind (wpAny_bind (wpAny_holding ?_))
 show wpAny _ _ (Builtin.SmallTypes.nextOf (.ref i1) >>= _) _ _ _
 refine wpAny_bind (wpAny_nextOf_list_item e1 m1 hx fun h₂ g1 hs₂=>wpAny_pure (wpAny_pure ?_))
 refine wpAny_bind (wpAny_bind (wpAny_holding ?_))
 show wpAny _ _ (Builtin.SmallTypes.nextOf (.ref i2) >>= _) _ _ _
 refine wpAny_bind (wpAny_nextOf_list_item (e2.extBut hs₂.extBut D.i12.symm) (m2.extBut hs₂.extBut D.l2i1) hy fun h₃ g2 JW=>wpAny_pure (wpAny_pure (wpAny_pure ?_)))
 show wpAny _ _ (newTuple [x,y] >>= _) _ _ _
 refine wpAny_bind (wpAny_newTuple ?_)
 have hsz:h₃.objs.size=s.heap.objs.size:=by rw [JW.1,hs₂.1,hn₁]
 have kp:∀ c o,c≠z→c≠i1→c≠i2→s.heap.get? c=some o→h₃.get? c=some o:=fun c o c1 c2 c3 e=>JW.extBut _ _ c3 (hs₂.extBut _ _ c2 (hk₁ c o c1 e))
 have z3:iK h₃ z TI TO T true:=JW.extBut _ _ D.i2z.symm (hs₂.extBut _ _ D.i1z.symm Ml)
 have g3:h₃.IsListIter i1 l1 (k1+1):=g1.extBut JW.extBut D.i12
 have up:∀ c o,h₃.get? c=some o→(h₃.push { cls:= .type "tuple",data:= .seq #[x,y] }).get? c=some o:=fun c o e=>Heap.get?_push_of_some _ e
 refine wpAny_pure ⟨_,rfl,?_⟩
 show Q (.ref h₃.objs.size) _
 have hp:IsPair (h₃.push { cls:= .type "tuple",data:= .seq #[x,y] }) h₃.objs.size x y:=Heap.get?_push_size _ rfl
 have q:=hQ (h₃.push { cls:= .type "tuple",data:= .seq #[x,y] }) (up _ _ z3) (g3.at fun o e=>up _ o e) (g2.at fun o e=>up _ o e) (by rw [← hsz];exact hp) (by rw [Heap.size_push,hsz]) fun c o c1 c2 c3 e=>up c o (kp c o c1 c2 c3 e)
 rw [hsz]
 exact q
theorem uY {z TI TO T i1 i2 l1 l2:Addr} {f:Bool} {k1 k2:Nat} {xs ys:Array Value} {oT:Obj} {Q:Fin→Shared→Prop} (hh:A.handled=none) (D:ZipApart z TI TO i1 i2 l1 l2)
 (hz:iK s.heap z TI TO T f) (hT:s.heap.get? T=some oT) (hTI:IsPair s.heap TI (.ref i1) (.ref i2))
 (h1:s.heap.IsListIter i1 l1 k1) (h2:s.heap.IsListIter i2 l2 k2) (hl1:s.heap.IsList l1 xs) (hl2:s.heap.IsList l2 ys) (hend:xs[k1]?=none∨ys[k2]?=none)
 (hE:∀ h' e,(∀ c o,c≠z→c≠i1→c≠i2→s.heap.get? c=some o→h'.get? c=some o)→(∃ o,h'.get? e=some o∧o.cls= .type "StopIteration")→E (.ref e) { s with heap:=h' }) :
 wpAny (model prog w) A (Builtin.«zip.__next__» ⟨[.ref z],[]⟩) Q E s:=by
 show wpAny _ _ (field (.ref z) 2 >>= _) _ _ _
 refine wpAny_bind (wpAny_field hz rfl (x:= .bool false) rfl ?_)
 show wpAny _ _ (field (.ref z) 3 >>= _) _ _ _
 refine wpAny_bind (wpAny_field hz rfl (x:= .ref TI) rfl ?_)
 refine wpAny_bind (wpAny_seqItems hTI rfl ?_)
 show wpAny _ _ (Builtin.SmallTypes.ownedTupleIsFree (.ref z) >>= _) _ _ _
 refine wpAny_bind (ng hz hT fun h₁ Ml hn₁ hk₁=>?_)
 simp only [Bool.false_eq_true,if_false]
 have e1:h₁.IsListIter i1 l1 k1:=h1.at fun o e=>hk₁ i1 o D.i1z e
 have e2:h₁.IsListIter i2 l2 k2:=h2.at fun o e=>hk₁ i2 o D.i2z e
 have m1:h₁.IsList l1 xs:=by obtain ⟨o,e,r⟩:=hl1;exact ⟨o,hk₁ _ _ D.l1z e,r⟩
 have m2:h₁.IsList l2 ys:=by obtain ⟨o,e,r⟩:=hl2;exact ⟨o,hk₁ _ _ D.l2z e,r⟩
 refine wpAny_bind ?_
 rw [← Array.forIn_toList]
 simp only [List.forIn_cons,List.forIn_nil]
 refine wpAny_bind (wpAny_bind (wpAny_holding ?_))
 show wpAny _ _ (Builtin.SmallTypes.nextOf (.ref i1) >>= _) _ _ _
 cases hx:xs[k1]? with
 | none=>exact wpAny_bind (wpAny_nextOf_list_end hh e1 m1 hx fun h₂ e hs₂ he=>hE h₂ e (fun c o c1 c2 c3 x=>hs₂ _ _ c2 (hk₁ c o c1 x)) he)
 | some x=>
   have hy:ys[k2]?=none:=by
    rcases hend with h | h
    ·rw [hx] at h;cases h
    ·exact h
   refine wpAny_bind (wpAny_nextOf_list_item e1 m1 hx fun h₂ g1 hs₂=>wpAny_pure (wpAny_pure ?_))
   refine wpAny_bind (wpAny_bind (wpAny_holding ?_))
   show wpAny _ _ (Builtin.SmallTypes.nextOf (.ref i2) >>= _) _ _ _
   exact wpAny_bind (wpAny_nextOf_list_end hh (e2.extBut hs₂.extBut D.i12.symm) (m2.extBut hs₂.extBut D.l2i1) hy fun h₃ e JW he=>hE h₃ e (fun c o c1 c2 c3 x=>JW _ _ c3 (hs₂.extBut _ _ c2 (hk₁ c o c1 x))) he)
theorem Bl {z TI TO T i1 i2 l1 l2:Addr} {f:Bool} {k1 k2:Nat} {xs ys:Array Value} {x y:Value} {oT:Obj} {Q:Option Value→Shared→Prop} (D:ZipApart z TI TO i1 i2 l1 l2)
 (hz:iK s.heap z TI TO T f) (hT:s.heap.get? T=some oT) (hTI:IsPair s.heap TI (.ref i1) (.ref i2))
 (h1:s.heap.IsListIter i1 l1 k1) (h2:s.heap.IsListIter i2 l2 k2) (hl1:s.heap.IsList l1 xs) (hl2:s.heap.IsList l2 ys) (hx:xs[k1]?=some x) (hy:ys[k2]?=some y)
 (hQ:∀ h',iK h' z TI TO T true→h'.IsListIter i1 l1 (k1+1)→h'.IsListIter i2 l2 (k2+1)→IsPair h' s.heap.objs.size x y→h'.objs.size=s.heap.objs.size+1→
  (∀ c o,c≠z→c≠i1→c≠i2→s.heap.get? c=some o→h'.get? c=some o)→Q (some (.ref s.heap.objs.size)) { s with heap:=h' }) :
 wpAny (model prog w) A (pyNext (.ref z)) Q E s:=by
 have hTy:s.TypeIs (.ref z) "zip" :=⟨_,hz,rfl⟩
 unfold pyNext
 exact wpAny_bind (wpAny_attempt (wpAny_callSpecial?_slot (name:=Str.ofString "__next__") hTy F.slot_zip_next
  (wpAny_call_entry F.slot_zip_next hTy F.entry_zip_next
   (sG D hz hT hTI h1 h2 hl1 hl2 hx hy fun h' a1 a2 a3 a4 a5 a6=>wpAny_pure (hQ h' a1 a2 a3 a4 a5 a6)) (F.args_zip_next_1 _))))
theorem Dg {z TI TO T i1 i2 l1 l2:Addr} {f:Bool} {k1 k2:Nat} {xs ys:Array Value} {oT:Obj} {Q:Option Value→Shared→Prop} (hh:A.handled=none) (D:ZipApart z TI TO i1 i2 l1 l2)
 (hz:iK s.heap z TI TO T f) (hT:s.heap.get? T=some oT) (hTI:IsPair s.heap TI (.ref i1) (.ref i2))
 (h1:s.heap.IsListIter i1 l1 k1) (h2:s.heap.IsListIter i2 l2 k2) (hl1:s.heap.IsList l1 xs) (hl2:s.heap.IsList l2 ys) (hend:xs[k1]?=none∨ys[k2]?=none)
 (hQ:∀ h',(∀ c o,c≠z→c≠i1→c≠i2→s.heap.get? c=some o→h'.get? c=some o)→Q none { s with heap:=h' }):wpAny (model prog w) A (pyNext (.ref z)) Q E s:=by
 have hTy:s.TypeIs (.ref z) "zip" :=⟨_,hz,rfl⟩
 unfold pyNext
 refine wpAny_bind (wpAny_attempt (wpAny_callSpecial?_slot (name:=Str.ofString "__next__") hTy F.slot_zip_next
  (wpAny_call_entry F.slot_zip_next hTy F.entry_zip_next (uY hh D hz hT hTI h1 h2 hl1 hl2 hend fun h' e hk he=>?_) (F.args_zip_next_1 _))))
 obtain ⟨o,ho,hc⟩:=he
 refine wpAny_bind (wpAny_isInstance (T:= "StopIteration") (b:=true) ⟨o,ho,hc⟩ isSubtype_stop ?_)
 exact wpAny_pure (hQ _ hk)
def Lz (N0:Nat) (h:Heap) (z TI TO:Addr):Prop:=
 (IsZip h z TI TO .none∧∃ a b,IsPair h TO a b)∨∃ T f oT,iK h z TI TO T f∧h.get? T=some oT∧N0≤T
structure jW (N0:Nat) (xs ys:Array Value) (z TI TO i1 i2 l1 l2:Addr) (i:Nat) (h:Heap):Prop where
 st:Lz N0 h z TI TO
 ti:IsPair h TI (.ref i1) (.ref i2)
 i1:h.IsListIter i1 l1 i
 i2:h.IsListIter i2 l2 i
 l1:h.IsList l1 xs
 l2:h.IsList l2 ys
theorem jW.next {N0:Nat} {z TI TO i1 i2 l1 l2:Addr} {i:Nat} {xs ys:Array Value} {x y:Value} {Q:Option Value→Shared→Prop} (D:ZipApart z TI TO i1 i2 l1 l2)
 (Z:jW N0 xs ys z TI TO i1 i2 l1 l2 i s.heap) (hN:N0≤s.heap.objs.size) (lt:z < N0∧TO < N0∧i1 < N0∧i2 < N0) (hx:xs[i]?=some x) (hy:ys[i]?=some y)
 (hQ:∀ h',jW N0 xs ys z TI TO i1 i2 l1 l2 (i+1) h'→IsPair h' s.heap.objs.size x y→h'.objs.size=s.heap.objs.size+1→
  (∀ c o,c≠z→c≠TO→c≠i1→c≠i2→s.heap.get? c=some o→h'.get? c=some o)→Q (some (.ref s.heap.objs.size)) { s with heap:=h' }) :
 wpAny (model prog w) A (pyNext (.ref z)) Q E s:=by
 obtain ⟨st,ti,a1,a2,m1,m2⟩:=Z
 have tl:∀ {h':Heap},(∀ c o,c≠z→c≠TO→c≠i1→c≠i2→s.heap.get? c=some o→h'.get? c=some o)→h'.IsList l1 xs∧h'.IsList l2 ys∧IsPair h' TI (.ref i1) (.ref i2):=fun k=>by
  refine ⟨?_,?_,k _ _ D.TIz D.TITO D.TIi1 D.TIi2 ti⟩
  ·obtain ⟨o,e,r⟩:=m1;exact ⟨o,k _ _ D.l1z D.l1TO D.l1i1 D.l1i2 e,r⟩
  ·obtain ⟨o,e,r⟩:=m2;exact ⟨o,k _ _ D.l2z D.l2TO D.l2i1 D.l2i2 e,r⟩
 rcases st with ⟨hz,a,b,hTO⟩ | ⟨T,f,oT,hz,hT,G3⟩
 ·refine wpAny_pyNext_zip_item D hz ti hTO a1 a2 m1 m2 hx hy fun h' b1 b2 b3 b4 b5 b6 b7=>?_
  obtain ⟨t1,t2,t3⟩:=tl b7
  exact hQ h' ⟨.inr ⟨_,false,_,b1,b5,hN⟩,t3,b3,b4,t1,t2⟩ b5 b6 b7
 ·refine Bl D hz hT ti a1 a2 m1 m2 hx hy fun h' b1 b3 b4 b5 b6 b7=>?_
  obtain ⟨t1,t2,t3⟩:=tl fun c o c1 c2 c3 c4 e=>b7 c o c1 c3 c4 e
  exact hQ h' ⟨.inr ⟨_,true,_,b1,b7 T _ (Nat.ne_of_gt (Nat.lt_of_lt_of_le lt.1 G3)) (Nat.ne_of_gt (Nat.lt_of_lt_of_le lt.2.2.1 G3)) (Nat.ne_of_gt (Nat.lt_of_lt_of_le lt.2.2.2 G3)) hT,G3⟩,t3,b3,b4,t1,t2⟩ b5 b6 fun c o c1 c2 c3 c4 e=>b7 c o c1 c3 c4 e
theorem jW.fin {N0:Nat} {z TI TO i1 i2 l1 l2:Addr} {i:Nat} {xs ys:Array Value} {Q:Option Value→Shared→Prop} (hh:A.handled=none) (D:ZipApart z TI TO i1 i2 l1 l2)
 (Z:jW N0 xs ys z TI TO i1 i2 l1 l2 i s.heap) (hend:xs[i]?=none∨ys[i]?=none)
 (hQ:∀ h',(∀ c o,c≠z→c≠TO→c≠i1→c≠i2→s.heap.get? c=some o→h'.get? c=some o)→Q none { s with heap:=h' }):wpAny (model prog w) A (pyNext (.ref z)) Q E s:=by
 obtain ⟨st,ti,a1,a2,m1,m2⟩:=Z
 rcases st with ⟨hz,a,b,hTO⟩ | ⟨T,f,oT,hz,hT,G3⟩
 ·exact wpAny_pyNext_zip_end hh D hz ti hTO a1 a2 m1 m2 hend hQ
 ·exact Dg hh D hz hT ti a1 a2 m1 m2 hend fun h' k=>hQ h' fun c o c1 _ c3 c4 e=>k c o c1 c3 c4 e
theorem jW.keep {N0:Nat} {z TI TO i1 i2 l1 l2 S:Addr} {i:Nat} {xs ys:Array Value} {h h':Heap} (Z:jW N0 xs ys z TI TO i1 i2 l1 l2 i h) (hS:S < N0) (ne:S≠z∧S≠TI∧S≠TO∧S≠i1∧S≠i2∧S≠l1∧S≠l2)
 (k:∀ c o,c≠S→h.get? c=some o→h'.get? c=some o):jW N0 xs ys z TI TO i1 i2 l1 l2 i h':=by
 obtain ⟨st,ti,a1,a2,m1,m2⟩:=Z
 obtain ⟨n1,n2,n3,n4,n5,n6,n7⟩:=ne
 refine ⟨?_,k _ _ n2.symm ti,a1.at fun o e=>k _ o n4.symm e,a2.at fun o e=>k _ o n5.symm e,?_,?_⟩
 ·rcases st with ⟨hz,a,b,hTO⟩ | ⟨T,f,oT,hz,hT,G3⟩
  ·exact .inl ⟨k _ _ n1.symm hz,a,b,k _ _ n3.symm hTO⟩
  ·exact .inr ⟨T,f,oT,k _ _ n1.symm hz,k _ _ (Nat.ne_of_gt (Nat.lt_of_lt_of_le hS G3)) hT,G3⟩
 ·obtain ⟨o,e,r⟩:=m1;exact ⟨o,k _ _ n6.symm e,r⟩
 ·obtain ⟨o,e,r⟩:=m2;exact ⟨o,k _ _ n7.symm e,r⟩
def c7 (N0:Nat) (xs ys:Array Value) (h:Heap) (acc:Array Value) (i:Nat):Prop:=
 acc.size=i∧(∀ j x y,j < i→xs[j]?=some x→ys[j]?=some y→∃ p,acc[j]?=some (.ref p)∧IsPair h p x y∧N0≤p)∧acc.toList.Nodup
theorem c7.keep {N0:Nat} {xs ys:Array Value} {h h':Heap} {acc:Array Value} {i:Nat} (P:c7 N0 xs ys h acc i) (k:∀ c o,N0≤c→h.get? c=some o→h'.get? c=some o):c7 N0 xs ys h' acc i:=
 ⟨P.1,(fun j x y hj hx hy=>by obtain ⟨p,e1,e2,e3⟩:=P.2.1 j x y hj hx hy;exact ⟨p,e1,k p _ e3 e2,e3⟩),P.2.2⟩
theorem c7.push {N0:Nat} {xs ys:Array Value} {h:Heap} {acc:Array Value} {i:Nat} {x y:Value} {p:Addr} (P:c7 N0 xs ys h acc i) (hx:xs[i]?=some x) (hy:ys[i]?=some y) (hp:IsPair h p x y) (hN:N0≤p) (hnew:Value.ref p∉acc.toList):c7 N0 xs ys h (acc.push (.ref p)) (i+1):=by
 refine ⟨by rw [Array.size_push,P.1],fun j u v hj hu hv=>?_,by rw [Array.toList_push,List.nodup_append];exact ⟨P.2.2,by simp,fun a ha b hb e=>by rw [List.mem_singleton.mp hb] at e;rw [e] at ha;exact hnew ha⟩⟩
 by_cases e:j=i
 ·subst e
  rw [hx] at hu;rw [hy] at hv
  cases hu;cases hv
  refine ⟨p,?_,hp,hN⟩
  have:=P.1
  subst this
  exact Array.getElem?_push_size
 ·obtain ⟨q,e1,e2,e3⟩:=P.2.1 j u v (by omega) hu hv
  refine ⟨q,?_,e2,e3⟩
  rw [Array.getElem?_push,if_neg (by rw [P.1];exact e)]
  exact e1
variable {R:Result→Shared→Prop}
theorem Dh {N0:Nat} {z TI TO i1 i2 l1 l2 S:Addr} {xs ys:Array Value} (hh:A.in1.handled=none) (D:ZipApart z TI TO i1 i2 l1 l2) (lt:z < N0∧TO < N0∧i1 < N0∧i2 < N0) (G4:S < N0) (ne:S≠z∧S≠TI∧S≠TO∧S≠i1∧S≠i2∧S≠l1∧S≠l2) (n:Nat) (hn:n=min xs.size ys.size) (hsz:n≤sizeLine) (res:Value) :
 ∀ (k i:Nat) (s:Shared) (acc:Array Value) (c:Nat),n - i=k→i≤n→N0≤s.heap.objs.size→jW N0 xs ys z TI TO i1 i2 l1 l2 i s.heap→s.heap.get? S=some { cls:= .type "list",dict:=none,data:= .seq acc c,slots:= #[] }→c7 N0 xs ys s.heap acc i→
 (∀ h' acc' c',(∀ b o,b≠S→b≠z→b≠TO→b≠i1→b≠i2→s.heap.get? b=some o→h'.get? b=some o)→h'.get? S=some { cls:= .type "list",dict:=none,data:= .seq acc' c',slots:= #[] }→c7 N0 xs ys h' acc' n→R (.ok (.ret res)) { s with heap:=h' })→
 codeAny (model prog w) A (.builtin "list.extend.loop" ⟨[.ref S,.ref z,res],[]⟩) R s:=by
 obtain ⟨n1,n2,n3,n4,n5,n6,n7⟩:=id ne
 intro k
 induction k with
 | zero=>
   intro i s acc c hk hi hN Z hS hP hR
   have hin:i=n:=by omega
   refine codeAny_builtin F.entry_extend_loop ?_
   rw [Around.under_plainId F.plain_extend_loop _]
   show wpAny _ A.in1 (pyNext (.ref z) >>= _) _ _ s
   have hend:xs[i]?=none∨ys[i]?=none:=by
    rcases Nat.le_total xs.size ys.size with q | q
    ·left;rw [Array.getElem?_eq_none];omega
    ·right;rw [Array.getElem?_eq_none];omega
   refine wpAny_bind (Z.fin hh D hend fun h' kp=>?_)
   subst hin
   refine wpAny_pure (hR h' acc c (fun b o b1 b2 b3 b4 b5 e=>kp b o b2 b3 b4 b5 e) (kp S _ n1 n3 n4 n5 hS) (hP.keep fun c o hc e=>kp c o ?_ ?_ ?_ ?_ e))
   ·exact Nat.ne_of_gt (Nat.lt_of_lt_of_le lt.1 hc)
   ·exact Nat.ne_of_gt (Nat.lt_of_lt_of_le lt.2.1 hc)
   ·exact Nat.ne_of_gt (Nat.lt_of_lt_of_le lt.2.2.1 hc)
   ·exact Nat.ne_of_gt (Nat.lt_of_lt_of_le lt.2.2.2 hc)
 | succ k ih=>
   intro i s acc c hk hi hN Z hS hP hR
   have hlt:i < n:=by omega
   have lx:i < xs.size:=by omega
   have ly:i < ys.size:=by omega
   refine codeAny_builtin F.entry_extend_loop ?_
   rw [Around.under_plainId F.plain_extend_loop _]
   show wpAny _ A.in1 (pyNext (.ref z) >>= _) _ _ s
   have hx:xs[i]?=some xs[i]:=Array.getElem?_eq_getElem lx
   have hy:ys[i]?=some ys[i]:=Array.getElem?_eq_getElem ly
   refine wpAny_bind (Z.next D hN lt hx hy fun h' Z' hp hz' kp=>?_)
   have hS':=kp S _ n1 n3 n4 n5 hS
   have Ro:c7 N0 xs ys h' acc i:=hP.keep fun c o hc e=>kp c o (Nat.ne_of_gt (Nat.lt_of_lt_of_le lt.1 hc)) (Nat.ne_of_gt (Nat.lt_of_lt_of_le lt.2.1 hc)) (Nat.ne_of_gt (Nat.lt_of_lt_of_le lt.2.2.1 hc)) (Nat.ne_of_gt (Nat.lt_of_lt_of_le lt.2.2.2 hc)) e
   have hnew:Value.ref s.heap.objs.size∉acc.toList:=fun hm=>by
    obtain ⟨j,hj,ej⟩:=List.mem_iff_getElem.mp hm
    have hj':j < acc.size:=by simpa using hj
    have hji:j < i:=by rw [← hP.1];exact hj'
    have gx:xs[j]?=some xs[j]:=Array.getElem?_eq_getElem (by omega)
    have gy:ys[j]?=some ys[j]:=Array.getElem?_eq_getElem (by omega)
    obtain ⟨q,e1,e2,e3⟩:=hP.2.1 j _ _ hji gx gy
    rw [Array.getElem?_eq_getElem hj'] at e1
    have e4:acc[j]=Value.ref s.heap.objs.size:=by rw [← ej];simp
    rw [e4] at e1
    have e5:s.heap.objs.size=q:=by injection Option.some.inj e1
    have:=Heap.lt_size e2
    rw [← e5] at this
    exact Nat.lt_irrefl _ this
   show wpAny _ A.in1 (updateSeq S (·.push (.ref s.heap.objs.size)) >>= _) _ _ _
   refine wpAny_bind ?_
   have up:∀ b o,b≠S→h'.get? b=some o→(h'.update S (Obj.mapSeq (·.push (.ref s.heap.objs.size)))).get? b=some o:=fun b o hb e=>(Heap.get?_update_other _ _ (Ne.symm hb)).trans e
   refine wpAny_updateSeq hS' rfl (wpAny_pure ⟨plainId_quiet F.plain_extend_loop _,ih (i+1) _ (acc.push (.ref s.heap.objs.size)) _ (by omega) hlt ?_ (Z'.keep G4 ne fun c o hc e=>up c o hc e) (Heap.get?_update_self _ hS' rfl)
    ((Ro.push hx hy hp hN hnew).keep fun c o hc e=>up c o (Nat.ne_of_gt (Nat.lt_of_lt_of_le G4 hc)) e) fun h'' acc' c' Om Oo Oq=>?_⟩) (by rw [hP.1];omega) (by show (acc.push _).size≤sizeLine+1;rw [Array.size_push,hP.1];omega)
   ·show N0≤(h'.update S _).objs.size
    have:(h'.update S (Obj.mapSeq (·.push (.ref s.heap.objs.size)))).objs.size=h'.objs.size:=(Heap.SameBut.update ..).1
    omega
   ·exact hR h'' acc' c' (fun b o b1 b2 b3 b4 b5 e=>Om b o b1 b2 b3 b4 b5 (up b o b1 (kp b o b2 b3 b4 b5 e))) Oo Oq
theorem yP:typeLookup (.type "zip") "__len__" =pure none:=by rw [typeLookup_type,builtinLookup_eq_fast];kernel_rfl
theorem w6:typeLookup (.type "zip") "__length_hint__" =pure none:=by rw [typeLookup_type,builtinLookup_eq_fast];kernel_rfl
theorem yQ {N0:Nat} {z TI TO i1 i2 l1 l2 S:Addr} {xs ys:Array Value} {c₀:Nat} (hh:A.in1.handled=none) (D:ZipApart z TI TO i1 i2 l1 l2) (lt:z < N0∧TO < N0∧i1 < N0∧i2 < N0) (G4:S < N0) (ne:S≠z∧S≠TI∧S≠TO∧S≠i1∧S≠i2∧S≠l1∧S≠l2) (n:Nat) (hn:n=min xs.size ys.size) (hsz:n≤sizeLine) (res:Value)
 (hN:N0≤s.heap.objs.size) (Z:jW N0 xs ys z TI TO i1 i2 l1 l2 0 s.heap) (hz:IsZip s.heap z TI TO .none) (hS:s.heap.get? S=some { cls:= .type "list",data:= .seq #[] c₀ })
 (hR:∀ h' acc' c',(∀ b o,b≠S→b≠z→b≠TO→b≠i1→b≠i2→s.heap.get? b=some o→h'.get? b=some o)→h'.get? S=some { cls:= .type "list",dict:=none,data:= .seq acc' c',slots:= #[] }→c7 N0 xs ys h' acc' n→R (.ok (.ret res)) { s with heap:=h' }) :
 wpAny (model prog w) A.in1 (Builtin.List.listExtendWith (.ref S) (.ref z) res)
  (fun fin s'=>match fin with | .done f=>R (.ok f) s' | .again c'=>c'.quiet=true∧codeAny (model prog w) A c' R s') (fun e s'=>R (.error e) s') s:=by
 have hTy:s.TypeIs (.ref z) "zip" :=⟨_,hz,rfl⟩
 unfold Builtin.List.listExtendWith
 refine wpAny_bind (wpAny_typeOf hTy ?_)
 have h1:Builtin.List.listSameRef (.ref S) (.ref z)=false:=by simp [Builtin.List.listSameRef,ne.1]
 have h2:(Value.type "zip" == Value.type "list")=false:=by decide
 have h3:(Value.type "zip" == Value.type "tuple")=false:=by decide
 simp only [h1,h2,h3,Bool.or_false,Bool.false_eq_true,if_false]
 refine wpAny_bind (wpAny_pyIter_zip hz ?_)
 refine wpAny_bind (wpAny_holding ?_)
 unfold Builtin.List.listLengthHint
 refine wpAny_bind (wpAny_specialOf hTy yP ?_)
 show wpAny _ A.in1 (specialOf (Value.ref z) (Str.ofString "__length_hint__") >>= _) _ _ _
 refine wpAny_bind (wpAny_specialOf hTy w6 ?_)
 refine wpAny_pure ?_
 show wpAny _ A.in1 (rule "list.extend.makes-room" >>= fun _=>Builtin.List.listTouch (.ref S) >>= fun _=>
  again (.builtin "list.extend.loop" ⟨[.ref S,.ref z,res],[]⟩)) _ _ _
 refine wpAny_bind (wpAny_rule ?_)
 refine wpAny_bind ?_
 show wpAny _ A.in1 (updateSeq S (·.push .none) >>= fun _=>updateSeq S (·.pop)) _ _ _
 refine wpAny_bind (wpAny_updateSeq hS rfl ?_)
 have JV:=Heap.get?_update_self (Obj.mapSeq (·.push Value.none)) hS rfl
 refine wpAny_updateSeq (hz:=by seq_fits) JV rfl ?_
 have Rp:=Heap.get?_update_self (Obj.mapSeq (·.pop)) JV rfl
 have FA:∀ b o,b≠S→s.heap.get? b=some o→((s.heap.update S (Obj.mapSeq (·.push Value.none))).update S (Obj.mapSeq (·.pop))).get? b=some o:=
  fun b o hb e=>(Heap.get?_update_other _ _ (Ne.symm hb)).trans ((Heap.get?_update_other _ _ (Ne.symm hb)).trans e)
 have Ot:((s.heap.update S (Obj.mapSeq (·.push Value.none))).update S (Obj.mapSeq (·.pop))).objs.size=s.heap.objs.size:=by
  rw [(Heap.SameBut.update ..).1,(Heap.SameBut.update ..).1]
 refine wpAny_pure ⟨plainId_quiet F.plain_extend_loop _,Dh hh D lt G4 ne n hn hsz res n 0 _ _ _ rfl (Nat.zero_le _) (Nat.le_trans hN (Nat.le_of_eq Ot.symm)) (Z.keep G4 ne fun c o hc e=>FA c o hc e) Rp ⟨rfl,(fun j x y hj=>absurd hj (Nat.not_lt_zero _)),List.nodup_nil⟩ fun h' acc' c' kp hS' hP=>?_⟩
 exact hR h' acc' c' (fun b o b1 b2 b3 b4 b5 e=>kp b o b1 b2 b3 b4 b5 (FA b o b1 e)) hS' hP
theorem sH {N0:Nat} {z TI TO i1 i2 l1 l2 S:Addr} {xs ys:Array Value} (hh:A.in1.handled=none) (D:ZipApart z TI TO i1 i2 l1 l2) (lt:z < N0∧TO < N0∧i1 < N0∧i2 < N0) (G4:S < N0) (ne:S≠z∧S≠TI∧S≠TO∧S≠i1∧S≠i2∧S≠l1∧S≠l2) (n:Nat) (hn:n=min xs.size ys.size) (hsz:n≤sizeLine)
 (hN:N0≤s.heap.objs.size) (Z:jW N0 xs ys z TI TO i1 i2 l1 l2 0 s.heap) (hz:IsZip s.heap z TI TO .none) (hS:s.heap.get? S=some { cls:= .type "list",data:= .seq #[] })
 (hR:∀ h' acc' c',(∀ b o,b≠S→b≠z→b≠TO→b≠i1→b≠i2→s.heap.get? b=some o→h'.get? b=some o)→h'.get? S=some { cls:= .type "list",dict:=none,data:= .seq acc' c',slots:= #[] }→c7 N0 xs ys h' acc' n→R (.ok (.ret .none)) { s with heap:=h' }) :
 wpAny (model prog w) A.in1 (Builtin.«list.__init__» ⟨[.ref S,.ref z],[]⟩)
  (fun fin s'=>match fin with | .done f=>R (.ok f) s' | .again c'=>c'.quiet=true∧codeAny (model prog w) A c' R s') (fun e s'=>R (.error e) s') s:=by
 show wpAny _ A.in1 (do let old ← Builtin.List.listItems (.ref S);Builtin.List.listUpdate (.ref S) (fun _=> #[]);letGo old.toList.reverse;Builtin.List.listExtendWith (.ref S) (.ref z) .none) _ _ s
 refine wpAny_bind ?_
 unfold Builtin.List.listItems
 refine wpAny_bind (wpAny_seqItems hS rfl (wpAny_pure ?_))
 show wpAny _ A.in1 (updateSeq S (fun _=> #[]) >>= fun _=>letGo (#[]:Array Value).toList.reverse >>= fun _=>Builtin.List.listExtendWith (.ref S) (.ref z) .none) _ _ s
 refine wpAny_bind (wpAny_updateSeq hS rfl ?_)
 have JV:=Heap.get?_update_self (Obj.mapSeq (fun _=>(#[]:Array Value))) hS rfl
 have FA:∀ b o,b≠S→s.heap.get? b=some o→(s.heap.update S (Obj.mapSeq (fun _=>(#[]:Array Value)))).get? b=some o:=
  fun b o hb e=>(Heap.get?_update_other _ _ (Ne.symm hb)).trans e
 have Ot:(s.heap.update S (Obj.mapSeq (fun _=>(#[]:Array Value)))).objs.size=s.heap.objs.size:=(Heap.SameBut.update ..).1
 refine wpAny_bind (wpAny_letGo ?_)
 refine yQ hh D lt G4 ne n hn hsz .none (Nat.le_trans hN (Nat.le_of_eq Ot.symm)) (Z.keep G4 ne fun c o hc e=>FA c o hc e) (FA _ _ ne.1.symm hz) JV fun h' acc' c' kp hS' hP=>?_
 exact hR h' acc' c' (fun b o b1 b2 b3 b4 b5 e=>kp b o b1 b2 b3 b4 b5 (FA b o b1 e)) hS' hP
theorem sI {z TI TO i1 i2 l1 l2:Addr} {xs ys:Array Value} {Q:Value→Shared→Prop} (hh:A.in1.in1.handled=none) (D:ZipApart z TI TO i1 i2 l1 l2)
 (lt:z < s.heap.objs.size∧TI < s.heap.objs.size∧TO < s.heap.objs.size∧i1 < s.heap.objs.size∧i2 < s.heap.objs.size∧l1 < s.heap.objs.size∧l2 < s.heap.objs.size) (n:Nat) (hn:n=min xs.size ys.size) (hsz:n≤sizeLine)
 (hz:IsZip s.heap z TI TO .none) (hTI:IsPair s.heap TI (.ref i1) (.ref i2)) {a b:Value} (hTO:IsPair s.heap TO a b) (h1:s.heap.IsListIter i1 l1 0) (h2:s.heap.IsListIter i2 l2 0) (hl1:s.heap.IsList l1 xs) (hl2:s.heap.IsList l2 ys)
 (hQ:∀ h' acc' c',(∀ b o,b≠z→b≠TO→b≠i1→b≠i2→s.heap.get? b=some o→h'.get? b=some o)→h'.get? s.heap.objs.size=some { cls:= .type "list",dict:=none,data:= .seq acc' c',slots:= #[] }→c7 (s.heap.objs.size+1) xs ys h' acc' n→Q (.ref s.heap.objs.size) { s with heap:=h' }) :
 wpAny (model prog w) A (call (.type "list") [.ref z]) Q E s:=by
 obtain ⟨q1,q2,q3,q4,q5,q6,q7⟩:=lt
 refine callType_codes (Q₁:=fun obj s₁=>obj= .ref s.heap.objs.size∧s₁= { s with heap:=s.heap.push { cls:= .type "list",data:= .seq #[] } }) F.called_list (F.typeCall_list_1 _) F.entry_list_init
  (code_list_new _ ⟨rfl,rfl⟩) fun obj s₁ h₁=>?_
 obtain ⟨rfl,rfl⟩:=h₁
 have hS:(s.heap.push { cls:= .type "list",data:= .seq #[] }).get? s.heap.objs.size=some { cls:= .type "list",data:= .seq #[] }:=Heap.get?_push_size _ rfl
 have up:∀ c o,s.heap.get? c=some o→(s.heap.push { cls:= .type "list",data:= .seq #[] }).get? c=some o:=fun c o e=>Heap.get?_push_of_some _ e
 have Z:jW (s.heap.objs.size+1) xs ys z TI TO i1 i2 l1 l2 0 (s.heap.push { cls:= .type "list",data:= .seq #[] }):=
  ⟨.inl ⟨up _ _ hz,a,b,up _ _ hTO⟩,up _ _ hTI,h1.at fun o e=>up _ o e,h2.at fun o e=>up _ o e,(by obtain ⟨o,e,r⟩:=hl1;exact ⟨o,up _ _ e,r⟩),(by obtain ⟨o,e,r⟩:=hl2;exact ⟨o,up _ _ e,r⟩)⟩
 refine ⟨⟨_,hS,rfl⟩,F.args_list_init_2 _ _,sH (N0:=s.heap.objs.size+1) hh D ⟨Nat.lt_succ_of_lt q1,Nat.lt_succ_of_lt q3,Nat.lt_succ_of_lt q4,Nat.lt_succ_of_lt q5⟩ (Nat.lt_succ_self _) ⟨Nat.ne_of_gt q1,Nat.ne_of_gt q2,Nat.ne_of_gt q3,Nat.ne_of_gt q4,Nat.ne_of_gt q5,Nat.ne_of_gt q6,Nat.ne_of_gt q7⟩ n hn hsz
  (by show s.heap.objs.size+1≤(Heap.push _ _).objs.size;rw [Heap.size_push];exact Nat.le_refl _) Z (up _ _ hz) hS fun h' acc' c' kp hS' hP=>?_⟩
 exact ⟨rfl,hQ h' acc' c' (fun b o b2 b3 b4 b5 e=>kp b o (Nat.ne_of_lt (Heap.lt_size e)) b2 b3 b4 b5 (up b o e)) hS' hP⟩
end
end PySem
namespace L2
open PySem PySem.Spec PyProof.Rows
section
variable {X:Cx} {pins:List (Addr ×Obj)} {σ:St} {H:Hp} {s:Shared}
theorem Inv.named {a:Addr} {o:HO} (I:Inv X pins σ H s) (f:j4 X pins H a) (new:c9 X.prog X.w (upd H a o) s.heap a o):Inv X pins σ (upd H a o) s:=by
 obtain ⟨f0,f1,f2,f3,f4,f5⟩:=f
 have nn:∀ b u,H b=some u→b≠a:=fun b u e z=>by rw [z,f0] at e;cases e
 have hok:j3 X.prog X.w (upd H a o) s.heap:=fun b u e=>by
  by_cases hb:b=a
  ·subst hb;rw [dZ] at e;cases e;exact new
  ·rw [aW hb] at e
   exact (I.hok b u e).stay (fun c v _ q=>q) (fun c q=>by rw [aW (nn _ _ q)];exact q) fun c xs q=>by rw [aW (nn _ _ q)];exact q
 exact I.step (h':=s.heap) (g':=s.gens) (d':=s.drawn) (t':=s.toks) (ch:=[a]) (fun b hb=>by rw [List.mem_singleton.mp hb];exact ⟨f3,f1,f4,f5⟩) (fun b o _ _ _ e _=>e) (fun b o _ _ _ e _=>⟨o.slots,e⟩) (fun b o hc e n=>by rw [aW (by simpa using hc)];exact n)
  (fun b o _ e=>⟨o,e⟩) (fun b xs e=>by rw [aW (nn _ _ e)];exact e) (fun b o u e=>by rw [aW (nn _ _ e)];exact e) (fun b ps e=>⟨#[],by rw [aW (nn _ _ e),e];simp⟩) (fun m hm=>hm) hok I.bare
end
end L2
namespace L3
open PySem PySem.Spec PyProof.Rows L2
section
variable {X:Cx} {pins:List (Addr ×Obj)} {σ:St} {s:Shared}
theorem qL:∀ (L:List (Addr ×V ×V)) {H:Hp},Inv X pins σ H s→(L.map (·.1)).Nodup→(∀ q∈L,j4 X pins H q.1∧∃ u v,RelV q.2.1 u∧RelV q.2.2 v∧IsPair s.heap q.1 u v)→
 ∃ H',Inv X pins σ H' s∧(∀ b o,H b=some o→H' b=some o)∧(∀ b,b∉L.map (·.1)→H' b=H b)∧∀ q∈L,H' q.1=some (.tup [q.2.1,q.2.2])
 | [],H,I,_,_=>⟨H,I,fun _ _ e=>e,fun _ _=>rfl,fun q hq=>by cases hq⟩
 | (p,x,y) :: L,H,I,nd,h=>by
   obtain ⟨f,u,v,ru,rv,hp⟩:=h (p,x,y) (by simp)
   rw [List.map_cons,List.nodup_cons] at nd
   have I1:Inv X pins σ (upd H p (.tup [x,y])) s:=I.named f ⟨by rw [sizeLine_eq];show 2≤16777216;decide,[u,v],.cons ru (.cons rv .nil),⟨_,hp,rfl,_,rfl⟩⟩
   obtain ⟨H',I',k1,k2,k3⟩:=qL L I1 nd.2 fun q hq=>by
    obtain ⟨⟨f0,fr⟩,r⟩:=h q (List.mem_cons_of_mem _ hq)
    refine ⟨⟨?_,fr⟩,r⟩
    rw [aW (fun z=>nd.1 (List.mem_map.mpr ⟨q,hq,z⟩))]
    exact f0
   refine ⟨H',I',fun b o e=>k1 b o (by rw [aW (bR e f.1)];exact e),fun b hb=>?_,fun q hq=>?_⟩
   ·rw [List.map_cons,List.mem_cons,not_or] at hb
    rw [k2 b hb.2,aW hb.1]
   ·rcases List.mem_cons.mp hq with e | e
    ·rw [e];exact k1 p _ dZ
    ·exact k3 q e
theorem t9:∀ (ps:List Addr),Vals (ps.map V.ref) (ps.map Value.ref)
 | []=> .nil
 | p :: ps=> .cons rfl (t9 ps)
theorem o7 {K:PySem.W.Frag} {H:Hp}:∀ {ds:List D} {xs:List V},ds.length=xs.length→(∀ (i:Nat) (d:D),ds[i]?=some d→∃ v,xs[i]?=some v∧Dat K H d v)→aG K H ds xs
 | [],[],_,_=>aL.mpr rfl
 | d :: ds,x :: xs,hl,h=>by
   obtain ⟨v,e,hv⟩:=h 0 d rfl
   cases e
   exact aF.mpr ⟨x,xs,rfl,hv,o7 (by simpa using hl) fun i d e=>h (i+1) d e⟩
 | [],_ :: _,hl,_=>by cases hl
 | _ :: _,[],hl,_=>by cases hl
end
section
variable {X:Cx} {pos:Pos}
def LA (t:sj):cY:=fun ρ M Q=>t ρ M fun vs M1=> ∃ a b xs ys,vs= [.ref a,.ref b]∧M1 a=some (.lst xs)∧M1 b=some (.lst ys)∧∀ p,M1 p=none→Q (.ref p) (aA M1 p (.lst (List.zipWith pairD xs ys)))
theorem ua {e1 e2:Expr} {t:sj} {p1 p2 pos2:Pos} (hc:X.calm=true) (E8:Gl X "list") (hml:X.mg "list" =none) (Rq:Gl X "zip") (Rr:X.mg "zip" =none) (ha:yH X [e1,e2] t)
 (st1:starEach [e1,e2] X.env=(false,eval e1 X.env) :: starEach [e2] X.env:=by rfl) (hpl:(backTo pos2 (starEach [e2] X.env)).any (·.1)=false:=by rfl)
 (s2:starEach [.Call (.Name "zip" p2) [e1,e2] [] pos2] X.env= [(false,eval (.Call (.Name "zip" p2) [e1,e2] [] pos2) X.env)]:=by rfl) :
 cM X (.Call (.Name "list" p1) [.Call (.Name "zip" p2) [e1,e2] [] pos2] [] pos) (LA t):=by
 constructor
 intro pins s σ H ρ M Q I r h
 refine wpAny_Call_Name_kw (iC I E8 hml bx ?_ (by decide) (by decide))
 refine PyProof.Rows.callWith_type1 (Q:=EP X pins σ (Post X.K M H Q)) ?_ (by rw [s2];rfl) (by rfl)
 rw [s2]
 show wpAny _ _ (spliced ((false,eval (.Call (.Name "zip" p2) [e1,e2] [] pos2) X.env) :: backTo pos [])) _ _ s
 refine Calls.spliced_cons ?_
 refine wpAny_Call_Name_kw (iC I Rq Rr Bk ?_ (by decide) (by decide))
 refine PyProof.Rows.callWith_type1 (dc (ha.run pos2 pins s σ H ρ M _ I r h) fun us s1 hq=>?_) st1 hpl
 obtain ⟨vs,H1,I1,r1,ds,M1,f1,dv,lG,a,b,xs,ys,e,Rt,Ru,q⟩:=hq
 subst e
 obtain ⟨v,u,rfl,hv,hu⟩:=qu dv
 obtain rfl:=aK.mp hv
 obtain rfl:=aK.mp hu
 obtain ⟨u1,u2,rfl,ra,rb⟩:=vals2 r1
 obtain rfl:u1=Value.ref a:=ra
 obtain rfl:u2=Value.ref b:=rb
 obtain ⟨zs,Rv,dz⟩:=lG.lst Rt
 obtain ⟨ws,Rw,dw⟩:=lG.lst Ru
 obtain ⟨its,rv,pl,hz1⟩:=I1.list (iD.of Rv)
 obtain ⟨Mm,rw',Ou,hz2⟩:=I1.list (iD.of Rw)
 have la:a < s1.heap.objs.size:=by obtain ⟨o,e,_⟩:=pl.isList;exact Heap.lt_size e
 have lb:b < s1.heap.objs.size:=by obtain ⟨o,e,_⟩:=Ou.isList;exact Heap.lt_size e
 refine call_zip_2 pl.isList Ou.isList fun h' hz hTI hTO h1 h2 hsz kp=>Calls.spliced_nil ?_
 have na:∀ k,a≠s1.heap.objs.size+k:=fun k=>Nat.ne_of_lt (Nat.lt_of_lt_of_le la (Nat.le_add_right _ _))
 have nb:∀ k,b≠s1.heap.objs.size+k:=fun k=>Nat.ne_of_lt (Nat.lt_of_lt_of_le lb (Nat.le_add_right _ _))
 have nn:∀ j k:Nat,j≠k→s1.heap.objs.size+j≠s1.heap.objs.size+k:=fun j k h e=>h (Nat.add_left_cancel e)
 have D:ZipApart (s1.heap.objs.size+4) (s1.heap.objs.size+2) (s1.heap.objs.size+3) s1.heap.objs.size (s1.heap.objs.size+1) a b:=
  ⟨nn 2 4 (by decide),nn 3 4 (by decide),nn 0 4 (by decide),nn 1 4 (by decide),nn 2 3 (by decide),nn 2 0 (by decide),nn 2 1 (by decide),nn 3 0 (by decide),nn 3 1 (by decide),nn 0 1 (by decide),na 4,na 3,na 0,na 1,nb 4,nb 3,nb 0,nb 1⟩
 have lz:=rv.length
 have lw:=rw'.length
 refine sI (s:={ s1 with heap:=h' }) (show _ from I.ok.hd hc) D (by show _ < h'.objs.size∧_;rw [hsz];exact ⟨Nat.add_lt_add_left (by decide) _,Nat.add_lt_add_left (by decide) _,Nat.add_lt_add_left (by decide) _,Nat.lt_add_of_pos_right (by decide),Nat.add_lt_add_left (by decide) _,Nat.lt_of_lt_of_le la (Nat.le_add_right _ _),Nat.lt_of_lt_of_le lb (Nat.le_add_right _ _)⟩) (min its.toArray.size Mm.toArray.size) rfl (by simp only [List.size_toArray];omega) hz hTI hTO h1 h2
  (by obtain ⟨o,e,r⟩:=pl.isList;exact ⟨o,kp _ _ e,r⟩) (by obtain ⟨o,e,r⟩:=Ou.isList;exact ⟨o,kp _ _ e,r⟩) fun h'' acc c A8 hS hP=>?_
 have hS:h''.get? (s1.heap.objs.size+5)=some { cls:= .type "list",dict:=none,data:= .seq acc c,slots:= #[] }:=by rw [← hsz];exact hS
 have hP:c7 (s1.heap.objs.size+6) its.toArray Mm.toArray h'' acc (min its.toArray.size Mm.toArray.size):=by
  have e:s1.heap.objs.size+6=h'.objs.size+1:=by rw [hsz]
  rw [e];exact hP
 have en:min its.toArray.size Mm.toArray.size=min zs.length ws.length:=by simp only [List.size_toArray];omega
 rw [en] at hP
 have I2:Inv X pins σ H1 { s1 with heap:=h',toks:=s1.toks }:=I1.kept (t':=s1.toks) kp
 have fz:∀ {H':Hp} {b:Addr},s1.heap.objs.size≤b→H' b=none→j4 X pins H' b:=fun hb hn=>I1.Cc hb hn
 have I3:Inv X pins σ H1 { s1 with heap:=h'',toks:=s1.toks }:=Inv.FE (s:={ s1 with heap:=h',toks:=s1.toks }) (h':=h'') (t':=s1.toks) (fp:=[s1.heap.objs.size+4,s1.heap.objs.size+3,s1.heap.objs.size,s1.heap.objs.size+1]) I2
  (fun b o hb e=>by
   have nb:b≠s1.heap.objs.size+4∧b≠s1.heap.objs.size+3∧b≠s1.heap.objs.size∧b≠s1.heap.objs.size+1:=by simpa using hb
   exact A8 b o nb.1 nb.2.1 nb.2.2.1 nb.2.2.2 e)
  (fun b hb=>by
   have hle:s1.heap.objs.size≤b:=by
    simp only [List.mem_cons,List.not_mem_nil,or_false] at hb
    rcases hb with rfl | rfl | rfl | rfl
    ·exact Nat.le_add_right _ _
    ·exact Nat.le_add_right _ _
    ·exact Nat.le_refl _
    ·exact Nat.le_add_right _ _
   exact fz hle (I1.hok.fresh hle))
 have key:∀ j,j < min zs.length ws.length→∃ x y u v p,zs[j]?=some x∧ws[j]?=some y∧RelV x u∧RelV y v∧acc[j]?=some (.ref p)∧IsPair h'' p u v∧s1.heap.objs.size+6≤p:=fun j hj=>by
  have gx:zs[j]?=some (zs[j]'(by omega)):=List.getElem?_eq_getElem (by omega)
  have gy:ws[j]?=some (ws[j]'(by omega)):=List.getElem?_eq_getElem (by omega)
  obtain ⟨u,hu,ru⟩:=rv.get gx
  obtain ⟨v,hv,FD⟩:=rw'.get gy
  obtain ⟨p,a1,a2,a3⟩:=hP.2.1 j u v hj (by simpa using hu) (by simpa using hv)
  exact ⟨_,_,u,v,p,gx,gy,ru,FD,a1,a2,a3⟩
 generalize hm:min zs.length ws.length=m at *
 let pj:Nat→Addr:=fun j=>match acc[j]? with | some (.ref p)=>p | _=>0
 have Ov:∀ j,j < m→∃ x y u v,zs[j]?=some x∧ws[j]?=some y∧RelV x u∧RelV y v∧acc[j]?=some (.ref (pj j))∧IsPair h'' (pj j) u v∧s1.heap.objs.size+6≤pj j:=fun j hj=>by
  obtain ⟨x,y,u,v,p,a1,a2,a3,a4,a5,a6,a7⟩:=key j hj
  have e:pj j=p:=by show (match acc[j]? with | some (.ref p)=>p | _=>0)=p;rw [a5]
  rw [e]
  exact ⟨x,y,u,v,a1,a2,a3,a4,a5,a6,a7⟩
 have G5:acc.toList=((List.range m).map pj).map Value.ref:=by
  apply List.ext_getElem?
  intro j
  by_cases hj:j < m
  ·obtain ⟨x,y,u,v,a1,a2,a3,a4,a5,a6,a7⟩:=Ov j hj
   rw [Array.getElem?_toList,a5]
   simp [hj]
  ·rw [List.getElem?_eq_none (by simp [hP.1];omega),List.getElem?_eq_none (by simp;omega)]
 have Rx:((List.range m).map pj).Nodup:=by
  have q:=hP.2.2
  rw [G5] at q
  exact (List.pairwise_map.mp q).imp fun hne e=>hne (congrArg _ e)
 obtain ⟨H',I4,k1,k2,k3⟩:=qL ((List.range m).map fun j=>(pj j,(zs[j]?).getD .bA,(ws[j]?).getD .bA)) I3 (by rw [List.map_map];exact Rx) (fun q hq=>by
  obtain ⟨j,hj,rfl⟩:=List.mem_map.mp hq
  obtain ⟨x,y,u,v,a1,a2,a3,a4,a5,a6,a7⟩:=Ov j (List.mem_range.mp hj)
  have hle:s1.heap.objs.size≤pj j:=Nat.le_trans (Nat.le_add_right _ _) a7
  refine ⟨fz hle (I1.hok.fresh hle),u,v,?_,?_,a6⟩
  ·show RelV ((zs[j]?).getD .bA) u;rw [a1];exact a3
  ·show RelV ((ws[j]?).getD .bA) v;rw [a2];exact a4)
 have Ow:H' (s1.heap.objs.size+5)=none:=by
  rw [k2 _ (fun hz=>?_)]
  ·exact I1.hok.fresh (Nat.le_add_right _ _)
  ·rw [List.map_map] at hz
   obtain ⟨j,hj,e⟩:=List.mem_map.mp hz
   obtain ⟨x,y,u,v,a1,a2,a3,a4,a5,a6,a7⟩:=Ov j (List.mem_range.mp hj)
   have e:pj j=s1.heap.objs.size+5:=e
   rw [e] at a7
   exact absurd a7 (by omega)
 have hlen:((List.range m).map pj).length≤sizeLine:=by
  rw [List.length_map,List.length_range]
  omega
 have I5:Inv X pins σ (upd H' (s1.heap.objs.size+5) (.lst (((List.range m).map pj).map V.ref))) { s1 with heap:=h'',toks:=s1.toks }:=
  I4.named (fz (Nat.le_add_right _ _) Ow) ⟨by rw [List.length_map];exact hlen,((List.range m).map pj).map Value.ref,c,t9 _,by rw [← G5];exact hS⟩
 have ev:(Value.ref ({ s1 with heap:=h' }:Shared).heap.objs.size)= .ref (s1.heap.objs.size+5):=by show Value.ref h'.objs.size=_;rw [hsz]
 have Ox:Ext H1 H':=Ext.keep k1
 refine ⟨.ref (s1.heap.objs.size+5),_,I5,ev,.ref _,aA M1 _ (.lst (List.zipWith pairD xs ys)),?_,aK.mpr rfl,(lG.keep k1).newL Ow ?_,q _ ?_⟩
 ·refine f1.trans (Fr.trans (fun b o n e=>⟨k1 b o e,n⟩) (Fr.new Ow fun _ hb=>bC hb))
 ·refine o7 (by rw [List.length_zipWith,List.length_map,List.length_map,List.length_range,← hm,dz.length,dw.length]) fun i d hd=>?_
  rw [List.getElem?_zipWith] at hd
  cases hx:xs[i]? with
  | none=>rw [hx] at hd;cases hd
  | some dx=>
    cases hy:ys[i]? with
    | none=>rw [hx,hy] at hd;cases hd
    | some dy=>
      rw [hx,hy] at hd
      have hd:pairD dx dy=d:=Option.some.inj hd
      obtain ⟨x,gx,qx⟩:=dz.get hx
      obtain ⟨y,gy,qy⟩:=dw.get hy
      have hi:i < m:=by
       have i1:=(List.getElem?_eq_some_iff.mp gx).1
       have i2:=(List.getElem?_eq_some_iff.mp gy).1
       omega
      have q3:=k3 (pj i,(zs[i]?).getD .bA,(ws[i]?).getD .bA) (List.mem_map.mpr ⟨i,List.mem_range.mpr hi,rfl⟩)
      rw [gx,gy] at q3
      refine ⟨.ref (pj i),by simp [hi],?_⟩
      rw [← hd]
      exact bK.mpr ⟨pj i,[x,y],rfl,q3,aG.mono Ox _ _ (aF.mpr ⟨x,[y],rfl,qx,aG.one qy⟩)⟩
 ·exact lG.free (I1.hok.fresh (Nat.le_add_right _ _))
end
end L3
namespace L3
open PySem
def jb:List Pl→Pl→List Pl
 | b :: a :: r,p=>if tw a b p < 0 then jb (a :: r) p else b :: a :: r
 | [a],_=>[a]
 | [],_=>[]
def aP (st:List Pl) (p:Pl):List Pl:=p :: jb st p
structure Way where
 al:Int
 be:Int
def Way.f (w:Way) (p:Pl):Int:=w.al*p.x+w.be*p.y
theorem gI (al be ux uy vx vy px py:Int):(al*vx+be*vy)*(ux*py - uy*px)=(al*ux+be*uy)*(vx*py - vy*px)+(al*px+be*py)*(ux*vy - uy*vx):=by grind
theorem uZ {a b:Int} (ha:0 < a) (h:0≤a*b):0≤b:=by
 apply Classical.byContradiction
 intro z
 have:a*b < 0:=Int.mul_neg_of_pos_of_neg ha (by omega)
 omega
theorem FF {a b:Int} (ha:0 < a) (h:0 < a*b):0 < b:=by
 apply Classical.byContradiction
 intro z
 have:a*b≤0:=Int.mul_nonpos_of_nonneg_of_nonpos (by omega) (by omega)
 omega
section
variable {w:Way}
theorem FG {z a b p:Pl} (h1:w.f z < w.f a) (h2:w.f a < w.f b) (h3:w.f b < w.f p) (t1:0≤tw z a b) (t2:0≤tw a b p):0≤tw z a p:=by
 have key:=gI w.al w.be (a.x - z.x) (a.y - z.y) (b.x - a.x) (b.y - a.y) (p.x - a.x) (p.y - a.y)
 unfold Way.f at h1 h2 h3
 have e1:tw z a b=(a.x - z.x)*(b.y - a.y) - (a.y - z.y)*(b.x - a.x):=by unfold tw;grind
 have e2:tw a b p=(b.x - a.x)*(p.y - a.y) - (b.y - a.y)*(p.x - a.x):=by unfold tw;grind
 have e3:tw z a p=(a.x - z.x)*(p.y - a.y) - (a.y - z.y)*(p.x - a.x):=by unfold tw;grind
 rw [← e1,← e2,← e3] at key
 have fU:0 < w.al*(a.x - z.x)+w.be*(a.y - z.y):=by rw [Int.mul_sub,Int.mul_sub];omega
 have fV:0 < w.al*(b.x - a.x)+w.be*(b.y - a.y):=by rw [Int.mul_sub,Int.mul_sub];omega
 have fP:0 < w.al*(p.x - a.x)+w.be*(p.y - a.y):=by rw [Int.mul_sub,Int.mul_sub];omega
 refine uZ fV ?_
 rw [key]
 have m1:=Int.mul_nonneg (Int.le_of_lt fU) t2
 have m2:=Int.mul_nonneg (Int.le_of_lt fP) t1
 omega
theorem Di {a c p q:Pl} (h1:w.f a < w.f c) (h2:w.f c < w.f p) (h3:w.f q≤w.f c) (t1:0≤tw a c q) (t2:0≤tw a c p):0≤tw c p q:=by
 have key:=gI w.al w.be (p.x - c.x) (p.y - c.y) (c.x - a.x) (c.y - a.y) (q.x - c.x) (q.y - c.y)
 unfold Way.f at h1 h2 h3
 have e1:tw a c q=(c.x - a.x)*(q.y - c.y) - (c.y - a.y)*(q.x - c.x):=by unfold tw;grind
 have e2:tw a c p= -((p.x - c.x)*(c.y - a.y) - (p.y - c.y)*(c.x - a.x)):=by unfold tw;grind
 have e3:tw c p q=(p.x - c.x)*(q.y - c.y) - (p.y - c.y)*(q.x - c.x):=by unfold tw;grind
 have Oz:(p.x - c.x)*(c.y - a.y) - (p.y - c.y)*(c.x - a.x)= -tw a c p:=by omega
 rw [← e1,Oz,← e3] at key
 have fU:0 < w.al*(c.x - a.x)+w.be*(c.y - a.y):=by rw [Int.mul_sub,Int.mul_sub];omega
 have fP:0 < w.al*(p.x - c.x)+w.be*(p.y - c.y):=by rw [Int.mul_sub,Int.mul_sub];omega
 have fQ:w.al*(q.x - c.x)+w.be*(q.y - c.y)≤0:=by rw [Int.mul_sub,Int.mul_sub];omega
 refine uZ fU ?_
 rw [key]
 have m1:=Int.mul_nonneg (Int.le_of_lt fP) t1
 have m2:0≤(w.al*(q.x - c.x)+w.be*(q.y - c.y))* -tw a c p:=Int.mul_nonneg_of_nonpos_of_nonpos fQ (by omega)
 omega
theorem Dj {c d p q:Pl} (h1:w.f c < w.f d) (h2:w.f c < w.f p) (h3:w.f c < w.f q) (t1:0≤tw c d q) (t2:tw c d p < 0):0 < tw c p q:=by
 have key:=gI w.al w.be (p.x - c.x) (p.y - c.y) (d.x - c.x) (d.y - c.y) (q.x - c.x) (q.y - c.y)
 unfold Way.f at h1 h2 h3
 have e1:tw c d q=(d.x - c.x)*(q.y - c.y) - (d.y - c.y)*(q.x - c.x):=by unfold tw;grind
 have Oz:(p.x - c.x)*(d.y - c.y) - (p.y - c.y)*(d.x - c.x)= -tw c d p:=by unfold tw;grind
 have e3:tw c p q=(p.x - c.x)*(q.y - c.y) - (p.y - c.y)*(q.x - c.x):=by unfold tw;grind
 rw [← e1,Oz,← e3] at key
 have fU:0 < w.al*(d.x - c.x)+w.be*(d.y - c.y):=by rw [Int.mul_sub,Int.mul_sub];omega
 have fP:0 < w.al*(p.x - c.x)+w.be*(p.y - c.y):=by rw [Int.mul_sub,Int.mul_sub];omega
 have fQ:0 < w.al*(q.x - c.x)+w.be*(q.y - c.y):=by rw [Int.mul_sub,Int.mul_sub];omega
 refine FF fU ?_
 rw [key]
 have m1:=Int.mul_nonneg (Int.le_of_lt fP) t1
 have m2:0 < (w.al*(q.x - c.x)+w.be*(q.y - c.y))* -tw c d p:=Int.mul_pos fQ (by omega)
 omega
def u5 (w:Way) (S:List Pl) (a b:Pl):Prop:= ∀ q∈S,0≤tw a b q∧(tw a b q=0→¬ (w.f a < w.f q∧w.f q < w.f b))
def lM (w:Way) (S:List Pl):List Pl→Prop
 | b :: a :: r=>w.f a < w.f b∧u5 w S a b∧lM w S (a :: r)
 | _=>True
def An (p:Pl):List Pl→Prop
 | b :: a :: r=>0≤tw a b p∧An p (a :: r)
 | _=>True
structure Ch (w:Way) (S st:List Pl):Prop where
 lN:∀ q∈st,q∈S
 FH:lM w S st
 top:∀ q∈S,∃ t,st.head?=some t∧w.f q≤w.f t
 bot:∀ q∈S,∃ t,st.getLast?=some t∧w.f t≤w.f q
 inj:∀ q∈S,∀ r∈S,w.f q=w.f r→q=r
theorem w9 {S:List Pl} {p:Pl}:∀ (r:List Pl) (b a:Pl),lM w S (b :: a :: r)→(∀ q∈b :: a :: r,q∈S)→w.f b < w.f p→0≤tw a b p→An p (b :: a :: r)
 | [],b,a,_,_,_,t=>⟨t,trivial⟩
 | z :: r,b,a,e,m,h,t=>by
   obtain ⟨e1,e2,e3⟩:=e
   obtain ⟨e4,e5,e6⟩:=id e3
   have t2:0≤tw z a p:=FG e4 e1 h (e5 b (m b (by simp))).1 t
   exact ⟨t,w9 r a z e3 (fun q hq=>m q (List.mem_cons_of_mem _ hq)) (by omega) t2⟩
structure IX (w:Way) (S st:List Pl) (p c:Pl) (r:List Pl):Prop where
 eq:jb st p=c :: r
 FH:lM w S (c :: r)
 lN:∀ q∈c :: r,q∈S
 OA:An p (c :: r)
 lst:(c :: r).getLast?=st.getLast?
 P0:(∀ q∈S,w.f q≤w.f c)∨∃ d,w.f c < w.f d∧(∀ q∈S,0≤tw c d q)∧tw c d p < 0
theorem Dk {S:List Pl} {p:Pl} (hp:∀ q∈S,w.f q < w.f p):∀ (st:List Pl) (c:Pl) (r:List Pl),st=c :: r→lM w S st→(∀ q∈st,q∈S)→((∀ q∈S,w.f q≤w.f c)∨∃ d,w.f c < w.f d∧(∀ q∈S,0≤tw c d q)∧tw c d p < 0)→
 ∃ c' r',IX w S st p c' r'
 | _,c,[],rfl,e,m,f=>⟨c,[],rfl,trivial,m,trivial,rfl,f⟩
 | _,b,a :: r,rfl,e,m,f=>by
   obtain ⟨e1,e2,e3⟩:=id e
   by_cases k:tw a b p < 0
   ·obtain ⟨c',r',P⟩:=Dk hp (a :: r) a r rfl e3 (fun q hq=>m q (List.mem_cons_of_mem _ hq)) (.inr ⟨b,e1,fun q hq=>(e2 q hq).1,k⟩)
    refine ⟨c',r',?_,P.FH,P.lN,P.OA,?_,P.P0⟩
    ·show (if tw a b p < 0 then jb (a :: r) p else b :: a :: r)=_
     rw [if_pos k];exact P.eq
    ·rw [P.lst];rfl
   ·refine ⟨b,a :: r,?_,e,m,w9 r b a e m (hp b (m b (by simp))) (by omega),rfl,f⟩
    show (if tw a b p < 0 then jb (a :: r) p else b :: a :: r)=_
    rw [if_neg k]
theorem qM {S:List Pl} {p:Pl}:∀ (st:List Pl),lM w S st→An p st→(∀ q∈st,w.f q < w.f p)→lM w (S ++ [p]) st
 | [],_,_,_=>trivial
 | [_],_,_,_=>trivial
 | b :: a :: r,e,l,h=>by
   obtain ⟨e1,e2,e3⟩:=e
   refine ⟨e1,fun q hq=>?_,qM (a :: r) e3 l.2 fun q hq=>h q (List.mem_cons_of_mem _ hq)⟩
   rcases List.mem_append.mp hq with hq | hq
   ·exact e2 q hq
   ·rw [List.mem_singleton.mp hq]
    exact ⟨l.1,fun _ z=>by have:=h b (by simp);omega⟩
theorem Ch.push {S st:List Pl} {p:Pl} (C:Ch w S st) (hne:S≠[]) (hp:∀ q∈S,w.f q < w.f p):Ch w (S ++ [p]) (aP st p):=by
 obtain ⟨s0,hs0⟩:=List.exists_mem_of_ne_nil S hne
 obtain ⟨b,hb,_⟩:=C.top s0 hs0
 obtain ⟨r,rfl⟩:∃ r,st=b :: r:=by
  cases st with
  | nil=>cases hb
  | cons x r=>exact ⟨r,by rw [Option.some.inj hb]⟩
 obtain ⟨c,r',P⟩:=Dk hp (b :: r) b r rfl C.FH C.lN (.inl fun q hq=>by
  obtain ⟨t,e,h⟩:=C.top q hq
  rw [← Option.some.inj e] at h
  exact h)
 have cS:c∈S:=P.lN c (by simp)
 have hcp:w.f c < w.f p:=hp c cS
 have OB:u5 w (S ++ [p]) c p:=fun q hq=>by
  rcases List.mem_append.mp hq with hq | hq
  ·by_cases k:w.f q≤w.f c
   ·refine ⟨?_,fun _ z=>by omega⟩
    cases r' with
    | nil=>
      obtain ⟨t,e,h⟩:=C.bot q hq
      rw [← P.lst] at e
      have e:c=t:=by simpa using e
      subst e
      have:=C.inj q hq c cS (by omega)
      subst this
      rw [qw]
      exact Int.le_refl _
    | cons a r''=>
      obtain ⟨e1,e2,e3⟩:=P.FH
      exact Di e1 hcp k (e2 q hq).1 P.OA.1
   ·rcases P.P0 with f | ⟨d,d1,d2,d3⟩
    ·exact absurd (f q hq) k
    ·have:=Dj d1 hcp (by omega) (d2 q hq) d3
     exact ⟨by omega,fun z=>by omega⟩
  ·rw [List.mem_singleton.mp hq,wN]
   exact ⟨Int.le_refl _,fun _ z=>by omega⟩
 refine ⟨fun q hq=>?_,?_,fun q hq=>⟨p,rfl,?_⟩,fun q hq=>?_,fun q hq r hr e=>?_⟩
 ·unfold aP at hq
  rw [P.eq] at hq
  rcases List.mem_cons.mp hq with rfl | hq
  ·simp
  ·exact List.mem_append_left _ (P.lN q hq)
 ·unfold aP
  rw [P.eq]
  exact ⟨hcp,OB,qM _ P.FH P.OA fun q hq=>hp q (P.lN q hq)⟩
 ·rcases List.mem_append.mp hq with hq | hq
  ·have:=hp q hq;omega
  ·rw [List.mem_singleton.mp hq];exact Int.le_refl _
 ·unfold aP
  rw [P.eq,List.getLast?_cons_cons,P.lst]
  rcases List.mem_append.mp hq with hq | hq
  ·exact C.bot q hq
  ·rw [List.mem_singleton.mp hq]
   obtain ⟨t,e,h⟩:=C.bot s0 hs0
   have:=hp s0 hs0
   exact ⟨t,e,by omega⟩
 ·rcases List.mem_append.mp hq with hq | hq <;> rcases List.mem_append.mp hr with hr | hr
  ·exact C.inj q hq r hr e
  ·rw [List.mem_singleton.mp hr] at e;have:=hp q hq;omega
  ·rw [List.mem_singleton.mp hq] at e;have:=hp r hr;omega
  ·rw [List.mem_singleton.mp hq,List.mem_singleton.mp hr]
theorem Ch.one (p:Pl):Ch w [p] (aP [] p):=by
 refine ⟨fun q hq=>hq,trivial,fun q hq=>⟨p,rfl,?_⟩,fun q hq=>⟨p,rfl,?_⟩,fun q hq r hr _=>?_⟩
 ·rw [List.mem_singleton.mp hq];exact Int.le_refl _
 ·rw [List.mem_singleton.mp hq];exact Int.le_refl _
 ·rw [List.mem_singleton.mp hq,List.mem_singleton.mp hr]
theorem Ch.all:∀ (line S st:List Pl),S≠[]→Ch w S st→(S ++ line).Pairwise (fun p q=>w.f p < w.f q)→Ch w (S ++ line) (line.foldl aP st)
 | [],S,st,_,C,_=>by rw [List.append_nil];exact C
 | p :: line,S,st,hne,C,hs=>by
   have e:S ++ p :: line=(S ++ [p]) ++ line:=by simp
   rw [e] at hs ⊢
   have hp:∀ q∈S,w.f q < w.f p:=fun q hq=>by
    have:=(List.pairwise_append.mp (List.pairwise_append.mp hs).1).2.2 q hq p (by simp)
    exact this
   rw [List.foldl_cons]
   exact Ch.all line (S ++ [p]) (aP st p) (by simp) (C.push hne hp) hs
theorem nh {line:List Pl} (hne:line≠[]) (hs:line.Pairwise (fun p q=>w.f p < w.f q)):Ch w line (line.foldl aP []):=by
 cases line with
 | nil=>exact absurd rfl hne
 | cons p line=>exact Ch.all line [p] (aP [] p) (by simp) (Ch.one p) hs
def u6 (st:List Pl) (a b:Pl):Prop:= ∃ i:Nat,st[i+1]?=some a∧st[i]?=some b
theorem u7 {S:List Pl}:∀ {st:List Pl} {a b:Pl},lM w S st→u6 st a b→w.f a < w.f b∧u5 w S a b
 | [],a,b,_,⟨i,h,_⟩=>by simp at h
 | [_],a,b,_,⟨i,h,_⟩=>by simp at h
 | y :: x :: r,a,b,e,⟨i,h1,h2⟩=>by
   obtain ⟨e1,e2,e3⟩:=e
   cases i with
   | zero=>
     have z1:x=a:=by simpa using h1
     have z2:y=b:=by simpa using h2
     subst z1 z2
     exact ⟨e1,e2⟩
   | succ i=>exact u7 e3 ⟨i,by simpa using h1,by simpa using h2⟩
theorem uc {S:List Pl}:∀ {st:List Pl} {t a:Pl},lM w S st→st.head?=some t→w.f a < w.f t→(∃ z,st.getLast?=some z∧w.f z≤w.f a)→∃ c d,u6 st c d∧w.f c≤w.f a∧w.f a < w.f d
 | [],t,a,_,h,_,_=>by cases h
 | [y],t,a,_,h,h1,⟨z,hz,h2⟩=>by
   have z1:y=t:=by simpa using h
   have z2:y=z:=by simpa using hz
   subst z1 z2
   omega
 | y :: x :: r,t,a,e,h,h1,hz=>by
   have z1:y=t:=by simpa using h
   subst z1
   obtain ⟨e1,e2,e3⟩:=e
   by_cases k:w.f x≤w.f a
   ·exact ⟨x,y,⟨0,rfl,rfl⟩,k,h1⟩
   ·obtain ⟨c,d,⟨i,g1,g2⟩,g3,g4⟩:=uc (t:=x) (a:=a) e3 rfl (by omega) (by
     obtain ⟨z,hz,h2⟩:=hz
     exact ⟨z,by simpa using hz,h2⟩)
    exact ⟨c,d,⟨i+1,by simpa using g1,by simpa using g2⟩,g3,g4⟩
theorem Bm {a b c d:Pl} (h1:w.f c < w.f a) (h2:w.f a < w.f d) (h3:w.f a < w.f b) (t1:0≤tw a b c) (t2:0≤tw a b d):tw c d a≤0:=by
 have key:=gI w.al w.be (c.x - a.x) (c.y - a.y) (b.x - a.x) (b.y - a.y) (d.x - a.x) (d.y - a.y)
 unfold Way.f at h1 h2 h3
 have e1:(c.x - a.x)*(b.y - a.y) - (c.y - a.y)*(b.x - a.x)= -tw a b c:=by unfold tw;grind
 have e2:tw a b d=(b.x - a.x)*(d.y - a.y) - (b.y - a.y)*(d.x - a.x):=by unfold tw;grind
 have e3:tw c d a=(c.x - a.x)*(d.y - a.y) - (c.y - a.y)*(d.x - a.x):=by unfold tw;grind
 rw [e1,← e2,← e3] at key
 have fV:0 < w.al*(b.x - a.x)+w.be*(b.y - a.y):=by rw [Int.mul_sub,Int.mul_sub];omega
 have fC:w.al*(c.x - a.x)+w.be*(c.y - a.y) < 0:=by rw [Int.mul_sub,Int.mul_sub];omega
 have fD:0 < w.al*(d.x - a.x)+w.be*(d.y - a.y):=by rw [Int.mul_sub,Int.mul_sub];omega
 have m1:(w.al*(c.x - a.x)+w.be*(c.y - a.y))*tw a b d≤0:=Int.mul_nonpos_of_nonpos_of_nonneg (by omega) t2
 have m2:(w.al*(d.x - a.x)+w.be*(d.y - a.y))* -tw a b c≤0:=Int.mul_nonpos_of_nonneg_of_nonpos (by omega) (by omega)
 apply Classical.byContradiction
 intro z
 have:0 < (w.al*(b.x - a.x)+w.be*(b.y - a.y))*tw c d a:=Int.mul_pos fV (by omega)
 omega
theorem jB {S st:List Pl} (C:Ch w S st) {a b:Pl}:u6 st a b↔a∈S∧b∈S∧w.f a < w.f b∧u5 w S a b:=by
 constructor
 ·intro h
  obtain ⟨h1,h2⟩:=u7 C.FH h
  obtain ⟨i,g1,g2⟩:=h
  exact ⟨C.lN a (List.mem_of_getElem? g1),C.lN b (List.mem_of_getElem? g2),h1,h2⟩
 ·rintro ⟨ha,hb,hab,he⟩
  obtain ⟨t,ht,To⟩:=C.top b hb
  obtain ⟨c,d,hcd,h1,h2⟩:=uc C.FH ht (show w.f a < w.f t by omega) (C.bot a ha)
  obtain ⟨e1,e2⟩:=u7 C.FH hcd
  have hc:c∈S:=by obtain ⟨i,g1,g2⟩:=hcd;exact C.lN c (List.mem_of_getElem? g1)
  have hd:d∈S:=by obtain ⟨i,g1,g2⟩:=hcd;exact C.lN d (List.mem_of_getElem? g2)
  have ea:c=a:=by
   apply Classical.byContradiction
   intro z
   have hlt:w.f c < w.f a:=by
    rcases Int.lt_or_eq_of_le h1 with y | y
    ·exact y
    ·exact absurd (C.inj c hc a ha y) z
   have t1:=Bm hlt h2 hab (he c hc).1 (he d hd).1
   have t2:=(e2 a ha).1
   exact (e2 a ha).2 (by omega) ⟨hlt,h2⟩
  subst ea
  have t1:=(he d hd).1
  have t2:=(e2 b hb).1
  have t3:tw c d b= -tw c b d:=by rw [kr]
  have t0:tw c b d=0:=by omega
  have ed:d=b:=by
   rcases Int.lt_trichotomy (w.f d) (w.f b) with y | y | y
   ·exact absurd ⟨h2,y⟩ ((he d hd).2 t0)
   ·exact C.inj d hd b hb y
   ·exact absurd ⟨hab,y⟩ ((e2 b hb).2 (by omega))
  subst ed
  exact hcd
def ay:Way:=⟨2 ^ 142,1⟩
def pK:Way:=⟨-2 ^ 142, -1⟩
theorem ni {p q:Pl} (hp:p.y.natAbs < 2 ^ 140) (hq:q.y.natAbs < 2 ^ 140):aZ p q↔ay.f p < ay.f q:=by
 unfold aZ Way.f ay
 dsimp only
 have e:(2:Int) ^ 142=5575186299632655785383929568162090376495104:=by decide
 have e2:(2:Nat) ^ 140=1393796574908163946345982392040522594123776:=by decide
 rw [e2] at hp hq
 rw [e]
 omega
theorem gv (p:Pl):pK.f p= -ay.f p:=by
 unfold Way.f pK ay
 dsimp only
 have e:(2:Int) ^ 142=5575186299632655785383929568162090376495104:=by decide
 rw [e]
 omega
end
end L3
namespace L3
open PySem PySem.Spec PyProof.Rows L2
theorem dQ:bootBuiltins "str" =some (.type "str"):=by decide +kernel
theorem FI {P:Program} {w:World} {K:PySem.W.Frag} {mg:Str→Option Value} {base:Heap} {k:Nat} {f:Addr} {fd:FuncData} {ps:List Str}:b8 P w K mg base fZ k f fd ps (qc K fun _ _ _=>False):=
 ⟨fun _ _ _ _ ⟨_,_,_,_,_,h,_⟩=>h.elim,fun _ _ _ _ _ _ _ _ _ _ _ _ _ ⟨_,_,_,_,_,h,_⟩=>h.elim⟩
theorem Bo (b:Pl) (r:List Pl):oV ((b :: r).reverse.map Pl.d) (-1)=some b.d:=by
 rw [List.reverse_cons,List.map_append]
 exact wD _ _
theorem Bp (b a:Pl) (r:List Pl):oV ((b :: a :: r).reverse.map Pl.d) (-2)=some a.d:=by
 have hl:((b :: a :: r).reverse.map Pl.d).length=r.length+2:=by simp
 have e:B0 (r.length+2) (-2)=some r.length:=by
  unfold B0
  rw [if_neg (by decide),if_pos (by omega)]
  congr 1
  omega
 unfold oV
 rw [hl,e]
 show ((b :: a :: r).reverse.map Pl.d)[r.length]?=some a.d
 rw [List.reverse_cons,List.reverse_cons,List.append_assoc,List.map_append,List.getElem?_append_right (by simp)]
 simp
theorem xg:∀ (st:List Pl) (p:Pl),(jb st p).length≤st.length
 | [],_=>Nat.le_refl _
 | [_],_=>Nat.le_refl _
 | b :: a :: r,p=>by
   show (if tw a b p < 0 then jb (a :: r) p else b :: a :: r).length≤_
   have:=xg (a :: r) p
   split
   ·simp only [List.length_cons] at this ⊢;omega
   ·exact Nat.le_refl _
theorem xh:∀ (st:List Pl) (p:Pl),∀ q∈jb st p,q∈st
 | [],_,_,h=>h
 | [_],_,_,h=>h
 | b :: a :: r,p,q,h=>by
   have h:q∈(if tw a b p < 0 then jb (a :: r) p else b :: a :: r):=h
   by_cases k:tw a b p < 0
   ·rw [if_pos k] at h
    exact List.mem_cons_of_mem _ (xh (a :: r) p q h)
   ·rw [if_neg k] at h
    exact h
theorem Dm {a b p:Pl} {r:List Pl} (h:tw a b p < 0):jb (b :: a :: r) p=jb (a :: r) p:=by
 show (if tw a b p < 0 then jb (a :: r) p else b :: a :: r)=_
 rw [if_pos h]
theorem Dn {a b p:Pl} {r:List Pl} (h:¬ tw a b p < 0):jb (b :: a :: r) p=b :: a :: r:=by
 show (if tw a b p < 0 then jb (a :: r) p else b :: a :: r)=_
 rw [if_neg h]
theorem eY (ps:List Pl):(ps.foldl aP []).length≤ps.length:=by
 have key:∀ (ps st:List Pl),(ps.foldl aP st).length≤st.length+ps.length:=by
  intro ps
  induction ps with
  | nil=>intro st;simp
  | cons p ps ih=>
    intro st
    have h1:=ih (aP st p)
    have h2:(aP st p).length≤st.length+1:=by
     show (jb st p).length+1≤_
     have:=xg st p
     omega
    simp only [List.foldl_cons,List.length_cons]
    omega
 simpa using key ps []
theorem oh (ps:List Pl):∀ q∈ps.foldl aP [],q∈ps:=by
 have key:∀ (ps st:List Pl),∀ q∈ps.foldl aP st,q∈st∨q∈ps:=by
  intro ps
  induction ps with
  | nil=>intro st q h;exact .inl h
  | cons p ps ih=>
    intro st q h
    rcases ih (aP st p) q h with h | h
    ·rcases List.mem_cons.mp h with h | h
     ·exact .inr (by rw [h];exact List.mem_cons_self ..)
     ·exact .inl (xh st p q h)
    ·exact .inr (List.mem_cons_of_mem _ h)
 intro q h
 rcases key ps [] q h with h | h
 ·cases h
 ·exact h
theorem yR {ps:List Pl} {i:Nat} {p:Pl} (h:ps[i]?=some p):(ps.take (i+1)).foldl aP []=aP ((ps.take i).foldl aP []) p:=by
 rw [List.take_succ,h,List.foldl_append]
 rfl
theorem Le.put {M M':Mp} {p:Addr} {o:MO} (h:Le M M'):Le (aA M p o) (aA M' p o):=fun c u e=>by
 by_cases hc:c=p
 ·subst hc
  rw [ah] at e ⊢;exact e
 ·rw [bC hc] at e ⊢
  exact h c u e
theorem Le.free {M M':Mp} {p:Addr} (h:Le M M') (e:M' p=none):M p=none:=by
 cases k:M p with
 | none=>rfl
 | some o=>rw [h p o k] at e;cases e
theorem xj (ps:List Pl):cutD (ps.map Pl.d) none (some (-1))=ps.dropLast.map Pl.d:=by
 unfold cutD
 have e:HT.oU (ps.map Pl.d).length (ps.map Pl.d).length (some (-1))=ps.length - 1:=by
  unfold HT.oU
  dsimp only
  rw [if_pos (by decide),List.length_map]
  omega
 have e0:HT.oU (ps.map Pl.d).length 0 none=0:=rfl
 rw [e,e0,List.drop_zero,Nat.sub_zero,List.dropLast_eq_take,List.map_take]
theorem Dp {n:Nat} {z:Int} (h:Sm n z) (hn:n≤1000):Att.Bh z:=by
 have:=mQ h
 show Builtin.Int.intBits z≤1048576
 omega
def Flat (ps:List Pl):Prop:= ∀ p∈ps,∀ q∈ps,∀ r∈ps,tw p q r=0
def hz (qs:List Pl):Pl:=qs.headD ⟨0,0⟩
def lz (qs:List Pl):Pl:=qs.getLastD ⟨0,0⟩
theorem Dq {qs:List Pl} (h:qs≠[]):hz qs∈qs:=by
 cases qs with
 | nil=>exact absurd rfl h
 | cons a r=>exact List.mem_cons_self ..
theorem yS {qs:List Pl} (h:qs≠[]):lz qs∈qs:=by
 unfold lz
 rw [List.getLastD_eq_getLast?,List.getLast?_eq_some_getLast h]
 exact List.getLast_mem h
theorem LB {qs:List Pl} (h:qs≠[]):oV (qs.map Pl.d) 0=some (hz qs).d:=by
 cases qs with
 | nil=>exact absurd rfl h
 | cons a r=>exact bJ (j:=0) rfl
theorem G6 {qs:List Pl} (h:qs≠[]):oV (qs.map Pl.d) (-1)=some (lz qs).d:=by
 obtain ⟨r,z,rfl⟩:∃ r z,qs=r ++ [z]:=⟨qs.dropLast,qs.getLast h,(List.dropLast_concat_getLast h).symm⟩
 rw [List.map_append]
 have:lz (r ++ [z])=z:=by unfold lz;simp
 rw [this]
 exact wD _ _
theorem IY {qs:List Pl} (hs:qs.Pairwise (fun p q=> ¬ aZ q p)):∀ q∈qs,¬ aZ q (hz qs)∧¬ aZ (lz qs) q:=by
 intro q hq
 have hne:qs≠[]:=fun z=>by rw [z] at hq;cases hq
 constructor
 ·cases qs with
  | nil=>exact absurd rfl hne
  | cons a r=>
    rcases List.mem_cons.mp hq with e | e
    ·rw [e];exact bY a
    ·exact (List.pairwise_cons.mp hs).1 q e
 ·obtain ⟨r,z,rfl⟩:∃ r z,qs=r ++ [z]:=⟨qs.dropLast,qs.getLast hne,(List.dropLast_concat_getLast hne).symm⟩
  have e:lz (r ++ [z])=z:=by unfold lz;simp
  rw [e]
  rcases List.mem_append.mp hq with k | k
  ·exact (List.pairwise_append.mp hs).2.2 q k z (by simp)
  ·rw [List.mem_singleton.mp k];exact bY z
theorem IZ {dx dy ux uy vx vy:Int} (h:dx≠0∨dy≠0) (h1:dx*uy - dy*ux=0) (h2:dx*vy - dy*vx=0):ux*vy - uy*vx=0:=by
 rcases h with h | h
 ·have:dx*(ux*vy - uy*vx)=0:=by grind
  exact (Int.mul_eq_zero.mp this).resolve_left h
 ·have:dy*(ux*vy - uy*vx)=0:=by grind
  exact (Int.mul_eq_zero.mp this).resolve_left h
theorem xm {a z p q r:Pl} (h:a≠z) (h1:tw a z p=0) (h2:tw a z q=0) (h3:tw a z r=0):tw p q r=0:=by
 have hd:z.x - a.x≠0∨z.y - a.y≠0:=by
  by_cases k:z.x - a.x=0
  ·right
   intro k2
   apply h
   cases a;cases z
   simp only at k k2
   rw [Pl.mk.injEq]
   omega
  ·exact .inl k
 unfold tw at h1 h2 h3 ⊢
 exact IZ hd (ux:=q.x - p.x) (uy:=q.y - p.y) (vx:=r.x - p.x) (vy:=r.y - p.y) (by grind) (by grind)
theorem Dr {qs:List Pl} (hs:qs.Pairwise (fun p q=> ¬ aZ q p)):(∀ q∈qs,tw (hz qs) (lz qs) q=0)↔Flat qs:=by
 constructor
 ·intro h p hp q hq r hr
  by_cases k:hz qs=lz qs
  ·have one:∀ q∈qs,q=hz qs:=fun q hq=>by
    obtain ⟨h1,h2⟩:=IY hs q hq
    rcases gZ q (hz qs) with e | e | e
    ·exact absurd e h1
    ·exact e
    ·rw [k] at e;exact absurd e h2
   rw [one p hp,one q hq]
   exact mV ..
  ·exact xm k (h p hp) (h q hq) (h r hr)
 ·intro h q hq
  have hne:qs≠[]:=fun z=>by rw [z] at hq;cases hq
  exact h _ (Dq hne) _ (yS hne) q hq
theorem oi {ps qs:List Pl} (h:qs.Perm ps):Flat qs↔Flat ps:=
 ⟨fun f p hp q hq r hr=>f p (h.mem_iff.mpr hp) q (h.mem_iff.mpr hq) r (h.mem_iff.mpr hr),fun f p hp q hq r hr=>f p (h.mem_iff.mp hp) q (h.mem_iff.mp hq) r (h.mem_iff.mp hr)⟩
def sJ:Nat→D→Bool
 | 0,_=>false
 | _+1,.int _=>true
 | _+1,.bA=>true
 | _+1,.str _=>true
 | n+1,.tup ds=>decide (ds.length≤1000) && ds.all (sJ n)
 | _+1,_=>false
def Ry (M:Mp) (n:Nat) (d e:D):Prop:=(d=e∧sJ n d=true)∨∃ (f g:Addr) (xs:List D),d= .ref f∧e= .ref g∧M f=some (.lst xs)∧M g=some (.lst xs)∧xs.all (sJ (n - 1))=true∧xs.length≤1000
def Ao (n:Nat):pI:=fun ds M Q=> ∃ d e:D,ds= [d,e]∧Ry M n d e∧Q (.bl true) M
def aR (qs:List Pl):List Pl:=if qs.length < 2 then qs else (qs.foldl aP []).reverse.dropLast ++ (qs.reverse.foldl aP []).reverse.dropLast
def cy (b:List Pl):List (List Pl):=if b.length < 2 then [] else List.zipWith (fun p q=>[p,q]) b (b.drop 1 ++ b.take 1)
theorem xo {α:Type} (g:α→D) (xs:List α) (n:Nat) (h:n≤xs.length):cutD (xs.map g) none (some (n:Int))=(xs.take n).map g:=by
 unfold cutD
 rw [HT.zT,HT.wB]
 rw [List.length_map,Nat.min_eq_left h,List.map_take,List.drop_zero,Nat.sub_zero]
theorem oj:∀ (as bs:List Pl),(List.zipWith (fun p q=>[p,q]) as bs).map (fun ps:List Pl=>D.tup (ps.map Pl.d))=List.zipWith pairD (as.map Pl.d) (bs.map Pl.d)
 | [],_=>by simp
 | _ :: _,[]=>by simp
 | a :: as,b :: bs=>by
   show D.tup [a.d,b.d] :: (List.zipWith (fun p q=>[p,q]) as bs).map (fun ps:List Pl=>D.tup (ps.map Pl.d))=pairD a.d b.d :: List.zipWith pairD (as.map Pl.d) (bs.map Pl.d)
   rw [oj as bs]
   rfl
end L3
namespace L3
open PySem PySem.Spec PyProof.Rows L2
section
variable {P:Program} {w:World} {A:Around} {E:Value→Shared→Prop} {s:Shared}
end
section
variable {X:Cx} {pos:Pos}
end
end L3
namespace L3
open PySem PySem.Spec PyProof.Rows L2
section
open PySem.SeqAt
open PySem.AutoSeq1 (wpAny_loadPart')
open PySem.MeetsSeq PySem.MeetsSeq2 PySem.MeetsSeq3
end
section
variable {X:Cx} {pos:Pos}
def OC (to te:cY):cY:=fun ρ M Q=>to ρ M fun d M1=>(∃ l xs,d= .ref l∧M1 l=some (.lst xs))∧te ρ M1 fun e M2=> ∃ (l b:Addr) (xs zs:List D),d= .ref l∧e= .ref b∧M2 l=some (.lst xs)∧M2 b=some (.lst zs)∧xs.length+zs.length≤sizeLine∧Q .bA (aA M2 l (.lst (xs ++ zs)))
theorem G7 {o e:Expr} {to te:cY} {apos pos:Pos} (ho:cM X o to) (he:cM X e te) (IE:PE X (.Call (.Attribute o "extend" apos) [e] [] pos) (Nn X.K "list" zY (dn X.K to) (Cg (dn X.K te) HW))):cM X (.Call (.Attribute o "extend" apos) [e] [] pos) (OC to te):=
 up IE fun σ H ρ M Q r q=>fH r q fun v H' d M' f dv r' ⟨⟨l,xs,e1,hM⟩,q⟩=>by
  subst e1
  obtain rfl:=aK.mp dv
  obtain ⟨ys,ha,hy⟩:=r'.mem.lst hM
  refine ⟨.inl ⟨rfl,_,iD.of ha⟩,fH r' q fun u H2 d2 M2 f2 du r2 ⟨l',b,xs',zs,e2,e3,La,hB,hlt,q2⟩=>?_⟩
  injection e2 with e2
  subst e2 e3
  obtain rfl:=aK.mp du
  obtain ⟨ws,hb,hw⟩:=r2.mem.lst La
  obtain ⟨vs,hc,hv⟩:=r2.mem.lst hB
  exact ⟨l,b,ws,vs,rfl,rfl,hb,hc,by rw [← hw.length,← hv.length];exact hlt,.bA,_,(f.trans f2).trans (Fr.write (K:=X.K) La),cJ.mpr rfl,r2.mem.ko hb (hw.append hv),q2⟩
end
end L3
namespace L3
open PySem PySem.Spec PyProof.Rows L2
section
variable {P:Program} {w:World} {A:Around} {E:Value→Shared→Prop} {s:Shared}
end
section
variable {X:Cx} {pos:Pos}
end
section
open PySem.SeqAt
open PySem.AutoSeq1 (wpAny_loadPart')
open PySem.MeetsSeq PySem.MeetsSeq2 PySem.MeetsSeq3
end
end L3
namespace L3
open PySem PySem.Spec PyProof.Rows L2
section
variable {P:Program} {w:World} {A:Around} {E:Value→Shared→Prop} {s:Shared}
end
end L3
namespace L3
open PySem PySem.Spec PyProof.Rows L2
section
variable {X:Cx} {pos:Pos}
structure P1 (X:Cx) (r:D→Mp→DK→Prop):Prop where
 run:∀ (pins:List (Addr ×Obj)) (s:Shared) (σ:St) (H:Hp) (M:Mp) (x:V) (d:D) (u:Value) (Q:DK),Inv X pins σ H s→b9 X.K H M→RelV x u→Dat X.K H d x→r d M Q→wpAny (model X.prog X.w) X.A (call (.builtin "min") [u] [(Str.ofString "default",.none)]) (EP X pins σ (Post X.K M H Q)) X.xe s
end
end L3
namespace L3
open PySem PySem.Spec PyProof.Rows L2
section
variable {P:Program} {w:World} {A:Around} {E:Value→Shared→Prop} {s:Shared}
variable {κ:KeyKind} {kd:SortKind}
end
section
variable {X:Cx}
end
end L3
namespace L3
def Nx:List Pl→Pl→Pl→Prop
 | x :: y :: r,a,b=>(x=a∧y=b)∨Nx (y :: r) a b
 | _,_,_=>False
theorem yT (h:Pl) (r:List Pl) (a b:Pl):∀ X:List Pl,Nx (X ++ h :: r) a b↔Nx (X ++ [h]) a b∨Nx (h :: r) a b
 | []=>by
   show Nx (h :: r) a b↔Nx [h] a b∨Nx (h :: r) a b
   have:¬ Nx [h] a b:=fun z=>z
   exact ⟨.inr,fun z=>z.elim (fun y=>absurd y this) id⟩
 | [x]=>by
   show (x=a∧h=b)∨Nx (h :: r) a b↔((x=a∧h=b)∨Nx [h] a b)∨Nx (h :: r) a b
   have:¬ Nx [h] a b:=fun z=>z
   constructor
   ·rintro (z | z)
    ·exact .inl (.inl z)
    ·exact .inr z
   ·rintro ((z | z) | z)
    ·exact .inl z
    ·exact absurd z this
    ·exact .inr z
 | x :: y :: X=>by
   have ih:=yT h r a b (y :: X)
   show (x=a∧y=b)∨Nx (y :: X ++ h :: r) a b↔((x=a∧y=b)∨Nx (y :: X ++ [h]) a b)∨Nx (h :: r) a b
   rw [ih,or_assoc]
theorem nk:∀ (st:List Pl) (a b:Pl),u6 st a b↔Nx st.reverse a b
 | [],a,b=>⟨fun ⟨i,h,_⟩=>by simp at h,fun z=>z.elim⟩
 | [y],a,b=>⟨fun ⟨i,h,_⟩=>by simp at h,fun z=>z.elim⟩
 | y :: x :: r,a,b=>by
   have ih:=nk (x :: r) a b
   have e:(y :: x :: r).reverse=r.reverse ++ x :: [y]:=by simp
   have e2:(x :: r).reverse=r.reverse ++ [x]:=by simp
   rw [e,yT,← e2,← ih]
   have:Nx [x,y] a b↔(x=a∧y=b):=⟨fun z=>z.elim id (fun y=>y.elim),.inl⟩
   rw [this]
   constructor
   ·rintro ⟨i,h1,h2⟩
    cases i with
    | zero=>exact .inr ⟨by simpa using h1,by simpa using h2⟩
    | succ i=>exact .inl ⟨i,by simpa using h1,by simpa using h2⟩
   ·rintro (⟨i,h1,h2⟩ | ⟨h1,h2⟩)
    ·exact ⟨i+1,by simpa using h1,by simpa using h2⟩
    ·exact ⟨0,by simp [h1],by simp [h2]⟩
theorem xq (a b:Pl):∀ (x:Pl) (r:List Pl) (z:Pl),[a,b]∈List.zipWith (fun p q=>[p,q]) (x :: r) (r ++ [z])↔Nx (x :: r ++ [z]) a b
 | x,[],z=>by
   show [a,b]∈[[x,z]]↔(x=a∧z=b)∨Nx [z] a b
   have:¬ Nx [z] a b:=fun z=>z
   simp [this]
   exact ⟨fun ⟨h1,h2⟩=>⟨h1.symm,h2.symm⟩,fun ⟨h1,h2⟩=>⟨h1.symm,h2.symm⟩⟩
 | x,y :: r,z=>by
   have ih:=xq a b y r z
   show [a,b]∈[x,y] :: List.zipWith (fun p q=>[p,q]) (y :: r) (r ++ [z])↔(x=a∧y=b)∨Nx (y :: r ++ [z]) a b
   rw [List.mem_cons,ih]
   simp
   constructor
   ·rintro (⟨h1,h2⟩ | h)
    ·exact .inl ⟨h1.symm,h2.symm⟩
    ·exact .inr h
   ·rintro (⟨h1,h2⟩ | h)
    ·exact .inl ⟨h1.symm,h2.symm⟩
    ·exact .inr h
theorem ud:∀ (as bs:List Pl),∀ t∈List.zipWith (fun p q=>[p,q]) as bs,∃ a b,t= [a,b]
 | [],_,t,h=>by simp at h
 | _ :: _,[],t,h=>by simp at h
 | a :: as,b :: bs,t,h=>by
   rcases List.mem_cons.mp h with h | h
   ·exact ⟨a,b,h⟩
   ·exact ud as bs t h
theorem Ch.ends {w:Way} {S st:List Pl} (C:Ch w S st) {lo hi:Pl} (hl:lo∈S) (hh:hi∈S) (h1:∀ q∈S,w.f lo≤w.f q) (h2:∀ q∈S,w.f q≤w.f hi):st.head?=some hi∧st.getLast?=some lo:=by
 obtain ⟨t,e1,e2⟩:=C.top hi hh
 obtain ⟨u,e3,e4⟩:=C.bot lo hl
 have mt:t∈S:=C.lN t (List.mem_of_mem_head? e1)
 have mu:u∈S:=C.lN u (List.mem_of_getLast? e3)
 have a1:=h2 t mt
 have a2:=h1 u mu
 rw [e1,e3,C.inj t mt hi hh (by omega),C.inj u mu lo hl (by omega)]
 exact ⟨rfl,rfl⟩
theorem gi {l:List Pl} {x:Pl} (h:l.getLast?=some x):l=l.dropLast ++ [x]:=by
 have hne:l≠[]:=fun z=>by rw [z] at h;simp at h
 rw [List.getLast?_eq_some_getLast hne] at h
 have:=List.dropLast_concat_getLast hne
 rw [Option.some.inj h] at this
 exact this.symm
theorem Ds {T H:List Pl} {lo hi a b:Pl} (t1:T.head?=some lo) (t2:T.getLast?=some hi) (h1:H.head?=some hi) (h2:H.getLast?=some lo) (hne:lo≠hi) :
 [a,b]∈List.zipWith (fun p q=>[p,q]) (T.dropLast ++ H.dropLast) ((T.dropLast ++ H.dropLast).drop 1 ++ (T.dropLast ++ H.dropLast).take 1)↔Nx T a b∨Nx H a b:=by
 have eT:=gi t2
 have eH:=gi h2
 obtain ⟨X,hX⟩:∃ X,T.dropLast=lo :: X:=by
  cases e:T.dropLast with
  | nil=>
    rw [e] at eT
    rw [eT] at t1
    exact absurd (Option.some.inj t1).symm hne
  | cons x X=>
    rw [e] at eT
    rw [eT] at t1
    exact ⟨X,by rw [Option.some.inj t1]⟩
 obtain ⟨Y,hY⟩:∃ Y,H=hi :: Y:=by
  cases e:H with
  | nil=>rw [e] at h1;cases h1
  | cons x X=>rw [e] at h1;exact ⟨X,by rw [Option.some.inj h1]⟩
 rw [hX]
 show [a,b]∈List.zipWith (fun p q=>[p,q]) (lo :: (X ++ H.dropLast)) ((X ++ H.dropLast) ++ [lo])↔_
 rw [xq]
 have e1:lo :: (X ++ H.dropLast) ++ [lo]=(lo :: X) ++ (H.dropLast ++ [lo]):=by simp
 rw [e1,← eH]
 conv=>lhs;rw [hY,yT,← hY]
 rw [← hX,← eT]
def OD (a b:Pl) (ps:List Pl):Prop:= ∀ p∈ps,0≤tw a b p∧(tw a b p=0→¬ (aZ (lo a b) p∧aZ p (hi a b)))
theorem ie:∀ {qs:List Pl},qs.Pairwise (fun p q=>aZ p q)→∀ {x y:Pl},qs.head?=some x→qs.getLast?=some y→∀ q∈qs,(q=x∨aZ x q)∧(q=y∨aZ q y)
 | [],_,_,_,h,_,_,_=>by cases h
 | [z],_,x,y,h1,h2,q,hq=>by
   have e1:z=x:=by simpa using h1
   have e2:z=y:=by simpa using h2
   rw [List.mem_singleton.mp hq]
   exact ⟨.inl e1,.inl e2⟩
 | z :: u :: r,hs,x,y,h1,h2,q,hq=>by
   have e1:z=x:=by simpa using h1
   have h2':(u :: r).getLast?=some y:=by simpa using h2
   have ih:=ie (List.pairwise_cons.mp hs).2 (x:=u) rfl h2'
   have hz:=(List.pairwise_cons.mp hs).1
   rcases List.mem_cons.mp hq with e | hq
   ·subst e
    refine ⟨.inl e1,.inr ?_⟩
    have hy:y∈u :: r:=List.mem_of_getLast? h2'
    exact hz y hy
   ·exact ⟨.inr (e1▸hz q hq),(ih q hq).2⟩
theorem qN {st:List Pl} {x y:Pl} (h1:st.head?=some x) (h2:st.getLast?=some y) (h:x≠y):2≤st.length:=by
 match st,h1,h2 with
 | [],h1,_=>cases h1
 | [z],h1,h2=>
   have e1:z=x:=by simpa using h1
   have e2:z=y:=by simpa using h2
   exact absurd (e1.symm.trans e2) h
 | _ :: _ :: _,_,_=>simp
theorem Bq {qs:List Pl} (hs:qs.Pairwise (fun p q=>aZ p q)) (hok:∀ q∈qs,q.y.natAbs < 2 ^ 140) (h2:2≤qs.length) :
 2≤((qs.foldl aP []).reverse.dropLast ++ (qs.reverse.foldl aP []).reverse.dropLast).length∧∀ a b:Pl,[a,b]∈List.zipWith (fun p q=>[p,q]) ((qs.foldl aP []).reverse.dropLast ++ (qs.reverse.foldl aP []).reverse.dropLast) (((qs.foldl aP []).reverse.dropLast ++ (qs.reverse.foldl aP []).reverse.dropLast).drop 1 ++ ((qs.foldl aP []).reverse.dropLast ++ (qs.reverse.foldl aP []).reverse.dropLast).take 1)↔a∈qs∧b∈qs∧a≠b∧OD a b qs:=by
 have hne:qs≠[]:=fun z=>by rw [z] at h2;simp at h2
 obtain ⟨x,hx⟩:∃ x,qs.head?=some x:=by
  cases e:qs with
  | nil=>exact absurd e hne
  | cons x r=>exact ⟨x,rfl⟩
 obtain ⟨y,hy⟩:∃ y,qs.getLast?=some y:=⟨_,List.getLast?_eq_some_getLast hne⟩
 have mx:x∈qs:=List.mem_of_mem_head? hx
 have my:y∈qs:=List.mem_of_getLast? hy
 have hend:=ie hs hx hy
 have be:∀ p∈qs,∀ q∈qs,(aZ p q↔ay.f p < ay.f q):=fun p hp q hq=>ni (hok p hp) (hok q hq)
 have bw:∀ p∈qs,∀ q∈qs,(aZ p q↔pK.f q < pK.f p):=fun p hp q hq=>by
  rw [be p hp q hq,gv,gv]
  omega
 have xy:x≠y:=by
  intro e
  cases e1:qs with
  | nil=>exact absurd e1 hne
  | cons u r=>
    cases r with
    | nil=>rw [e1] at h2;simp at h2
    | cons v r=>
      rw [e1] at hx hy hs
      have eu:u=x:=by simpa using hx
      have OE:y∈v :: r:=List.mem_of_getLast? (by simpa using hy)
      have:=(List.pairwise_cons.mp hs).1 y OE
      rw [eu,e] at this
      exact bY _ this
 have C1:Ch ay qs (qs.foldl aP []):=nh hne (hs.imp_of_mem fun hp hq h=>(be _ hp _ hq).mp h)
 have C2:Ch pK qs.reverse (qs.reverse.foldl aP []):=nh (by simpa using hne) (List.pairwise_reverse.mpr (hs.imp_of_mem fun hp hq h=>(bw _ hp _ hq).mp h))
 have key:∀ p∈qs,∀ q∈qs,(p=q∨aZ p q)→ay.f p≤ay.f q∧pK.f q≤pK.f p:=fun p hp q hq k=>by
  rcases k with rfl | k
  ·exact ⟨Int.le_refl _,Int.le_refl _⟩
  ·have a1:=(be p hp q hq).mp k
   have a2:=(bw p hp q hq).mp k
   omega
 obtain ⟨p1,p2⟩:=C1.ends mx my (fun q hq=>(key x mx q hq ((hend q hq).1.imp Eq.symm id)).1) (fun q hq=>(key q hq y my (hend q hq).2).1)
 obtain ⟨r1,r2⟩:=C2.ends (lo:=y) (hi:=x) (by simpa using my) (by simpa using mx) (fun q hq=>by have hq:=List.mem_reverse.mp hq;exact (key q hq y my (hend q hq).2).2) (fun q hq=>by have hq:=List.mem_reverse.mp hq;exact (key x mx q hq ((hend q hq).1.imp Eq.symm id)).2)
 refine ⟨?_,fun a b=>?_⟩
 ·have l1:=qN p1 p2 (Ne.symm xy)
  have l2:=qN r1 r2 xy
  rw [List.length_append,List.length_dropLast,List.length_dropLast,List.length_reverse,List.length_reverse]
  omega
 rw [Ds (lo:=x) (hi:=y) (by rw [List.head?_reverse];exact p2) (by rw [List.getLast?_reverse];exact p1) (by rw [List.head?_reverse];exact r2) (by rw [List.getLast?_reverse];exact r1) xy,← nk,← nk,jB C1,jB C2]
 constructor
 ·rintro (⟨ha,hb,hab,he⟩ | ⟨ha,hb,hab,he⟩)
  ·have yU:=(be a ha b hb).mpr hab
   refine ⟨ha,hb,uS yU,fun p hp=>⟨(he p hp).1,fun z=>?_⟩⟩
   unfold lo hi
   rw [if_neg (bH yU),if_pos yU,be a ha p hp,be p hp b hb]
   exact (he p hp).2 z
  ·have ha:=List.mem_reverse.mp ha
   have hb:=List.mem_reverse.mp hb
   have yU:=(bw b hb a ha).mpr hab
   refine ⟨ha,hb,(uS yU).symm,fun p hp=>?_⟩
   have G8:=he p (List.mem_reverse.mpr hp)
   refine ⟨G8.1,fun z=>?_⟩
   unfold lo hi
   rw [if_pos yU,if_neg (bH yU),bw b hb p hp,bw p hp a ha]
   exact fun k=>G8.2 z ⟨k.2,k.1⟩
 ·rintro ⟨ha,hb,hab,he⟩
  rcases gZ a b with k | k | k
  ·refine .inl ⟨ha,hb,(be a ha b hb).mp k,fun p hp=>⟨(he p hp).1,fun z=>?_⟩⟩
   have:=(he p hp).2 z
   unfold lo hi at this
   rw [if_neg (bH k),if_pos k,be a ha p hp,be p hp b hb] at this
   exact this
  ·exact absurd k hab
  ·refine .inr ⟨List.mem_reverse.mpr ha,List.mem_reverse.mpr hb,(bw b hb a ha).mp k,fun p hp=>?_⟩
   have hp:=List.mem_reverse.mp hp
   refine ⟨(he p hp).1,fun z=>?_⟩
   have:=(he p hp).2 z
   unfold lo hi at this
   rw [if_pos k,if_neg (bH k),bw b hb p hp,bw p hp a ha] at this
   exact fun y=>this ⟨y.2,y.1⟩
end L3
namespace L3
theorem u9:∀ (l:List Pl),l≠[]→∃ m∈l,∀ z∈l,¬ aZ z m
 | [],e=>absurd rfl e
 | [p],_=>⟨p,by simp,fun z hz=>by rw [List.mem_singleton.mp hz];exact bY _⟩
 | p :: q :: l,_=>by
   obtain ⟨m,hm,k⟩:=u9 (q :: l) (by simp)
   by_cases c:aZ p m
   ·exact ⟨p,by simp,fun z hz=>by
     rcases List.mem_cons.mp hz with rfl | hz
     ·exact bY _
     ·exact fun y=>k z hz (c6 y c)⟩
   ·exact ⟨m,List.mem_cons_of_mem _ hm,fun z hz=>by
     rcases List.mem_cons.mp hz with rfl | hz
     ·exact c
     ·exact k z hz⟩
theorem Aq:∀ (l:List Pl),l≠[]→∃ m∈l,∀ z∈l,¬ aZ m z
 | [],e=>absurd rfl e
 | [p],_=>⟨p,by simp,fun z hz=>by rw [List.mem_singleton.mp hz];exact bY _⟩
 | p :: q :: l,_=>by
   obtain ⟨m,hm,k⟩:=Aq (q :: l) (by simp)
   by_cases c:aZ m p
   ·exact ⟨p,by simp,fun z hz=>by
     rcases List.mem_cons.mp hz with rfl | hz
     ·exact bY _
     ·exact fun y=>k z hz (c6 c y)⟩
   ·exact ⟨m,List.mem_cons_of_mem _ hm,fun z hz=>by
     rcases List.mem_cons.mp hz with rfl | hz
     ·exact c
     ·exact k z hz⟩
theorem jC {ps:List Pl} (h:ps.length < 2):Flat ps:=by
 match ps,h with
 | [],_=>exact fun p hp=>by cases hp
 | [x],_=>
   intro p hp q hq r hr
   rw [List.mem_singleton.mp hp,List.mem_singleton.mp hq,List.mem_singleton.mp hr]
   exact mV x x
theorem Br {qs:List Pl} (hs:qs.Pairwise (fun a b=> ¬ aZ b a)) (nd:qs.Nodup):qs.Pairwise (fun p q=>aZ p q):=by
 refine (hs.and nd).imp fun {a b} h=>?_
 rcases gZ a b with k | k | k
 ·exact k
 ·exact absurd k h.2
 ·exact absurd k h.1
end L3
namespace L3
open PySem L2
def Tr (t:List Pl):Prop:= ∃ a b c:Pl,t= [a,b,c]∧a.Ok 140∧b.Ok 140∧c.Ok 140
def LC:List Pl→Prop
 | [a,b,c]=>(¬ aZ b a∧¬ aZ c a)∧0 < tw a b c
 | _=>False
def eZ:List Pl→List (List Pl)
 | [a,b,c]=>[[a,b],[b,c],[c,a]]
 | _=>[]
def bq (ts:List (List Pl)):List (List Pl):=ts.flatMap eZ
def Fs {α:Type} (ts:List α) (P:α→Prop):Option α→Prop
 | none=> ∀ t∈ts,¬ P t
 | some t=> ∃ i:Nat,ts[i]?=some t∧P t∧∀ (j:Nat) (u:α),j < i→ts[j]?=some u→¬ P u
def oT:Option (List Pl)→D
 | none=> .bA
 | some t=>tD t
def oP:Option Pl→D
 | none=> .bA
 | some p=>p.d
def LD (W:List Pl→Prop):Option (List Pl)→Prop
 | none=> ∀ w,¬ W w
 | some m=>W m∧∀ z,W z→dX z m=false
def LF (W:Pl→Prop):Option Pl→Prop
 | none=> ∀ w,¬ W w
 | some m=>W m∧∀ z,W z→¬ aZ z m
theorem Bs {ts:List (List Pl)} {i:Nat} {t:List Pl} (h:ts[i]?=some t):bq (ts.take (i+1))=bq (ts.take i) ++ eZ t:=by
 unfold bq
 rw [List.take_succ,h,List.flatMap_append]
 simp
theorem Dt (t:List Pl):(eZ t).length≤3:=by
 unfold eZ
 split <;> simp
theorem nt:∀ (ts:List (List Pl)),(bq ts).length≤3*ts.length
 | []=>by simp [bq]
 | t :: ts=>by
   have h1:=nt ts
   have h2:=Dt t
   show (eZ t ++ bq ts).length≤_
   rw [List.length_append,List.length_cons]
   omega
theorem Du (t:List Pl):∀ w∈eZ t,∃ a b,w= [a,b]∧a∈t∧b∈t:=by
 intro w hw
 unfold eZ at hw
 split at hw
 ·rename_i a b c
  simp only [List.mem_cons,List.not_mem_nil,or_false] at hw
  rcases hw with rfl | rfl | rfl
  ·exact ⟨a,b,rfl,by simp,by simp⟩
  ·exact ⟨b,c,rfl,by simp,by simp⟩
  ·exact ⟨c,a,rfl,by simp,by simp⟩
 ·cases hw
theorem nu {ts:List (List Pl)}:∀ w∈bq ts,∃ a b,w= [a,b]∧∃ t∈ts,a∈t∧b∈t:=by
 intro w hw
 obtain ⟨t,ht,hw⟩:=List.mem_flatMap.mp hw
 obtain ⟨a,b,e,h1,h2⟩:=Du t w hw
 exact ⟨a,b,e,t,ht,h1,h2⟩
theorem Dv (s t:List Pl):di (tD s) (tD t)=decide (s=t):=by
 unfold tD
 rw [jw]
 induction s generalizing t with
 | nil=>
   cases t with
   | nil=>rfl
   | cons q t=>simp [cZ]
 | cons p s ih=>
   cases t with
   | nil=>simp [cZ]
   | cons q t=>
     rw [List.map_cons,List.map_cons,iZ,cU,ih,Bool.eq_iff_iff]
     simp
theorem Ar (t:List Pl) (ts:List (List Pl)):inD (tD t) (ts.map tD)=decide (t∈ts):=by
 rw [Bool.eq_iff_iff,decide_eq_true_iff]
 unfold inD
 rw [List.any_eq_true]
 constructor
 ·rintro ⟨d,hd,e⟩
  obtain ⟨u,hu,rfl⟩:=List.mem_map.mp hd
  rw [Dv,decide_eq_true_iff] at e
  rw [← e]
  exact hu
 ·intro h
  exact ⟨tD t,List.mem_map.mpr ⟨t,h,rfl⟩,by rw [Dv];simp⟩
def Rz (ws:List (List Pl)) (w:List Pl):Prop:=w∈ws∧1 < ws.count w
def OF (ws bs:List (List Pl)) (w:List Pl):Prop:=(w∈ws∧w.reverse∉ws∧w∉bs)∨(w∈bs∧w∉ws)
def RA (ps:List Pl) (ts:List (List Pl)) (p:Pl):Prop:=p∈ps∧∀ t∈ts,p∉t
def Ja (t:List Pl) (d:Pl):Prop:=match t with
 | [a,b,c]=>Py a b c d
 | _=>False
theorem uf (w:List Pl):plain 9 (tD w)=true:=List.all_eq_true.mp (cW [w]) _ (by simp)
def RB (ts:List (List Pl)) (ps:List Pl):Option (List Pl ×Pl)→Prop
 | none=> ∀ t∈ts,∀ d∈ps,¬ Ja t d
 | some (t,d)=>Fs ts (fun t=> ∃ d∈ps,Ja t d) (some t)∧LF (fun d=>d∈ps∧Ja t d) (some d)
def oS:Option (List Pl ×Pl)→D
 | none=> .bA
 | some (t,d)=> .tup [.str (Str.ofString "spoilt"),tD t,d.d]
inductive Flt where
 | G9 (t:List Pl) | flat (t:List Pl) | Dw (w:List Pl) | bare (w:List Pl) | Dy (p:Pl) | Dz (t:List Pl) (d:Pl)
def fD:Option Flt→D
 | none=> .bA
 | some (.G9 t)=> .tup [.str (Str.ofString "alien"),tD t]
 | some (.flat t)=> .tup [.str (Str.ofString "flat"),tD t]
 | some (.Dw w)=> .tup [.str (Str.ofString "double"),tD w]
 | some (.bare w)=> .tup [.str (Str.ofString "bare"),tD w]
 | some (.Dy p)=> .tup [.str (Str.ofString "lonely"),p.d]
 | some (.Dz t d)=> .tup [.str (Str.ofString "spoilt"),tD t,d.d]
def OG (ps:List Pl) (ts bs:List (List Pl)) (r:Option Flt):Prop:=
 ∃ (d b:Option (List Pl)) (l:Option Pl),LD (Rz (bq ts)) d∧(d=none→LD (OF (bq ts) bs) b)∧(d=none→b=none→LF (RA ps ts) l)∧
   r=match d,b,l with
    | some w,_,_=>some (.Dw w)
    | none,some w,_=>some (.bare w)
    | none,none,some p=>some (.Dy p)
    | none,none,none=>none
def FJ (ps:List Pl) (ts bs:List (List Pl)) (r:Option Flt):Prop:=
 ∃ (al fl:Option (List Pl)),Fs ts (fun t=> ∃ q∈t,q∉ps) al∧(al=none→Fs ts (fun t=> ¬ LC t) fl)∧
   match al,fl with
   | some t,_=>r=some (.G9 t)
   | none,some t=>r=some (.flat t)
   | none,none=>(Flat ps→r=none)∧(¬ Flat ps→∃ (cf:Option Flt) (sp:Option (List Pl ×Pl)),OG ps ts bs cf∧(cf=none→RB ts ps sp)∧r=match cf,sp with
     | some f,_=>some f
     | none,some (t,d)=>some (.Dz t d)
     | none,none=>none)
def nQ (ps t:List Pl):Prop:=kB t∧∀ q∈t,q∈ps
theorem nQ.tr {ps t:List Pl} (h:nQ ps t) (ho:∀ q∈ps,q.Ok 140):Tr t:=by
 obtain ⟨⟨u,v,w,rfl,_⟩,h2⟩:=h
 exact ⟨u,v,w,rfl,ho u (h2 u (by simp)),ho v (h2 v (by simp)),ho w (h2 w (by simp))⟩
end L3
namespace L3
def prs:List Pl→List (List Pl)
 | x :: y :: r=>[x,y] :: prs (y :: r)
 | _=>[]
theorem vc (h:Pl) (r:List Pl):∀ X:List Pl,prs (X ++ h :: r)=prs (X ++ [h]) ++ prs (h :: r)
 | []=>rfl
 | [x]=>rfl
 | x :: y :: X=>by
   have ih:=vc h r (y :: X)
   show [x,y] :: prs (y :: X ++ h :: r)= [x,y] :: prs (y :: X ++ [h]) ++ prs (h :: r)
   rw [ih]
   rfl
theorem vd:∀ (x:Pl) (r:List Pl) (z:Pl),List.zipWith (fun p q=>[p,q]) (x :: r) (r ++ [z])=prs (x :: r ++ [z])
 | x,[],z=>rfl
 | x,y :: r,z=>by
   show [x,y] :: List.zipWith (fun p q=>[p,q]) (y :: r) (r ++ [z])= [x,y] :: prs (y :: r ++ [z])
   rw [vd y r z]
theorem ve:∀ l:List Pl,(prs l).length=l.length - 1
 | []=>rfl
 | [_]=>rfl
 | x :: y :: r=>by
   show (prs (y :: r)).length+1=_
   rw [ve (y :: r)]
   simp
theorem qO:∀ (l:List Pl) (w:List Pl),w∈prs l→∃ a b,w= [a,b]∧Nx l a b
 | [],_,h=>by cases h
 | [_],_,h=>by cases h
 | x :: y :: r,w,h=>by
   rcases List.mem_cons.mp h with h | h
   ·exact ⟨x,y,h,.inl ⟨rfl,rfl⟩⟩
   ·obtain ⟨a,b,e,k⟩:=qO (y :: r) w h
    exact ⟨a,b,e,.inr k⟩
theorem DA:∀ (l:List Pl) (a b:Pl),Nx l a b→[a,b]∈prs l
 | [],_,_,h=>h.elim
 | [_],_,_,h=>h.elim
 | x :: y :: r,a,b,h=>by
   rcases h with ⟨rfl,rfl⟩ | h
   ·exact List.mem_cons_self ..
   ·exact List.mem_cons_of_mem _ (DA (y :: r) a b h)
theorem Bt {T H:List Pl} {lo hi:Pl} (t1:T.head?=some lo) (t2:T.getLast?=some hi) (h1:H.head?=some hi) (h2:H.getLast?=some lo) (hne:lo≠hi) :
 List.zipWith (fun p q=>[p,q]) (T.dropLast ++ H.dropLast) ((T.dropLast ++ H.dropLast).drop 1 ++ (T.dropLast ++ H.dropLast).take 1)=prs T ++ prs H:=by
 have eT:=gi t2
 have eH:=gi h2
 obtain ⟨X,hX⟩:∃ X,T.dropLast=lo :: X:=by
  cases e:T.dropLast with
  | nil=>
    rw [e] at eT
    rw [eT] at t1
    exact absurd (Option.some.inj t1).symm hne
  | cons x X=>
    rw [e] at eT
    rw [eT] at t1
    exact ⟨X,by rw [Option.some.inj t1]⟩
 obtain ⟨Y,hY⟩:∃ Y,H=hi :: Y:=by
  cases e:H with
  | nil=>rw [e] at h1;cases h1
  | cons x X=>rw [e] at h1;exact ⟨X,by rw [Option.some.inj h1]⟩
 rw [hX]
 show List.zipWith (fun p q=>[p,q]) (lo :: (X ++ H.dropLast)) ((X ++ H.dropLast) ++ [lo])=_
 rw [vd]
 have e1:lo :: (X ++ H.dropLast) ++ [lo]=(lo :: X) ++ (H.dropLast ++ [lo]):=by simp
 rw [e1,← eH]
 conv=>lhs;rw [hY,vc,← hY]
 rw [← hX,← eT]
theorem Hf {z:Pl}:∀ {l:List Pl},l.getLast?=some z→2≤l.length→∃ e,Nx l e z
 | [],_,h=>by simp at h
 | [_],_,h=>by simp at h
 | [x,y],e,_=>⟨x,.inl ⟨rfl,by simpa using e⟩⟩
 | x :: y :: u :: r,e,_=>by
   obtain ⟨e',k⟩:=Hf (l:=y :: u :: r) (by simpa using e) (by simp)
   exact ⟨e',.inr k⟩
theorem qP {w:Way} {S:List Pl}:∀ {st:List Pl},lM w S st→st.Pairwise (fun b a=>w.f a < w.f b)
 | [],_=> .nil
 | [_],_=>by simp
 | y :: x :: r,e=>by
   obtain ⟨e1,_,e3⟩:=e
   have ih:=qP e3
   refine List.pairwise_cons.mpr ⟨fun z hz=>?_,ih⟩
   rcases List.mem_cons.mp hz with rfl | hz
   ·exact e1
   ·have:=(List.pairwise_cons.mp ih).1 z hz
    omega
theorem Ch.nodup {w:Way} {S st:List Pl} (C:Ch w S st):st.Nodup:=(qP C.FH).imp fun h e=>by rw [e] at h;omega
theorem om {l m:List Pl} (nd:l.Nodup) (sub:∀ x∈l,x∈m):l.length≤m.length:=by
 induction l generalizing m with
 | nil=>simp
 | cons a l ih=>
   obtain ⟨h1,h2⟩:=List.nodup_cons.mp nd
   have ma:=sub a (List.mem_cons_self ..)
   have:=ih (m:=m.erase a) h2 fun x hx=>(List.mem_erase_of_ne (show x≠a from fun e=>h1 (e▸hx))).mpr (sub x (List.mem_cons_of_mem _ hx))
   rw [List.length_erase_of_mem ma] at this
   have:0 < m.length:=List.length_pos_of_mem ma
   rw [List.length_cons]
   omega
theorem yV {w:Way} {x b e p:Pl} (h1:w.f x < w.f b) (h2:w.f x < w.f e) (h3:w.f x < w.f p) (h:0≤tw x b e) (s1:tw x b p < 0) (s2:tw e x p < 0):False:=by
 have key:=gI w.al w.be (b.x - x.x) (b.y - x.y) (e.x - x.x) (e.y - x.y) (p.x - x.x) (p.y - x.y)
 have s2':0 < (e.x - x.x)*(p.y - x.y) - (e.y - x.y)*(p.x - x.x):=by
  unfold tw at s2
  grind
 unfold Way.f at h1 h2 h3
 unfold tw at h s1
 have k1:0 < w.al*(b.x - x.x)+w.be*(b.y - x.y):=by grind
 have k2:0 < w.al*(e.x - x.x)+w.be*(e.y - x.y):=by grind
 have k3:0 < w.al*(p.x - x.x)+w.be*(p.y - x.y):=by grind
 have r1:=Int.mul_pos k1 s2'
 have r2:0≤(w.al*(p.x - x.x)+w.be*(p.y - x.y))*((b.x - x.x)*(e.y - x.y) - (b.y - x.y)*(e.x - x.x)):=Int.mul_nonneg (by omega) h
 have r3:(w.al*(e.x - x.x)+w.be*(e.y - x.y))*((b.x - x.x)*(p.y - x.y) - (b.y - x.y)*(p.x - x.x)) < 0:=Int.mul_neg_of_pos_of_neg k2 s1
 omega
def yv (p:Pl):List Pl→Bool
 | [a,b]=>decide (tw a b p < 0)
 | _=>false
end L3
namespace L3
def mw (bd:List Pl) (k:Nat):Option Pl:=if k=0 then bd.getLast? else bd[k - 1]?
theorem vf {bd:List Pl} {k:Nat} {a b:Pl} (hb:bd[k]?=some b) (ha:mw bd k=some a): [a,b]∈List.zipWith (fun p q=>[p,q]) bd (bd.drop 1 ++ bd.take 1):=by
 have lk:k < bd.length:=(List.getElem?_eq_some_iff.mp hb).1
 unfold mw at ha
 rw [List.mem_iff_getElem?]
 by_cases c:k=0
 ·subst c
  rw [if_pos rfl,List.getLast?_eq_getElem?] at ha
  refine ⟨bd.length - 1,?_⟩
  have e2:(bd.drop 1 ++ bd.take 1)[bd.length - 1]?=some b:=by
   rw [List.getElem?_append_right (by rw [List.length_drop];omega),List.length_drop,Nat.sub_self,List.getElem?_take_of_lt (by omega)]
   exact hb
  rw [List.getElem?_zipWith,ha,e2]
 ·rw [if_neg c] at ha
  refine ⟨k - 1,?_⟩
  have e2:(bd.drop 1 ++ bd.take 1)[k - 1]?=some b:=by
   rw [List.getElem?_append_left (by rw [List.length_drop];omega),List.getElem?_drop,show 1+(k - 1)=k by omega]
   exact hb
  rw [List.getElem?_zipWith,ha,e2]
theorem nv:∀ {as bs:List Pl},as.Perm bs→as.Pairwise (fun a b=> ¬ aZ b a)→bs.Pairwise (fun a b=> ¬ aZ b a)→as=bs
 | [],bs,h,_,_=>by rw [List.nil_perm.mp h]
 | a :: as,[],h,_,_=>by simp at h
 | a :: as,b :: bs,h,h1,h2=>by
   obtain ⟨p1,p2⟩:=List.pairwise_cons.mp h1
   obtain ⟨q1,q2⟩:=List.pairwise_cons.mp h2
   have e:a=b:=by
    rcases gZ a b with k | k | k
    ·rcases List.mem_cons.mp (h.mem_iff.mp (List.mem_cons_self (a:=a) (l:=as))) with z | z
     ·exact z
     ·exact absurd k (q1 a z)
    ·exact k
    ·rcases List.mem_cons.mp (h.mem_iff.mpr (List.mem_cons_self (a:=b) (l:=bs))) with z | z
     ·exact z.symm
     ·exact absurd k (p1 b z)
   subst e
   rw [nv (List.Perm.cons_inv h) p2 q2]
end L3
namespace L3
def dj (Q:List Pl):Prop:=Q.Pairwise (fun p q=>aZ p q)∧∀ q∈Q,q.y.natAbs < 2 ^ 140
def aY (Q:List Pl) (a b:Pl):Prop:=a∈Q∧b∈Q∧a≠b∧OD a b Q
def SL (Q:List Pl):List (List Pl):=cy (aR Q)
theorem kC {Q:List Pl} (h:Q.length < 2):SL Q= []:=by
 unfold SL aR
 rw [if_pos h]
 unfold cy
 rw [if_pos h]
theorem qQ {Q:List Pl} (s:dj Q) (h:2≤Q.length):2≤(aR Q).length∧SL Q=List.zipWith (fun p q=>[p,q]) (aR Q) ((aR Q).drop 1 ++ (aR Q).take 1)∧∀ a b,[a,b]∈SL Q↔aY Q a b:=by
 obtain ⟨lb,char⟩:=Bq s.1 s.2 h
 have eo:aR Q=(Q.foldl aP []).reverse.dropLast ++ (Q.reverse.foldl aP []).reverse.dropLast:=by unfold aR;rw [if_neg (by omega)]
 rw [← eo] at lb char
 have e:SL Q=List.zipWith (fun p q=>[p,q]) (aR Q) ((aR Q).drop 1 ++ (aR Q).take 1):=by
  unfold SL cy
  rw [if_neg (by omega)]
 exact ⟨lb,e,fun a b=>by rw [e];exact char a b⟩
theorem ny {Q:List Pl} {a b:Pl} (h:aY Q a b):2≤Q.length:=om (l:=[a,b]) (by simp [h.2.2.1]) (fun x hx=>by
 simp only [List.mem_cons,List.not_mem_nil,or_false] at hx
 rcases hx with rfl | rfl
 ·exact h.1
 ·exact h.2.1)
theorem cN {Q:List Pl} (s:dj Q) {a b:Pl}: [a,b]∈SL Q↔aY Q a b:=by
 by_cases h:2≤Q.length
 ·exact (qQ s h).2.2 a b
 ·rw [kC (by omega)]
  exact ⟨(fun z=>by cases z),fun z=>absurd (ny z) h⟩
theorem mC {Q w:List Pl} (h:w∈SL Q):∃ a b,w= [a,b]:=by
 unfold SL cy at h
 split at h
 ·cases h
 ·exact ud _ _ _ h
theorem FL {Q:List Pl} (s:dj Q) {a b:Pl} (h:aY Q a b):∃ c,aY Q c a:=by
 obtain ⟨lb,e,char⟩:=qQ s (ny h)
 have m:=(char a b).mpr h
 rw [e] at m
 obtain ⟨i,hi⟩:=List.mem_iff_getElem?.mp m
 rw [List.getElem?_zipWith] at hi
 have ha:(aR Q)[i]?=some a:=by
  cases e1:(aR Q)[i]? with
  | none=>rw [e1] at hi;simp at hi
  | some u=>
    rw [e1] at hi
    cases e2:((aR Q).drop 1 ++ (aR Q).take 1)[i]? with
    | none=>rw [e2] at hi;simp at hi
    | some v=>rw [e2] at hi;simp at hi;rw [hi.1]
 have li:=(List.getElem?_eq_some_iff.mp ha).1
 obtain ⟨c,hc⟩:∃ c,mw (aR Q) i=some c:=by
  unfold mw
  split
  ·exact ⟨_,List.getLast?_eq_some_getLast (fun z=>by rw [z] at lb;simp at lb)⟩
  ·exact ⟨_,List.getElem?_eq_getElem (by omega)⟩
 have:=vf ha hc
 rw [← e] at this
 exact ⟨c,(char c a).mp this⟩
theorem qR {Q:List Pl} (s:dj Q) {a b:Pl} (h:aY Q a b):∃ c,aY Q b c:=by
 obtain ⟨lb,e,char⟩:=qQ s (ny h)
 have m:=(char a b).mpr h
 rw [e] at m
 have hb:b∈aR Q:=by
  obtain ⟨i,hi⟩:=List.mem_iff_getElem?.mp m
  rw [List.getElem?_zipWith] at hi
  cases e1:(aR Q)[i]? with
  | none=>rw [e1] at hi;simp at hi
  | some u=>
    rw [e1] at hi
    cases e2:((aR Q).drop 1 ++ (aR Q).take 1)[i]? with
    | none=>rw [e2] at hi;simp at hi
    | some v=>
      rw [e2] at hi
      simp at hi
      have mv:=List.mem_of_getElem? e2
      rw [hi.2] at mv
      rcases List.mem_append.mp mv with z | z
      ·exact List.mem_of_mem_drop z
      ·exact List.mem_of_mem_take z
 obtain ⟨j,hj⟩:=List.mem_iff_getElem?.mp hb
 have lj:=(List.getElem?_eq_some_iff.mp hj).1
 by_cases c:j+1 < (aR Q).length
 ·have:=vf (k:=j+1) (List.getElem?_eq_getElem c) (show mw (aR Q) (j+1)=some b by unfold mw;rw [if_neg (by omega)];exact hj)
  rw [← e] at this
  exact ⟨_,(char _ _).mp this⟩
 ·have:=vf (bd:=aR Q) (k:=0) (a:=b) (List.getElem?_eq_getElem (by omega)) (by unfold mw;rw [if_pos rfl,List.getLast?_eq_getElem?,show (aR Q).length - 1=j by omega];exact hj)
  rw [← e] at this
  exact ⟨_,(char _ _).mp this⟩
theorem oz:∀ {l:List Pl},l.Nodup→(prs l).Nodup
 | [],_=> .nil
 | [_],_=> .nil
 | x :: y :: r,h=>by
   obtain ⟨h1,h2⟩:=List.nodup_cons.mp h
   refine List.nodup_cons.mpr ⟨fun z=>?_,oz h2⟩
   obtain ⟨a,b,e,k⟩:=qO _ _ z
   have:x=a:=by injection e
   rw [this] at h1
   have key:∀ (l:List Pl) (a b:Pl),Nx l a b→a∈l:=fun l=>by
    induction l with
    | nil=>intro a b k;exact k.elim
    | cons u l ih=>
      intro a b k
      cases l with
      | nil=>exact k.elim
      | cons v l=>
        rcases k with ⟨rfl,_⟩ | k
        ·simp
        ·exact List.mem_cons_of_mem _ (ih a b k)
   exact h1 (key _ _ _ k)
theorem oA {Q:List Pl} (s:dj Q) (h2:2≤Q.length):(SL Q).Nodup∧∀ y,Q.getLast?=some y→∃ e,aY Q e y:=by
 obtain ⟨hs,hok⟩:=s
 have hne:Q≠[]:=fun z=>by rw [z] at h2;simp at h2
 obtain ⟨x,hx⟩:∃ x,Q.head?=some x:=by
  cases e:Q with
  | nil=>exact absurd e hne
  | cons x r=>exact ⟨x,rfl⟩
 obtain ⟨y,hy⟩:∃ y,Q.getLast?=some y:=⟨_,List.getLast?_eq_some_getLast hne⟩
 have mx:x∈Q:=List.mem_of_mem_head? hx
 have my:y∈Q:=List.mem_of_getLast? hy
 have hend:=ie hs hx hy
 have be:∀ p∈Q,∀ q∈Q,(aZ p q↔ay.f p < ay.f q):=fun p hp q hq=>ni (hok p hp) (hok q hq)
 have bw:∀ p∈Q,∀ q∈Q,(aZ p q↔pK.f q < pK.f p):=fun p hp q hq=>by
  rw [be p hp q hq,gv,gv]
  omega
 have xy:x≠y:=by
  intro e
  cases e1:Q with
  | nil=>exact absurd e1 hne
  | cons u r=>
    cases r with
    | nil=>rw [e1] at h2;simp at h2
    | cons v r=>
      rw [e1] at hx hy hs
      have eu:u=x:=by simpa using hx
      have OE:y∈v :: r:=List.mem_of_getLast? (by simpa using hy)
      have:=(List.pairwise_cons.mp hs).1 y OE
      rw [eu,e] at this
      exact bY _ this
 have C1:Ch ay Q (Q.foldl aP []):=nh hne (hs.imp_of_mem fun hp hq h=>(be _ hp _ hq).mp h)
 have C2:Ch pK Q.reverse (Q.reverse.foldl aP []):=nh (by simpa using hne) (List.pairwise_reverse.mpr (hs.imp_of_mem fun hp hq h=>(bw _ hp _ hq).mp h))
 have key:∀ p∈Q,∀ q∈Q,(p=q∨aZ p q)→ay.f p≤ay.f q∧pK.f q≤pK.f p:=fun p hp q hq k=>by
  rcases k with rfl | k
  ·exact ⟨Int.le_refl _,Int.le_refl _⟩
  ·have a1:=(be p hp q hq).mp k
   have a2:=(bw p hp q hq).mp k
   omega
 obtain ⟨p1,p2⟩:=C1.ends mx my (fun q hq=>(key x mx q hq ((hend q hq).1.imp Eq.symm id)).1) (fun q hq=>(key q hq y my (hend q hq).2).1)
 obtain ⟨r1,r2⟩:=C2.ends (lo:=y) (hi:=x) (by simpa using my) (by simpa using mx) (fun q hq=>by have hq:=List.mem_reverse.mp hq;exact (key q hq y my (hend q hq).2).2) (fun q hq=>by have hq:=List.mem_reverse.mp hq;exact (key x mx q hq ((hend q hq).1.imp Eq.symm id)).2)
 have e0:=Bt (lo:=x) (hi:=y) (T:=(Q.foldl aP []).reverse) (H:=(Q.reverse.foldl aP []).reverse) (by rw [List.head?_reverse];exact p2) (by rw [List.getLast?_reverse];exact p1) (by rw [List.head?_reverse];exact r2) (by rw [List.getLast?_reverse];exact r1) xy
 obtain ⟨lb,e,char⟩:=qQ ⟨hs,hok⟩ h2
 have eo:aR Q=(Q.foldl aP []).reverse.dropLast ++ (Q.reverse.foldl aP []).reverse.dropLast:=by unfold aR;rw [if_neg (by omega)]
 have es:SL Q=prs (Q.foldl aP []).reverse ++ prs (Q.reverse.foldl aP []).reverse:=by
  rw [e,eo]
  exact e0
 have RC:∀ a b,Nx (Q.foldl aP []).reverse a b→ay.f a < ay.f b:=fun a b k=>((jB C1).mp ((nk _ a b).mpr k)).2.2.1
 have RD:∀ a b,Nx (Q.reverse.foldl aP []).reverse a b→ay.f b < ay.f a:=fun a b k=>by
  have h3:=((jB C2).mp ((nk _ a b).mpr k)).2.2.1
  rw [gv,gv] at h3
  omega
 have n1:=C1.nodup
 have n2:=C2.nodup
 constructor
 ·rw [es]
  refine List.nodup_append.mpr ⟨oz ((List.reverse_perm _).nodup_iff.mpr n1),oz ((List.reverse_perm _).nodup_iff.mpr n2),fun v hv u hu z=>?_⟩
  subst z
  obtain ⟨a,b,rfl,k1⟩:=qO _ _ hv
  obtain ⟨c,d,e2,k2⟩:=qO _ _ hu
  injection e2 with e3 e2
  injection e2 with e4 _
  rw [← e3,← e4] at k2
  have:=RC a b k1
  have:=RD a b k2
  omega
 ·intro y' hy'
  rw [hy] at hy'
  cases hy'
  obtain ⟨e1,k⟩:=Hf (l:=(Q.foldl aP []).reverse) (z:=y) (by rw [List.getLast?_reverse];exact p1) (by rw [List.length_reverse];exact qN p1 p2 (Ne.symm xy))
  exact ⟨e1,(char e1 y).mp (by rw [es];exact List.mem_append_left _ (DA _ _ _ k))⟩
theorem kE {Q:List Pl} (s:dj Q):(SL Q).Nodup:=by
 by_cases h:2≤Q.length
 ·exact (oA s h).1
 ·rw [kC (by omega)]
  exact .nil
theorem qS (w:Way) (u v p o:Pl):(w.f v - w.f o)*tw o u p=(w.f u - w.f o)*tw o v p+(w.f p - w.f o)*tw o u v:=by
 unfold Way.f tw
 grind
theorem yW (a b c:Pl):tw b c a=tw a b c:=by unfold tw;grind
theorem FN (a b c:Pl):tw c a b=tw a b c:=by unfold tw;grind
theorem eV (a b c:Pl):tw b a c= - tw a b c:=by unfold tw;grind
theorem ug (a b c:Pl):tw a c b= - tw a b c:=by unfold tw;grind
section
variable {Q:List Pl} {p:Pl}
def Jb (Q:List Pl) (p:Pl):Prop:=(∀ q∈Q,aZ q p)∧p.y.natAbs < 2 ^ 140
theorem dj.f (s:dj Q) {a b:Pl} (ha:a∈Q) (hb:b∈Q):aZ a b↔ay.f a < ay.f b:=ni (s.2 a ha) (s.2 b hb)
theorem dj.inj (s:dj Q) {a b:Pl} (ha:a∈Q) (hb:b∈Q) (e:ay.f a=ay.f b):a=b:=by
 rcases gZ a b with k | k | k
 ·have:=(s.f ha hb).mp k;omega
 ·exact k
 ·have:=(s.f hb ha).mp k;omega
theorem Jb.f (s:dj Q) (h:Jb Q p) {a:Pl} (ha:a∈Q):ay.f a < ay.f p:=(ni (s.2 a ha) h.2).mp (h.1 a ha)
theorem c8 (s:dj Q) {a b q:Pl} (h:aY Q a b) (hq:q∈Q) (z:tw a b q=0):¬ ((ay.f a < ay.f q∧ay.f q < ay.f b)∨(ay.f b < ay.f q∧ay.f q < ay.f a)):=by
 obtain ⟨ha,hb,ne,r⟩:=h
 have r2:=(r q hq).2 z
 unfold lo hi at r2
 rintro (⟨k1,k2⟩ | ⟨k1,k2⟩)
 ·have ab:aZ a b:=(s.f ha hb).mpr (by omega)
  rw [if_neg (bH ab),if_pos ab] at r2
  exact r2 ⟨(s.f ha hq).mpr k1,(s.f hq hb).mpr k2⟩
 ·have ba:aZ b a:=(s.f hb ha).mpr (by omega)
  rw [if_pos ba,if_neg (bH ba)] at r2
  exact r2 ⟨(s.f hb hq).mpr k1,(s.f hq ha).mpr k2⟩
theorem vg (s:dj Q) {a b:Pl} (ha:a∈Q) (hb:b∈Q) (h:∀ q∈Q,0≤tw a b q∧(tw a b q=0→¬ ((ay.f a < ay.f q∧ay.f q < ay.f b)∨(ay.f b < ay.f q∧ay.f q < ay.f a)))):OD a b Q:=fun q hq=>⟨(h q hq).1,fun z k=>(h q hq).2 z (by
 unfold lo hi at k
 by_cases c:aZ b a
 ·rw [if_pos c,if_neg (bH c)] at k
  exact .inr ⟨(s.f hb hq).mp k.1,(s.f hq ha).mp k.2⟩
 ·rw [if_neg c] at k
  by_cases d:aZ a b
  ·rw [if_pos d] at k
   exact .inl ⟨(s.f ha hq).mp k.1,(s.f hq hb).mp k.2⟩
  ·rw [if_neg d] at k
   have:=(s.f ha hq).mp k.1
   have:=(s.f hq ha).mp k.2
   omega)⟩
theorem wj (s:dj Q) {a b:Pl} (ha:a∈Q) (hb:b∈Q) (ne:a≠b):ay.f a≠ay.f b:=fun z=>ne (s.inj ha hb z)
theorem uh (s:dj Q) {a b c:Pl} (h1:aY Q a b) (h2:aY Q a c) (s1:tw a b p < 0) (s2:tw a c p < 0):b=c:=by
 have z1:=(h1.2.2.2 c h2.2.1).1
 have z2:=(h2.2.2.2 b h1.2.1).1
 have z3:=ug a b c
 have z:tw a b c=0:=by omega
 have z':tw a c b=0:=by omega
 apply Classical.byContradiction
 intro ne
 have f1:=wj s h1.1 h1.2.1 h1.2.2.1
 have f2:=wj s h2.1 h2.2.1 h2.2.2.1
 have f3:=wj s h1.2.1 h2.2.1 ne
 have b1:=c8 s h1 h2.2.1 z
 have b2:=c8 s h2 h1.2.1 z'
 have key:=qS ay b c p a
 rw [z,Int.mul_zero,Int.add_zero] at key
 rcases Int.lt_or_lt_of_ne f1 with k | k
 ·rcases Int.lt_or_lt_of_ne f2 with l | l
  ·omega
  ·have e1:0 < (ay.f c - ay.f a)*tw a b p:=Int.mul_pos_of_neg_of_neg (by omega) s1
   have e2:(ay.f b - ay.f a)*tw a c p < 0:=Int.mul_neg_of_pos_of_neg (by omega) s2
   omega
 ·rcases Int.lt_or_lt_of_ne f2 with l | l
  ·have e1:(ay.f c - ay.f a)*tw a b p < 0:=Int.mul_neg_of_pos_of_neg (by omega) s1
   have e2:0 < (ay.f b - ay.f a)*tw a c p:=Int.mul_pos_of_neg_of_neg (by omega) s2
   omega
  ·omega
theorem xr (s:dj Q) {a b c:Pl} (h1:aY Q b a) (h2:aY Q c a) (s1:tw b a p < 0) (s2:tw c a p < 0):b=c:=by
 have z1:=(h1.2.2.2 c h2.1).1
 have z2:=(h2.2.2.2 b h1.1).1
 have z3:tw c a b= - tw b a c:=by unfold tw;grind
 have z:tw b a c=0:=by omega
 have z':tw c a b=0:=by omega
 apply Classical.byContradiction
 intro ne
 have f1:=wj s h1.1 h1.2.1 h1.2.2.1
 have f2:=wj s h2.1 h2.2.1 h2.2.2.1
 have f3:=wj s h1.1 h2.1 ne
 have b1:=c8 s h1 h2.1 z
 have b2:=c8 s h2 h1.1 z'
 have key:=qS ay b c p a
 have y1:tw a b p= - tw b a p:=eV b a p
 have y2:tw a c p= - tw c a p:=eV c a p
 have y3:tw a b c=0:=by have:=eV b a c;omega
 rw [y3,Int.mul_zero,Int.add_zero] at key
 have s1:0 < tw a b p:=by omega
 have s2:0 < tw a c p:=by omega
 rcases Int.lt_or_lt_of_ne f1 with k | k
 ·rcases Int.lt_or_lt_of_ne f2 with l | l
  ·omega
  ·have e1:0 < (ay.f c - ay.f a)*tw a b p:=Int.mul_pos (by omega) s1
   have e2:(ay.f b - ay.f a)*tw a c p < 0:=Int.mul_neg_of_neg_of_pos (by omega) s2
   omega
 ·rcases Int.lt_or_lt_of_ne f2 with l | l
  ·have e1:(ay.f c - ay.f a)*tw a b p < 0:=Int.mul_neg_of_neg_of_pos (by omega) s1
   have e2:0 < (ay.f b - ay.f a)*tw a c p:=Int.mul_pos (by omega) s2
   omega
  ·omega
theorem LG (c a b p q:Pl):tw c a p*tw a b q - tw a b p*tw c a q=tw c a b*tw a p q:=by unfold tw;grind
theorem LH (a b c p q:Pl):tw a b q*tw b c p - tw a b p*tw b c q=tw a b c*tw p b q:=by unfold tw;grind
theorem k8 {a b:Pl} (ne:a≠b) (h:∀ q∈Q,tw a b q=0):Flat Q:=fun u hu v hv w hw=>xm ne (h u hu) (h v hv) (h w hw)
theorem Bu (nf:¬ Flat Q) {a b c:Pl} (h1:aY Q a b) (h2:aY Q c a) (s1:tw a b p < 0) (s2:0≤tw c a p):∀ q∈Q,0≤tw a p q:=fun q hq=>by
 have z1:=(h1.2.2.2 q hq).1
 have z2:=(h2.2.2.2 q hq).1
 have z3:=(h2.2.2.2 b h1.2.1).1
 have key:=LG c a b p q
 have e1:0≤tw c a p*tw a b q:=Int.mul_nonneg s2 z1
 have e2:tw a b p*tw c a q≤0:=Int.mul_nonpos_of_nonpos_of_nonneg (by omega) z2
 rcases Int.lt_or_eq_of_le z3 with k | k
 ·exact uZ k (by omega)
 ·exfalso
  refine nf (k8 h2.2.2.1 fun r hr=>?_)
  have key:=LG c a b p r
  rw [← k,Int.zero_mul] at key
  have y1:=(h1.2.2.2 r hr).1
  have y2:=(h2.2.2.2 r hr).1
  have e1:0≤tw c a p*tw a b r:=Int.mul_nonneg s2 y1
  have e2:tw a b p*tw c a r≤0:=Int.mul_nonpos_of_nonpos_of_nonneg (by omega) y2
  have e3:tw a b p*tw c a r=0:=by omega
  rcases Int.mul_eq_zero.mp e3 with z | z
  ·omega
  ·exact z
theorem FO (nf:¬ Flat Q) {a b c:Pl} (h1:aY Q a b) (h2:aY Q b c) (s1:tw a b p < 0) (s2:0≤tw b c p):∀ q∈Q,0≤tw p b q:=fun q hq=>by
 have z1:=(h1.2.2.2 q hq).1
 have z2:=(h2.2.2.2 q hq).1
 have z3:=(h1.2.2.2 c h2.2.1).1
 have key:=LH a b c p q
 have e1:0≤tw a b q*tw b c p:=Int.mul_nonneg z1 s2
 have e2:tw a b p*tw b c q≤0:=Int.mul_nonpos_of_nonpos_of_nonneg (by omega) z2
 rcases Int.lt_or_eq_of_le z3 with k | k
 ·exact uZ k (by omega)
 ·exfalso
  refine nf (k8 h2.2.2.1 fun r hr=>?_)
  have key:=LH a b c p r
  rw [← k,Int.zero_mul] at key
  have y1:=(h1.2.2.2 r hr).1
  have y2:=(h2.2.2.2 r hr).1
  have e1:0≤tw a b r*tw b c p:=Int.mul_nonneg y1 s2
  have e2:tw a b p*tw b c r≤0:=Int.mul_nonpos_of_nonpos_of_nonneg (by omega) y2
  have e3:tw a b p*tw b c r=0:=by omega
  rcases Int.mul_eq_zero.mp e3 with z | z
  ·omega
  ·exact z
theorem k9 (s:dj Q) (fl:Flat Q) {a b:Pl} (ha:a∈Q) (hb:b∈Q) (ne:a≠b) (h:∀ q∈Q,¬ ((ay.f a < ay.f q∧ay.f q < ay.f b)∨(ay.f b < ay.f q∧ay.f q < ay.f a))):aY Q a b:=
 ⟨ha,hb,ne,vg s ha hb fun q hq=>⟨by rw [fl a ha b hb q hq];omega,fun _=>h q hq⟩⟩
theorem vh (s:dj Q) {a q:Pl} (ha:a∈Q) (hq:q∈Q) (ne:q≠a):∃ c∈Q,c≠a∧(ay.f c < ay.f a↔ay.f q < ay.f a)∧∀ z∈Q,¬ ((ay.f a < ay.f z∧ay.f z < ay.f c)∨(ay.f c < ay.f z∧ay.f z < ay.f a)):=by
 have fq:=wj s hq ha ne
 rcases Int.lt_or_lt_of_ne fq with k | k
 ·obtain ⟨c,hc,mx⟩:=Aq (Q.filter fun z=>decide (aZ z a)) (List.ne_nil_of_mem (List.mem_filter.mpr ⟨hq,decide_eq_true ((s.f hq ha).mpr k)⟩))
  obtain ⟨hc,ca⟩:=List.mem_filter.mp hc
  have ca:=(s.f hc ha).mp (of_decide_eq_true ca)
  refine ⟨c,hc,fun z=>by rw [z] at ca;omega,⟨fun _=>k,fun _=>ca⟩,fun z hz=>?_⟩
  rintro (⟨k1,k2⟩ | ⟨k1,k2⟩)
  ·omega
  ·exact mx z (List.mem_filter.mpr ⟨hz,decide_eq_true ((s.f hz ha).mpr k2)⟩) ((s.f hc hz).mpr k1)
 ·obtain ⟨c,hc,mn⟩:=u9 (Q.filter fun z=>decide (aZ a z)) (List.ne_nil_of_mem (List.mem_filter.mpr ⟨hq,decide_eq_true ((s.f ha hq).mpr k)⟩))
  obtain ⟨hc,ca⟩:=List.mem_filter.mp hc
  have ca:=(s.f ha hc).mp (of_decide_eq_true ca)
  refine ⟨c,hc,fun z=>by rw [z] at ca;omega,⟨fun _=>by omega,fun _=>by omega⟩,fun z hz=>?_⟩
  rintro (⟨k1,k2⟩ | ⟨k1,k2⟩)
  ·exact mn z (List.mem_filter.mpr ⟨hz,decide_eq_true ((s.f ha hz).mpr k1)⟩) ((s.f hz hc).mpr k2)
  ·omega
theorem P4 {x y A B:Int} (h:x*A=y*B) (hA:A < 0) (hB:0 < B):(0 < x→y < 0)∧(x < 0→0 < y)∧(x=0→y=0):=by
 refine ⟨fun k=>?_,fun k=>?_,fun k=>?_⟩
 ·have:=Int.mul_neg_of_pos_of_neg k hA
  apply Classical.byContradiction
  intro z
  have:=Int.mul_nonneg (a:=y) (b:=B) (by omega) (by omega)
  omega
 ·have:=Int.mul_pos_of_neg_of_neg k hA
  apply Classical.byContradiction
  intro z
  have:=Int.mul_nonpos_of_nonpos_of_nonneg (a:=y) (b:=B) (by omega) (by omega)
  omega
 ·rw [k,Int.zero_mul] at h
  rcases Int.mul_eq_zero.mp h.symm with z | z
  ·exact z
  ·omega
theorem OH {x y A B:Int} (h:x*A=y*B) (hA:A < 0) (hxy:(0 < x∧y < 0)∨(x < 0∧0 < y)):0 < B:=by
 apply Classical.byContradiction
 intro z
 rcases hxy with ⟨k,l⟩ | ⟨k,l⟩
 ·have:=Int.mul_neg_of_pos_of_neg k hA
  have:=Int.mul_nonneg_of_nonpos_of_nonpos (a:=y) (b:=B) (by omega) (by omega)
  omega
 ·have:=Int.mul_pos_of_neg_of_neg k hA
  have:=Int.mul_nonpos_of_nonneg_of_nonpos (a:=y) (b:=B) (by omega) (by omega)
  omega
theorem yX (s:dj Q) (fl:Flat Q) {a b:Pl} (h1:aY Q a b) (s1:tw a b p < 0) (no:∀ c,aY Q c a→0≤tw c a p):∀ q∈Q,0≤tw a p q:=fun q hq=>by
 apply Classical.byContradiction
 intro k
 have z0:=fl a h1.1 b h1.2.1 q hq
 have key:=qS ay b q p a
 rw [z0,Int.mul_zero,Int.add_zero] at key
 have e1:tw a q p= - tw a p q:=ug a p q
 have o1:=P4 key s1 (by omega)
 have nq:q≠a:=fun z=>by rw [z] at k;have:=qw a p;omega
 obtain ⟨c,hc,nc,sg,LI⟩:=vh s h1.1 hq nq
 have f1:=wj s h1.2.1 h1.1 (Ne.symm h1.2.2.1)
 have f2:=wj s hq h1.1 nq
 have f3:=wj s hc h1.1 nc
 have sd:aY Q c a:=k9 s fl hc h1.1 nc fun z hz w=>LI z hz (by omega)
 have FP:=qS ay b c p a
 rw [fl a h1.1 b h1.2.1 c hc,Int.mul_zero,Int.add_zero] at FP
 have:=OH FP s1 (by omega)
 have:=no c sd
 have:=eV a c p
 omega
theorem DB (s:dj Q) (fl:Flat Q) {a b:Pl} (h1:aY Q a b) (s1:tw a b p < 0) (no:∀ c,aY Q b c→0≤tw b c p):∀ q∈Q,0≤tw p b q:=fun q hq=>by
 apply Classical.byContradiction
 intro k
 have z0:=fl b h1.2.1 a h1.1 q hq
 have key:=qS ay a q p b
 rw [z0,Int.mul_zero,Int.add_zero] at key
 have e1:tw b q p=tw p b q:=yW p b q
 have e2:=eV a b p
 have key:(ay.f a - ay.f b)*tw b q p=(ay.f q - ay.f b)*tw b a p:=key.symm
 have o1:=P4 key (by omega) (by omega)
 have nq:q≠b:=fun z=>by rw [z] at k;have:=mV p b;have:tw p b b=0:=by unfold tw;grind
                        omega
 obtain ⟨c,hc,nc,sg,LI⟩:=vh s h1.2.1 hq nq
 have f1:=wj s h1.1 h1.2.1 h1.2.2.1
 have f2:=wj s hq h1.2.1 nq
 have f3:=wj s hc h1.2.1 nc
 have sd:aY Q b c:=k9 s fl h1.2.1 hc (Ne.symm nc) fun z hz w=>LI z hz (by omega)
 have FP:=qS ay a c p b
 rw [fl b h1.2.1 a h1.1 c hc,Int.mul_zero,Int.add_zero] at FP
 have nn:=no c sd
 have pos:0 < tw b a p:=by omega
 rcases Int.lt_or_lt_of_ne f3 with l | l
 ·have e3:(ay.f c - ay.f b)*tw b a p < 0:=Int.mul_neg_of_neg_of_pos (by omega) pos
  have e4:0≤(ay.f a - ay.f b)*tw b c p:=Int.mul_nonneg (by omega) nn
  omega
 ·have e3:0 < (ay.f c - ay.f b)*tw b a p:=Int.mul_pos (by omega) pos
  have e4:(ay.f a - ay.f b)*tw b c p≤0:=Int.mul_nonpos_of_nonpos_of_nonneg (by omega) nn
  omega
theorem Bv (s:dj Q) (bh:Jb Q p) {a b q:Pl} (h1:aY Q a b) (s1:tw a b p < 0) (hq:q∈Q) (z:tw a p q=0):¬ ay.f a < ay.f q:=fun k=>by
 have key:=qS ay b q p a
 have e1:tw a q p=0:=by have:=ug a p q;omega
 rw [e1,Int.mul_zero,Int.zero_add] at key
 have:=(h1.2.2.2 q hq).1
 have fp:=bh.f s h1.1
 have e2:(ay.f q - ay.f a)*tw a b p < 0:=Int.mul_neg_of_pos_of_neg (by omega) s1
 have e3:0≤(ay.f p - ay.f a)*tw a b q:=Int.mul_nonneg (by omega) this
 omega
theorem FQ (s:dj Q) (bh:Jb Q p) {a b q:Pl} (h1:aY Q a b) (s1:tw a b p < 0) (hq:q∈Q) (z:tw p b q=0):¬ ay.f b < ay.f q:=fun k=>by
 have key:=qS ay a q p b
 have e1:tw b q p=0:=by have:=yW p b q;omega
 rw [e1,Int.mul_zero,Int.zero_add] at key
 have:=(h1.2.2.2 q hq).1
 have y1:=eV a b p
 have y2:=eV a b q
 have fp:=bh.f s h1.2.1
 have e2:0 < (ay.f q - ay.f b)*tw b a p:=Int.mul_pos (by omega) (by omega)
 have e3:(ay.f p - ay.f b)*tw b a q≤0:=Int.mul_nonpos_of_nonneg_of_nonpos (by omega) (by omega)
 omega
theorem dj.old (s:dj (Q ++ [p])):dj Q:=⟨(List.pairwise_append.mp s.1).1,fun q hq=>s.2 q (List.mem_append_left _ hq)⟩
theorem dj.yY (s:dj (Q ++ [p])):Jb Q p:=⟨fun q hq=>(List.pairwise_append.mp s.1).2.2 q hq p (by simp),s.2 p (by simp)⟩
theorem dj.out (s:dj (Q ++ [p])):p∉Q:=fun h=>bY _ (s.yY.1 p h)
theorem dJ {q:Pl} (h:q∈Q ++ [p]):q∈Q∨q=p:=by
 rcases List.mem_append.mp h with h | h
 ·exact .inl h
 ·exact .inr (List.mem_singleton.mp h)
theorem gJ (s:dj (Q ++ [p])) {a b:Pl} (ha:a∈Q) (hb:b∈Q):aY (Q ++ [p]) a b↔aY Q a b∧0≤tw a b p:=by
 constructor
 ·rintro ⟨_,_,ne,r⟩
  exact ⟨⟨ha,hb,ne,fun q hq=>r q (List.mem_append_left _ hq)⟩,(r p (by simp)).1⟩
 ·rintro ⟨⟨_,_,ne,r⟩,h⟩
  refine ⟨List.mem_append_left _ ha,List.mem_append_left _ hb,ne,vg s (List.mem_append_left _ ha) (List.mem_append_left _ hb) fun q hq=>?_⟩
  rcases dJ hq with hq | rfl
  ·exact ⟨(r q hq).1,fun z=>c8 s.old ⟨ha,hb,ne,r⟩ hq z⟩
  ·refine ⟨h,fun _ k=>?_⟩
   have:=s.yY.f s.old ha
   have:=s.yY.f s.old hb
   omega
theorem qT (s:dj (Q ++ [p])) {a b:Pl} (h1:aY Q a b) (s1:tw a b p < 0) (no:∀ c,aY Q c a→0≤tw c a p):aY (Q ++ [p]) a p:=by
 have all:∀ q∈Q,0≤tw a p q:=by
  by_cases fl:Flat Q
  ·exact yX s.old fl h1 s1 no
  ·obtain ⟨c,hc⟩:=FL s.old h1
   exact Bu fl h1 hc s1 (no c hc)
 have ma:a∈Q ++ [p]:=List.mem_append_left _ h1.1
 have mp:p∈Q ++ [p]:=by simp
 refine ⟨ma,mp,fun z=>s.out (z▸h1.1),vg s ma mp fun q hq=>?_⟩
 have fa:=s.yY.f s.old h1.1
 rcases dJ hq with hq | rfl
 ·refine ⟨all q hq,fun z k=>?_⟩
  have:=Bv s.old s.yY h1 s1 hq z
  have:=s.yY.f s.old hq
  omega
 ·refine ⟨by have:tw a q q=0:=by unfold tw;grind
             omega,fun _ k=>by omega⟩
theorem xu (s:dj (Q ++ [p])) {a b:Pl} (h1:aY Q a b) (s1:tw a b p < 0) (no:∀ c,aY Q b c→0≤tw b c p):aY (Q ++ [p]) p b:=by
 have all:∀ q∈Q,0≤tw p b q:=by
  by_cases fl:Flat Q
  ·exact DB s.old fl h1 s1 no
  ·obtain ⟨c,hc⟩:=qR s.old h1
   exact FO fl h1 hc s1 (no c hc)
 have mb:b∈Q ++ [p]:=List.mem_append_left _ h1.2.1
 have mp:p∈Q ++ [p]:=by simp
 refine ⟨mp,mb,fun z=>s.out (z▸h1.2.1),vg s mp mb fun q hq=>?_⟩
 have fb:=s.yY.f s.old h1.2.1
 rcases dJ hq with hq | rfl
 ·refine ⟨all q hq,fun z k=>?_⟩
  have:=FQ s.old s.yY h1 s1 hq z
  have:=s.yY.f s.old hq
  omega
 ·refine ⟨by have:tw q b q=0:=by unfold tw;grind
             omega,fun _ k=>by omega⟩
theorem DC (s:dj (Q ++ [p])) {u v:Pl} (h1:aY (Q ++ [p]) u p) (h2:aY (Q ++ [p]) v p):u=v:=by
 apply Classical.byContradiction
 intro ne
 have z1:=(h1.2.2.2 v h2.1).1
 have z2:=(h2.2.2.2 u h1.1).1
 have z3:tw v p u= - tw u p v:=by unfold tw;grind
 have f:=wj s h1.1 h2.1 ne
 have hu:=(dJ h1.1).resolve_right h1.2.2.1
 have hv:=(dJ h2.1).resolve_right h2.2.2.1
 have fu:=s.yY.f s.old hu
 have fv:=s.yY.f s.old hv
 have b1:=c8 s h1 h2.1 (by omega)
 have b2:=c8 s h2 h1.1 (by omega)
 omega
theorem Hg (s:dj (Q ++ [p])) {u v:Pl} (h1:aY (Q ++ [p]) p u) (h2:aY (Q ++ [p]) p v):u=v:=by
 apply Classical.byContradiction
 intro ne
 have z1:=(h1.2.2.2 v h2.2.1).1
 have z2:=(h2.2.2.2 u h1.2.1).1
 have z3:tw p v u= - tw p u v:=ug p u v
 have f:=wj s h1.2.1 h2.2.1 ne
 have hu:=(dJ h1.2.1).resolve_right (Ne.symm h1.2.2.1)
 have hv:=(dJ h2.2.1).resolve_right (Ne.symm h2.2.2.1)
 have fu:=s.yY.f s.old hu
 have fv:=s.yY.f s.old hv
 have b1:=c8 s h1 h2.2.1 (by omega)
 have b2:=c8 s h2 h1.2.1 (by omega)
 omega
theorem xw {Q:List Pl} (h:Q.length≤2):Flat Q:=by
 match Q,h with
 | [],_=>exact fun p hp=>by cases hp
 | [x],_=>exact jC (by simp)
 | [x,y],_=>
   have key:∀ a∈[x,y],a=x∨a=y:=fun a ha=>by simpa using ha
   intro a ha b hb c hc
   rcases key a ha with rfl | rfl <;> rcases key b hb with rfl | rfl <;> rcases key c hc with rfl | rfl <;> (unfold tw;grind)
theorem um (s:dj (Q ++ [p])) (nf:¬ Flat (Q ++ [p])):∃ a b,aY Q a b∧tw a b p < 0:=by
 apply Classical.byContradiction
 intro none
 have un:∀ a b,aY Q a b→0≤tw a b p:=fun a b h=>Classical.byContradiction fun z=>none ⟨a,b,h,by omega⟩
 have l2:2≤Q.length:=Classical.byContradiction fun z=>nf (xw (by rw [List.length_append];simp;omega))
 have hne:Q≠[]:=fun z=>by rw [z] at l2;simp at l2
 have hy:=List.getLast?_eq_some_getLast hne
 obtain ⟨e,he⟩:=(oA s.old l2).2 _ hy
 have last:∀ q∈Q,q=Q.getLast hne∨aZ q (Q.getLast hne):=fun q hq=>(ie s.old.1 (List.head?_eq_some_head hne) hy q hq).2
 generalize Q.getLast hne=y at he last
 obtain ⟨b,hb⟩:=qR s.old he
 have my:y∈Q:=hb.1
 have fe:ay.f e < ay.f y:=(s.old.f he.1 my).mp ((last e he.1).resolve_left he.2.2.1)
 have fb:ay.f b < ay.f y:=(s.old.f hb.2.1 my).mp ((last b hb.2.1).resolve_left (Ne.symm hb.2.2.1))
 have fp:=s.yY.f s.old my
 have u1:=un e y he
 have u2:=un y b hb
 have u3:=(he.2.2.2 b hb.2.1).1
 have g1:∀ q,tw y e q= - tw e y q:=fun q=>eV e y q
 have key:=qS ay e b p y
 have k1:=g1 p
 have k2:=g1 b
 have e1:0≤(ay.f b - ay.f y)*tw y e p:=Int.mul_nonneg_of_nonpos_of_nonpos (by omega) (by omega)
 have e2:(ay.f e - ay.f y)*tw y b p≤0:=Int.mul_nonpos_of_nonpos_of_nonneg (by omega) u2
 have e3:(ay.f p - ay.f y)*tw y e b≤0:=Int.mul_nonpos_of_nonneg_of_nonpos (by omega) (by omega)
 have z1:(ay.f b - ay.f y)*tw y e p=0:=by omega
 have z2:(ay.f p - ay.f y)*tw y e b=0:=by omega
 have y1:tw y e p=0:=(Int.mul_eq_zero.mp z1).resolve_left (by omega)
 have y2:tw y e b=0:=(Int.mul_eq_zero.mp z2).resolve_left (by omega)
 refine nf (k8 (a:=y) (b:=e) (Ne.symm he.2.2.1) fun q hq=>?_)
 rcases dJ hq with hq | rfl
 ·have key:=qS ay e b q y
  rw [y2,Int.mul_zero,Int.add_zero] at key
  have h1:=(he.2.2.2 q hq).1
  have h2:=(hb.2.2.2 q hq).1
  have h3:=g1 q
  have e4:0≤(ay.f b - ay.f y)*tw y e q:=Int.mul_nonneg_of_nonpos_of_nonpos (by omega) (by omega)
  have e5:(ay.f e - ay.f y)*tw y b q≤0:=Int.mul_nonpos_of_nonpos_of_nonneg (by omega) h2
  exact (Int.mul_eq_zero.mp (show (ay.f b - ay.f y)*tw y e q=0 by omega)).resolve_left (by omega)
 ·exact y1
def bZ (Q:List Pl) (p:Pl):List (List Pl):=(SL Q).filter (yv p)
theorem bG (s:dj Q) {a b:Pl}: [a,b]∈bZ Q p↔aY Q a b∧tw a b p < 0:=by
 unfold bZ
 rw [List.mem_filter,cN s]
 exact ⟨fun h=>⟨h.1,of_decide_eq_true h.2⟩,fun h=>⟨h.1,decide_eq_true h.2⟩⟩
theorem cz {w:List Pl} (h:w∈bZ Q p):∃ a b,w= [a,b]:=mC (List.mem_filter.mp h).1
theorem mD (s:dj Q):(bZ Q p).Nodup:=(kE s).filter _
def sL (w:List Pl):Pl:=w.headD ⟨0,0⟩
def vm (w:List Pl):Pl:=w.getLastD ⟨0,0⟩
theorem gA {α β:Type} {f:α→β}:∀ {l:List α},l.Nodup→(∀ x∈l,∀ y∈l,f x=f y→x=y)→(l.map f).Nodup
 | [],_,_=> .nil
 | a :: l,nd,h=>by
   obtain ⟨h1,h2⟩:=List.nodup_cons.mp nd
   rw [List.map_cons]
   refine List.nodup_cons.mpr ⟨fun z=>?_,gA h2 fun x hx y hy=>h x (List.mem_cons_of_mem _ hx) y (List.mem_cons_of_mem _ hy)⟩
   obtain ⟨b,hb,e⟩:=List.mem_map.mp z
   rw [h b (List.mem_cons_of_mem _ hb) a (by simp) e] at hb
   exact h1 hb
theorem vn (s:dj Q):((bZ Q p).map sL).Nodup:=gA (mD s) fun x hx y hy e=>by
 obtain ⟨a,b,rfl⟩:=cz hx
 obtain ⟨c,d,rfl⟩:=cz hy
 have e:a=c:=e
 subst e
 obtain ⟨h1,h2⟩:=(bG s).mp hx
 obtain ⟨h3,h4⟩:=(bG s).mp hy
 rw [uh s h1 h3 h2 h4]
theorem yZ (s:dj Q):((bZ Q p).map vm).Nodup:=gA (mD s) fun x hx y hy e=>by
 obtain ⟨a,b,rfl⟩:=cz hx
 obtain ⟨c,d,rfl⟩:=cz hy
 have e:b=d:=e
 subst e
 obtain ⟨h1,h2⟩:=(bG s).mp hx
 obtain ⟨h3,h4⟩:=(bG s).mp hy
 rw [xr s h1 h3 h2 h4]
theorem xx {A B:List Pl} (na:A.Nodup) (l:A.length=B.length) (h:∀ x∈A,x∈B):∀ x∈B,x∈A:=fun x hx=>by
 apply Classical.byContradiction
 intro n
 have:=om (l:=x :: A) (m:=B) (List.nodup_cons.mpr ⟨n,na⟩) (fun y hy=>by
  rcases List.mem_cons.mp hy with rfl | hy
  ·exact hx
  ·exact h y hy)
 rw [List.length_cons] at this
 omega
theorem As (s:dj Q) (bh:Jb Q p) {a0 b0:Pl} (h0: [a0,b0]∈bZ Q p) (h1:∀ x∈(bZ Q p).map sL,x∈(bZ Q p).map vm) (h2:∀ x∈(bZ Q p).map vm,x∈(bZ Q p).map sL):False:=by
 obtain ⟨m,hm,mn⟩:=u9 ((bZ Q p).map sL) (List.ne_nil_of_mem (List.mem_map.mpr ⟨_,h0,rfl⟩))
 obtain ⟨w,hw,e1⟩:=List.mem_map.mp hm
 obtain ⟨v,hv,e2⟩:=List.mem_map.mp (h1 m hm)
 obtain ⟨a,b,rfl⟩:=cz hw
 obtain ⟨c,d,rfl⟩:=cz hv
 have e1:a=m:=e1
 have e2:d=m:=e2
 subst e1
 subst e2
 obtain ⟨k1,k2⟩:=(bG s).mp hw
 obtain ⟨k3,k4⟩:=(bG s).mp hv
 have fb:ay.f d < ay.f b:=by
  have nb:=mn b (h2 b (List.mem_map.mpr ⟨_,hw,rfl⟩))
  have ne:=wj s k1.1 k1.2.1 k1.2.2.1
  have:¬ ay.f b < ay.f d:=fun z=>nb ((s.f k1.2.1 k1.1).mpr z)
  omega
 have fc:ay.f d < ay.f c:=by
  have nb:=mn c (List.mem_map.mpr ⟨_,hv,rfl⟩)
  have ne:=wj s k3.1 k3.2.1 k3.2.2.1
  have:¬ ay.f c < ay.f d:=fun z=>nb ((s.f k3.1 k3.2.1).mpr z)
  omega
 exact yV fb fc (bh.f s k1.1) (k1.2.2.2 c k3.1).1 k2 k4
theorem DE (s:dj Q) (bh:Jb Q p) {a0 b0:Pl} (h0: [a0,b0]∈bZ Q p):(∃ a b,(aY Q a b∧tw a b p < 0)∧∀ c,aY Q c a→0≤tw c a p)∧∃ a b,(aY Q a b∧tw a b p < 0)∧∀ c,aY Q b c→0≤tw b c p:=by
 have lens:((bZ Q p).map sL).length=((bZ Q p).map vm).length:=by rw [List.length_map,List.length_map]
 constructor
 ·apply Classical.byContradiction
  intro no
  have sub:∀ x∈(bZ Q p).map sL,x∈(bZ Q p).map vm:=fun x hx=>by
   obtain ⟨w,hw,rfl⟩:=List.mem_map.mp hx
   obtain ⟨a,b,rfl⟩:=cz hw
   apply Classical.byContradiction
   intro n
   refine no ⟨a,b,(bG s).mp hw,fun c hc=>Classical.byContradiction fun z=>n ?_⟩
   exact List.mem_map.mpr ⟨[c,a],(bG s).mpr ⟨hc,by omega⟩,rfl⟩
  exact As s bh h0 sub (xx (vn s) lens sub)
 ·apply Classical.byContradiction
  intro no
  have sub:∀ x∈(bZ Q p).map vm,x∈(bZ Q p).map sL:=fun x hx=>by
   obtain ⟨w,hw,rfl⟩:=List.mem_map.mp hx
   obtain ⟨a,b,rfl⟩:=cz hw
   apply Classical.byContradiction
   intro n
   refine no ⟨a,b,(bG s).mp hw,fun c hc=>Classical.byContradiction fun z=>n ?_⟩
   exact List.mem_map.mpr ⟨[b,c],(bG s).mpr ⟨hc,by omega⟩,rfl⟩
  exact As s bh h0 (xx (yZ s) lens.symm sub) sub
def RE (p:Pl) (w:List Pl):List (List Pl):=[[vm w,sL w],[sL w,p],[p,vm w]]
def newD (Q:List Pl) (p:Pl):List (List Pl):=(bZ Q p).flatMap (RE p)
theorem fB (s:dj Q) {w:List Pl}:w∈newD Q p↔∃ a b,(aY Q a b∧tw a b p < 0)∧(w= [b,a]∨w= [a,p]∨w= [p,b]):=by
 unfold newD
 rw [List.mem_flatMap]
 constructor
 ·rintro ⟨v,hv,hw⟩
  obtain ⟨a,b,rfl⟩:=cz hv
  refine ⟨a,b,(bG s).mp hv,?_⟩
  have hw:w∈[[b,a],[a,p],[p,b]]:=hw
  simpa using hw
 ·rintro ⟨a,b,h,hw⟩
  refine ⟨[a,b],(bG s).mpr h,?_⟩
  show w∈[[b,a],[a,p],[p,b]]
  simpa using hw
theorem aQ {a b c d:Pl} (h: [a,b]= [c,d]):a=c∧b=d:=by
 injection h with h1 h
 injection h with h2 _
 exact ⟨h1,h2⟩
theorem Bw (s:dj (Q ++ [p])):(newD Q p).Nodup:=by
 have so:=s.old
 have np:∀ {x y},aY Q x y→x≠p∧y≠p:=fun h=>⟨fun z=>s.out (z▸h.1),fun z=>s.out (z▸h.2.1)⟩
 unfold newD
 refine List.pairwise_flatMap.mpr ⟨fun w hw=>?_,?_⟩
 ·obtain ⟨a,b,rfl⟩:=cz hw
  obtain ⟨h1,_⟩:=(bG so).mp hw
  obtain ⟨n1,n2⟩:=np h1
  show ([[b,a],[a,p],[p,b]]:List (List Pl)).Nodup
  simp only [List.nodup_cons,List.mem_cons,List.not_mem_nil,or_false,not_or,not_false_eq_true,List.nodup_nil,and_true]
  refine ⟨⟨fun z=>n1 (aQ z).2,fun z=>n2 (aQ z).1⟩,fun z=>n1 (aQ z).1⟩
 ·refine (mD so).imp_of_mem fun {w v} hw hv ne x hx y hy e=>?_
  subst e
  obtain ⟨a,b,rfl⟩:=cz hw
  obtain ⟨c,d,rfl⟩:=cz hv
  obtain ⟨h1,h2⟩:=(bG so).mp hw
  obtain ⟨h3,h4⟩:=(bG so).mp hv
  obtain ⟨n1,n2⟩:=np h1
  obtain ⟨n3,n4⟩:=np h3
  have hx:x∈[[b,a],[a,p],[p,b]]:=hx
  have hy:x∈[[d,c],[c,p],[p,d]]:=hy
  simp only [List.mem_cons,List.not_mem_nil,or_false] at hx hy
  rcases hx with rfl | rfl | rfl
  ·rcases hy with e | e | e
   ·obtain ⟨rfl,rfl⟩:=aQ e
    exact ne rfl
   ·exact n1 (aQ e).2
   ·exact n2 (aQ e).1
  ·rcases hy with e | e | e
   ·exact n3 (aQ e).2.symm
   ·have e:=(aQ e).1
    subst e
    rw [uh so h1 h3 h2 h4] at ne
    exact ne rfl
   ·exact n1 (aQ e).1
  ·rcases hy with e | e | e
   ·exact n4 (aQ e).1.symm
   ·exact n3 (aQ e).1.symm
   ·have e:=(aQ e).2
    subst e
    rw [xr so h1 h3 h2 h4] at ne
    exact ne rfl
structure vo (Q:List Pl) (D:List (List Pl)):Prop where
 nd:D.Nodup
 lN:∀ w∈D,∃ a b,w= [a,b]∧a∈Q∧b∈Q
 bare:∀ a b,[a,b]∈D→[b,a]∉D→aY Q a b
 mE:∀ a b,aY Q a b→[b,a]∉D
 has:∀ a b,aY Q a b→aY Q b a∨[a,b]∈D
theorem vo.nil {Q:List Pl} (h:Q.length < 2):vo Q [] where
 nd:= .nil
 lN:=fun w hw=>by cases hw
 bare:=fun a b hw=>by cases hw
 mE:=fun a b hw=>by simp
 has:=fun a b hw=>absurd (ny hw) (by omega)
theorem uo {a b:Pl} (h1:aY Q a b) (h2:aY Q b a):Flat Q:=k8 h1.2.2.1 fun q hq=>by
 have z1:=(h1.2.2.2 q hq).1
 have z2:=(h2.2.2.2 q hq).1
 have:=eV a b q
 omega
theorem uq (s:dj Q) (fl:Flat Q) {a b:Pl} (h:aY Q a b):aY Q b a:=k9 s fl h.2.1 h.1 (Ne.symm h.2.2.1) fun q hq k=>c8 s h hq (fl a h.1 b h.2.1 q hq) (by omega)
theorem vo.step {D D':List (List Pl)} (s:dj (Q ++ [p])) (c:vo Q D) (e:D'.Perm (D ++ newD Q p)):vo (Q ++ [p]) D':=by
 have so:=s.old
 have np:∀ {x y},aY Q x y→x≠p∧y≠p:=fun h=>⟨fun z=>s.out (z▸h.1),fun z=>s.out (z▸h.2.1)⟩
 have mem:∀ w,w∈D'↔w∈D∨w∈newD Q p:=fun w=>by rw [e.mem_iff,List.mem_append]
 have pD:∀ a b,[a,b]∈D→a∈Q∧b∈Q:=fun a b h=>by
  obtain ⟨u,v,e,h1,h2⟩:=c.lN _ h
  obtain ⟨rfl,rfl⟩:=aQ e
  exact ⟨h1,h2⟩
 refine ⟨?_,?_,?_,?_,?_⟩
 ·refine e.nodup_iff.mpr (List.nodup_append.mpr ⟨c.nd,Bw s,fun w hw v hv z=>?_⟩)
  subst z
  obtain ⟨a,b,⟨h1,h2⟩,h3⟩:=(fB so).mp hv
  rcases h3 with rfl | rfl | rfl
  ·exact c.mE a b h1 hw
  ·exact s.out (pD _ _ hw).2
  ·exact s.out (pD _ _ hw).1
 ·intro w hw
  rcases (mem w).mp hw with h | h
  ·obtain ⟨a,b,e,h1,h2⟩:=c.lN w h
   exact ⟨a,b,e,List.mem_append_left _ h1,List.mem_append_left _ h2⟩
  ·obtain ⟨a,b,⟨h1,h2⟩,h3⟩:=(fB so).mp h
   have ma:a∈Q ++ [p]:=List.mem_append_left _ h1.1
   have mb:b∈Q ++ [p]:=List.mem_append_left _ h1.2.1
   have mp:p∈Q ++ [p]:=by simp
   rcases h3 with rfl | rfl | rfl
   ·exact ⟨_,_,rfl,mb,ma⟩
   ·exact ⟨_,_,rfl,ma,mp⟩
   ·exact ⟨_,_,rfl,mp,mb⟩
 ·intro u v hw hb
  have P5: [v,u]∉D:=fun z=>hb ((mem _).mpr (.inl z))
  have OI: [v,u]∉newD Q p:=fun z=>hb ((mem _).mpr (.inr z))
  rcases (mem _).mp hw with h | h
  ·have sd:=c.bare u v h P5
   refine (gJ s sd.1 sd.2.1).mpr ⟨sd,Classical.byContradiction fun z=>OI ?_⟩
   exact (fB so).mpr ⟨u,v,⟨sd,by omega⟩,.inl rfl⟩
  ·obtain ⟨a,b,⟨h1,h2⟩,h3⟩:=(fB so).mp h
   rcases h3 with h3 | h3 | h3
   ·obtain ⟨rfl,rfl⟩:=aQ h3
    rcases c.has v u h1 with k | k
    ·exact (gJ s k.1 k.2.1).mpr ⟨k,by have:=eV v u p;omega⟩
    ·exact absurd k P5
   ·obtain ⟨rfl,rfl⟩:=aQ h3
    refine qT s h1 h2 fun c hc=>Classical.byContradiction fun z=>OI ?_
    exact (fB so).mpr ⟨c,u,⟨hc,by omega⟩,.inr (.inr rfl)⟩
   ·obtain ⟨rfl,rfl⟩:=aQ h3
    refine xu s h1 h2 fun c hc=>Classical.byContradiction fun z=>OI ?_
    exact (fB so).mpr ⟨v,c,⟨hc,by omega⟩,.inr (.inl rfl)⟩
 ·intro u v sd hw
  rcases (mem _).mp hw with h | h
  ·obtain ⟨mv,mu⟩:=pD _ _ h
   exact c.mE u v ((gJ s mu mv).mp sd).1 h
  ·obtain ⟨a,b,⟨h1,h2⟩,h3⟩:=(fB so).mp h
   rcases h3 with h3 | h3 | h3
   ·obtain ⟨rfl,rfl⟩:=aQ h3
    have:=((gJ s h1.1 h1.2.1).mp sd).2
    omega
   ·obtain ⟨rfl,rfl⟩:=aQ h3
    have:=(sd.2.2.2 b (List.mem_append_left _ h1.2.1)).1
    have:=FN v b u
    omega
   ·obtain ⟨rfl,rfl⟩:=aQ h3
    have:=(sd.2.2.2 a (List.mem_append_left _ h1.1)).1
    have:=yW a u v
    omega
 ·intro u v sd
  by_cases fl:Flat (Q ++ [p])
  ·exact .inl (uq s fl sd)
  ·right
   obtain ⟨a0,b0,h0,s0⟩:=um s fl
   obtain ⟨⟨a1,b1,k1,RG⟩,a2,b2,k2,RH⟩:=DE so s.yY ((bG so).mpr ⟨h0,s0⟩)
   rcases dJ sd.1 with mu | rfl
   ·rcases dJ sd.2.1 with mv | rfl
    ·obtain ⟨Jc,ge⟩:=(gJ s mu mv).mp sd
     rcases c.has u v Jc with k | k
     ·have fq:=uo Jc k
      have nz:tw u v p≠0:=fun z=>fl (k8 Jc.2.2.1 fun q hq=>by
       rcases dJ hq with hq | rfl
       ·exact fq u mu v mv q hq
       ·exact z)
      exact (mem _).mpr (.inr ((fB so).mpr ⟨v,u,⟨k,by have:=eV u v p;omega⟩,.inl rfl⟩))
     ·exact (mem _).mpr (.inl k)
    ·have:=DC s sd (qT s k1.1 k1.2 RG)
     subst this
     exact (mem _).mpr (.inr ((fB so).mpr ⟨u,b1,k1,.inr (.inl rfl)⟩))
   ·have:=Hg s sd (xu s k2.1 k2.2 RH)
    subst this
    exact (mem _).mpr (.inr ((fB so).mpr ⟨a2,v,k2,.inr (.inr rfl)⟩))
end
end L3
namespace L3
theorem oB {v w x y:Pl} (h: [v,w].Perm [x,y]):(v=x∧w=y)∨(v=y∧w=x):=by
 have m:v∈[x,y]:=h.mem_iff.mp (by simp)
 simp only [List.mem_cons,List.not_mem_nil,or_false] at m
 rcases m with rfl | rfl
 ·have:=List.Perm.cons_inv h
  exact .inl ⟨rfl,by simpa using this⟩
 ·have:=List.Perm.cons_inv (h.trans (List.Perm.swap v x []))
  exact .inr ⟨rfl,by simpa using this⟩
theorem FT {a b p:Pl} (h:tw a b p < 0):(eZ (Dd a b p)).Perm [[b,a],[a,p],[p,b]]:=by
 obtain ⟨⟨u,v,w,e,_,_,pos⟩,pm⟩:=uX (a:=a) (b:=b) (c:=p) (by omega)
 rw [e] at pm ⊢
 have m:u∈[a,b,p]:=pm.mem_iff.mp (by simp)
 simp only [List.mem_cons,List.not_mem_nil,or_false] at m
 rcases m with rfl | rfl | rfl
 ·rcases oB (List.Perm.cons_inv pm) with ⟨rfl,rfl⟩ | ⟨rfl,rfl⟩
  ·omega
  ·show ([[u,v],[v,w],[w,u]]:List (List Pl)).Perm [[w,u],[u,v],[v,w]]
   exact List.perm_append_comm (l₁:=[[u,v],[v,w]]) (l₂:=[[w,u]])
 ·rcases oB (List.Perm.cons_inv (pm.trans (List.Perm.swap u a [p]))) with ⟨rfl,rfl⟩ | ⟨rfl,rfl⟩
  ·exact .refl _
  ·have:=yW w u v
   omega
 ·rcases oB (List.Perm.cons_inv (pm.trans (List.perm_append_comm (l₁:=[a,b]) (l₂:=[u])))) with ⟨rfl,rfl⟩ | ⟨rfl,rfl⟩
  ·have:=FN v w u
   omega
  ·show ([[u,v],[v,w],[w,u]]:List (List Pl)).Perm [[v,w],[w,u],[u,v]]
   exact List.perm_append_comm (l₁:=[[u,v]]) (l₂:=[[v,w],[w,u]])
def xD (p:Pl) (w:List Pl):List Pl:=Dd (sL w) (vm w) p
def jc (qs:List Pl) (k:Nat):Pl:=qs.getD k ⟨0,0⟩
def j5 (qs:List Pl):Nat→List (List Pl)
 | 0=>[]
 | k+1=>j5 qs k ++ (bZ (qs.take k) (jc qs k)).map (xD (jc qs k))
theorem DF (xs ys:List (List Pl)):bq (xs ++ ys)=bq xs ++ bq ys:=List.flatMap_append
theorem uu {α β:Type} {f g:α→List β}:∀ {l:List α},(∀ x∈l,(f x).Perm (g x))→(l.flatMap f).Perm (l.flatMap g)
 | [],_=> .refl _
 | a :: l,h=>by
   rw [List.flatMap_cons,List.flatMap_cons]
   exact (h a (by simp)).append (uu fun x hx=>h x (List.mem_cons_of_mem _ hx))
theorem DG {Q:List Pl} {p:Pl} (s:dj Q):(bq ((bZ Q p).map (xD p))).Perm (newD Q p):=by
 unfold bq newD
 rw [List.flatMap_map]
 refine uu fun w hw=>?_
 obtain ⟨a,b,rfl⟩:=cz hw
 exact FT ((bG s).mp hw).2
theorem e9 {qs:List Pl} {k:Nat} (h:k < qs.length):qs.take (k+1)=qs.take k ++ [jc qs k]:=by
 rw [List.take_succ,List.getElem?_eq_getElem h]
 unfold jc
 rw [List.getD_eq_getElem?_getD,List.getElem?_eq_getElem h]
 rfl
theorem dj.take {qs:List Pl} (s:dj qs) (k:Nat):dj (qs.take k):=⟨s.1.sublist (List.take_sublist _ _),fun q hq=>s.2 q (List.mem_of_mem_take hq)⟩
theorem Au {qs:List Pl} (s:dj qs):∀ k,k≤qs.length→vo (qs.take k) (bq (j5 qs k))
 | 0,_=>vo.nil (by simp)
 | k+1,h=>by
   have st:=s.take (k+1)
   rw [e9 (by omega)] at st ⊢
   refine vo.step st (Au s k (by omega)) ?_
   show (bq (j5 qs k ++ _)).Perm _
   rw [DF]
   exact (List.Perm.refl _).append (DG st.old)
theorem FU {a b p q:Pl} (h:tw a b p < 0) (hq:q=a∨q=b∨q=p):q∈Dd a b p:=(uX (a:=a) (b:=b) (c:=p) (by omega)).2.mem_iff.mpr (by simpa using hq)
theorem qU {qs:List Pl} (s:dj qs):∀ k,k≤qs.length→¬ Flat (qs.take k)→∀ q∈qs.take k,∃ t∈j5 qs k,q∈t
 | 0,_,nf,_,_=>absurd (jC (by simp)) nf
 | k+1,h,nf,q,hq=>by
   have st:=s.take (k+1)
   rw [e9 (by omega)] at st nf hq
   have so:=st.old
   have put:∀ a b,aY (qs.take k) a b→tw a b (jc qs k) < 0→(q=a∨q=b∨q=jc qs k)→∃ t∈j5 qs (k+1),q∈t:=fun a b h1 h2 e=>
    ⟨xD (jc qs k) [a,b],List.mem_append_right _ (List.mem_map.mpr ⟨[a,b],(bG so).mpr ⟨h1,h2⟩,rfl⟩),FU h2 e⟩
   rcases dJ hq with hq | rfl
   ·by_cases fl:Flat (qs.take k)
    ·obtain ⟨r,hr,ne⟩:∃ r∈qs.take k,r≠q:=by
      apply Classical.byContradiction
      intro no
      refine nf (xw ?_)
      have:=om (l:=qs.take k) (m:=[q]) (so.1.imp fun h=>uS h) (fun x hx=>by
       apply Classical.byContradiction
       intro z
       exact no ⟨x,hx,fun e=>z (by rw [e];simp)⟩)
      rw [List.length_append]
      simp at this ⊢
      omega
     obtain ⟨c,hc,nc,_,LI⟩:=vh so hq hr ne
     have sd:aY (qs.take k) q c:=k9 so fl hq hc (Ne.symm nc) fun z hz w=>LI z hz w
     have nz:tw q c (jc qs k)≠0:=fun z=>nf (k8 (Ne.symm nc) fun r hr=>by
      rcases dJ hr with hr | rfl
      ·exact fl q hq c hc r hr
      ·exact z)
     rcases Int.lt_or_lt_of_ne nz with z | z
     ·exact put q c sd z (.inl rfl)
     ·exact put c q (uq so fl sd) (by have:=eV q c (jc qs k);omega) (.inr (.inl rfl))
    ·obtain ⟨t,ht,m⟩:=qU s k (by omega) fl q hq
     exact ⟨t,List.mem_append_left _ ht,m⟩
   ·obtain ⟨a,b,h1,h2⟩:=um st nf
    exact put a b h1 h2 (.inr (.inr rfl))
theorem sub_len {α:Type} [DecidableEq α] {l m:List α} (nd:l.Nodup) (sub:∀ x∈l,x∈m):l.length≤m.length:=by
 induction l generalizing m with
 | nil=>simp
 | cons a l ih=>
   obtain ⟨h1,h2⟩:=List.nodup_cons.mp nd
   have ma:=sub a (List.mem_cons_self ..)
   have:=ih (m:=m.erase a) h2 fun x hx=>(List.mem_erase_of_ne (show x≠a from fun e=>h1 (e▸hx))).mpr (sub x (List.mem_cons_of_mem _ hx))
   rw [List.length_erase_of_mem ma] at this
   have:0 < m.length:=List.length_pos_of_mem ma
   rw [List.length_cons]
   omega
theorem split_len {α:Type} (f:α→Bool):∀ l:List α,l.length=(l.filter f).length+(l.filter (fun v=>!f v)).length
 | []=>rfl
 | a :: l=>by
   have ih:=split_len f l
   rw [List.filter_cons,List.filter_cons,List.length_cons]
   cases f a with
   | true=>simp;omega
   | false=>simp;omega
theorem Av {Q:List Pl} {p:Pl} (s:dj (Q ++ [p])):(SL (Q ++ [p])).length+(bZ Q p).length≤(SL Q).length+2:=by
 have so:=s.old
 obtain ⟨I,lI,hI⟩:∃ I:List (List Pl),I.length≤1∧∀ u,aY (Q ++ [p]) u p→[u,p]∈I:=by
  by_cases h:∃ u,aY (Q ++ [p]) u p
  ·obtain ⟨u,hu⟩:=h
   exact ⟨[[u,p]],by simp,fun v hv=>by rw [DC s hv hu];simp⟩
  ·exact ⟨[],by simp,fun v hv=>absurd ⟨v,hv⟩ h⟩
 obtain ⟨O,lO,hO⟩:∃ O:List (List Pl),O.length≤1∧∀ u,aY (Q ++ [p]) p u→[p,u]∈O:=by
  by_cases h:∃ u,aY (Q ++ [p]) p u
  ·obtain ⟨u,hu⟩:=h
   exact ⟨[[p,u]],by simp,fun v hv=>by rw [Hg s hv hu];simp⟩
  ·exact ⟨[],by simp,fun v hv=>absurd ⟨v,hv⟩ h⟩
 have sp:=split_len (yv p) (SL Q)
 have:=sub_len (l:=SL (Q ++ [p])) (m:=(SL Q).filter (fun v=>!yv p v) ++ (I ++ O)) (kE s) (fun w hw=>by
  obtain ⟨a,b,rfl⟩:=mC hw
  have sd:=(cN s).mp hw
  rcases dJ sd.1 with ma | rfl
  ·rcases dJ sd.2.1 with mb | rfl
   ·obtain ⟨h1,h2⟩:=(gJ s ma mb).mp sd
    refine List.mem_append_left _ (List.mem_filter.mpr ⟨(cN so).mpr h1,?_⟩)
    show (!decide (tw a b p < 0))=true
    rw [decide_eq_false (by omega)]
    rfl
   ·exact List.mem_append_right _ (List.mem_append_left _ (hI a sd))
  ·exact List.mem_append_right _ (List.mem_append_right _ (hO b sd)))
 rw [List.length_append,List.length_append] at this
 unfold bZ
 omega
theorem qf {qs:List Pl} (s:dj qs):∀ k,k≤qs.length→(j5 qs k).length+(SL (qs.take k)).length≤2*k
 | 0,_=>by rw [kC (by simp)];simp [j5]
 | k+1,h=>by
   have st:=s.take (k+1)
   have ih:=qf s k (by omega)
   rw [e9 (by omega)] at st ⊢
   have:=Av st
   show (j5 qs k ++ _).length+_≤_
   rw [List.length_append,List.length_map]
   omega
theorem vp {qs:List Pl} (s:dj qs):∀ k,k≤qs.length→∀ t∈j5 qs k,nQ qs t
 | 0,_,t,ht=>by cases ht
 | k+1,h,t,ht=>by
   rcases List.mem_append.mp ht with ht | ht
   ·exact vp s k (by omega) t ht
   ·obtain ⟨w,hw,rfl⟩:=List.mem_map.mp ht
    obtain ⟨a,b,rfl⟩:=cz hw
    obtain ⟨h1,h2⟩:=(bG (s.take k)).mp hw
    obtain ⟨h3,h4⟩:=uX (a:=a) (b:=b) (c:=jc qs k) (by omega)
    refine ⟨h3,fun q hq=>?_⟩
    have:=h4.mem_iff.mp hq
    simp only [List.mem_cons,List.not_mem_nil,or_false] at this
    rcases this with rfl | rfl | rfl
    ·exact List.mem_of_mem_take h1.1
    ·exact List.mem_of_mem_take h1.2.1
    ·unfold jc
     rw [List.getD_eq_getElem?_getD,List.getElem?_eq_getElem (by omega)]
     exact List.getElem_mem _
theorem vo.perm {Q:List Pl} {D D':List (List Pl)} (c:vo Q D) (e:D'.Perm D):vo Q D' where
 nd:=e.nodup_iff.mpr c.nd
 lN:=fun w hw=>c.lN w (e.mem_iff.mp hw)
 bare:=fun a b h1 h2=>c.bare a b (e.mem_iff.mp h1) fun z=>h2 (e.mem_iff.mpr z)
 mE:=fun a b h1 h2=>c.mE a b h1 (e.mem_iff.mp h2)
 has:=fun a b h=>(c.has a b h).imp id fun z=>e.mem_iff.mpr z
end L3
namespace PySem.SetTable
def dm:Nat→SetTable→Probe→Probe
 | 0,_,p=>p
 | k+1,t,p=>dm k t (t.advance p)
theorem jD (t:SetTable):∀ (a b:Nat) (p:Probe),dm (a+b) t p=dm b t (dm a t p)
 | 0,b,p=>by rw [Nat.zero_add];rfl
 | a+1,b,p=>by
   rw [show a+1+b=(a+b)+1 by omega]
   exact jD t a b (t.advance p)
theorem uv (t:SetTable) (p:Probe):(t.advance p).dummy=p.dummy:=by
 unfold advance
 split <;> rfl
theorem qV (t:SetTable):∀ (k:Nat) (p:Probe),(dm k t p).dummy=p.dummy
 | 0,_=>rfl
 | k+1,p=>(qV t k (t.advance p)).trans (uv t p)
theorem qW {t:SetTable} (h:t.dummies= #[]) (j:Nat):t.slot j= .empty∨∃ i,t.slot j= .live i∧t.place[i]?=some j:=by
 unfold slot
 by_cases c:(t.place[below t.place j]? == some j)=true
 ·rw [if_pos c]
  exact .inr ⟨_,rfl,by simpa using c⟩
 ·rw [if_neg c,if_neg (by rw [h];unfold has;simp)]
  exact .inl rfl
theorem Bx {t:SetTable} (h:t.dummies= #[]) {j:Nat} (n:∀ i:Nat,t.place[i]?≠some j):t.slot j= .empty:=by
 rcases qW h j with e | ⟨i,_,e⟩
 ·exact e
 ·exact absurd e (n i)
theorem len_sub {α:Type} [DecidableEq α] {l m:List α} (nd:l.Nodup) (sub:∀ x∈l,x∈m):l.length≤m.length:=by
 induction l generalizing m with
 | nil=>simp
 | cons a l ih=>
   obtain ⟨h1,h2⟩:=List.nodup_cons.mp nd
   have ma:=sub a (List.mem_cons_self ..)
   have:=ih (m:=m.erase a) h2 fun x hx=>(List.mem_erase_of_ne (show x≠a from fun e=>h1 (e▸hx))).mpr (sub x (List.mem_cons_of_mem _ hx))
   rw [List.length_erase_of_mem ma] at this
   have:0 < m.length:=List.length_pos_of_mem ma
   rw [List.length_cons]
   omega
theorem By {t:SetTable} (h:t.place.size≤t.mask):∃ j,j≤t.mask∧∀ i:Nat,t.place[i]?≠some j:=by
 apply Classical.byContradiction
 intro c
 have all:∀ j∈List.range (t.mask+1),j∈t.place.toList:=fun j hj=>by
  have hj:=List.mem_range.mp hj
  apply Classical.byContradiction
  intro n
  refine c ⟨j,by omega,fun i e=>n ?_⟩
  exact Array.mem_toList_iff.mpr (Array.mem_of_getElem? e)
 have:=len_sub List.nodup_range all
 rw [List.length_range,Array.length_toList] at this
 omega
def EB (t:SetTable) (p:Probe):Probe:={ j:=(leap t.mask p.i p.perturb).1,more:=runEnd t.mask (leap t.mask p.i p.perturb).1 - (leap t.mask p.i p.perturb).1,i:=(leap t.mask p.i p.perturb).1,perturb:=(leap t.mask p.i p.perturb).2,dummy:=p.dummy }
theorem y9 (t:SetTable):∀ (n:Nat) (p:Probe),p.more=n→dm (n+1) t p=EB t p
 | 0,p,h=>by
   show t.advance p=EB t p
   unfold advance
   rw [if_neg (by omega)]
   rfl
 | n+1,p,h=>by
   have e:t.advance p= { p with j:=p.j+1,more:=p.more - 1 }:=by
    unfold advance
    rw [if_pos (by omega)]
   show dm (n+1) t (t.advance p)=_
   rw [y9 t n (t.advance p) (by rw [e];show p.more - 1=n;omega),e]
   rfl
theorem za (mask i:Nat):runEnd mask i - i≤9:=by
 unfold runEnd
 split <;> omega
def OJ:Nat→SetTable→Probe→Probe
 | 0,_,p=>p
 | m+1,t,p=>OJ m t (EB t p)
theorem Aw (t:SetTable):∀ (m:Nat) (p:Probe),p.more≤9→∃ k,k≤10*m∧dm k t p=OJ m t p
 | 0,p,_=>⟨0,Nat.le_refl _,rfl⟩
 | m+1,p,h=>by
   obtain ⟨k,h1,h2⟩:=Aw t m (EB t p) (za _ _)
   refine ⟨p.more+1+k,by omega,?_⟩
   rw [jD,y9 t p.more p rfl,h2]
   rfl
def eW (mask:Nat):Nat→Nat→Nat→Nat ×Nat
 | 0,i,q=>(i,q)
 | m+1,i,q=>eW mask m (leap mask i q).1 (leap mask i q).2
theorem DH (t:SetTable):∀ (m:Nat) (p:Probe),p.j=p.i→(OJ m t p).j=(eW t.mask m p.i p.perturb).1
 | 0,p,h=>h
 | m+1,p,h=>DH t m (EB t p) rfl
theorem jd (mask:Nat):∀ (a b i q:Nat),eW mask (a+b) i q=eW mask b (eW mask a i q).1 (eW mask a i q).2
 | 0,b,i,q=>by rw [Nat.zero_add];rfl
 | a+1,b,i,q=>by
   rw [show a+1+b=(a+b)+1 by omega]
   exact jd mask a b _ _
theorem vq (mask:Nat):∀ (m i q:Nat),(eW mask m i q).2=q / 32 ^ m
 | 0,i,q=>by show q=q / 1;rw [Nat.div_one]
 | m+1,i,q=>by
   show (eW mask m _ (q / 32)).2=_
   rw [vq mask m,Nat.div_div_eq_div_mul,Nat.pow_succ,Nat.mul_comm]
theorem xE (mask:Nat):∀ (m i q:Nat),(eW mask (m+1) i q).1≤mask
 | 0,i,q=>Nat.le_of_lt_succ (Nat.mod_lt _ (Nat.succ_pos _))
 | m+1,i,q=>xE mask m _ _
def Round (mask:Nat):Prop:=(∀ j,j≤mask→∃ m,m≤mask∧(eW mask m 0 0).1=j)∧(eW mask (mask+1) 0 0).1=0
theorem zb (mask m i:Nat):(eW mask m i 0).2=0:=by rw [vq,Nat.zero_div]
theorem zc {mask:Nat} (R:Round mask) {i j:Nat} (hi:i≤mask) (hj:j≤mask):∃ m,m≤mask+1∧(eW mask m i 0).1=j:=by
 obtain ⟨R1,R2⟩:=R
 obtain ⟨a,ha,ea⟩:=R1 i hi
 obtain ⟨b,hb,eb⟩:=R1 j hj
 by_cases c:a≤b
 ·refine ⟨b - a,by omega,?_⟩
  have:=jd mask a (b - a) 0 0
  rw [zb,ea,show a+(b - a)=b by omega] at this
  rw [← this]
  exact eb
 ·refine ⟨mask+1+b - a,by omega,?_⟩
  have h1:=jd mask a (mask+1+b - a) 0 0
  rw [zb,ea,show a+(mask+1+b - a)=mask+1+b by omega] at h1
  have h2:=jd mask (mask+1) b 0 0
  rw [zb,R2] at h2
  rw [← h1,h2]
  exact eb
theorem Ax (h:Int):bits h < 2 ^ 64:=by
 unfold bits
 have h1:=Int.emod_nonneg h (show (2 ^ 64:Int)≠0 by decide)
 have h2:=Int.emod_lt_of_pos h (show (0:Int) < 2 ^ 64 by decide)
 omega
theorem xF {mask:Nat} (R:Round mask) {i q j:Nat} (hq:q < 2 ^ 64) (hj:j≤mask):∃ m,m≤mask+14∧(eW mask m i q).1=j:=by
 have z:(eW mask 13 i q).2=0:=by
  rw [vq]
  exact Nat.div_eq_of_lt (Nat.lt_of_lt_of_le hq (by decide))
 obtain ⟨m,hm,e⟩:=zc R (xE mask 12 i q) hj
 refine ⟨13+m,by omega,?_⟩
 rw [jd,z]
 exact e
def oE (mask:Nat):Prop:=mask=7∨mask=31∨mask=127∨mask=511
def OL (mask:Nat):Nat→Nat→List Nat
 | 0,_=>[]
 | n+1,i=>i :: OL mask n ((i*5+1) % (mask+1))
theorem DI (mask:Nat):∀ (n i j:Nat),j∈OL mask n i→∃ m,m < n∧(eW mask m i 0).1=j
 | 0,_,_,h=>by cases h
 | n+1,i,j,h=>by
   rcases List.mem_cons.mp h with rfl | h
   ·exact ⟨0,by omega,rfl⟩
   ·obtain ⟨m,hm,e⟩:=DI mask n _ j h
    exact ⟨m+1,by omega,e⟩
theorem nD {mask:Nat} (h:(List.range (mask+1)).all (fun j=>(OL mask (mask+1) 0).contains j)=true) (h2:((eW mask (mask+1) 0 0).1 == 0)=true):Round mask:=by
 refine ⟨fun j hj=>?_,by simpa using h2⟩
 have:=List.all_eq_true.mp h j (List.mem_range.mpr (by omega))
 obtain ⟨m,hm,e⟩:=DI mask (mask+1) 0 j (List.contains_iff_mem.mp this)
 exact ⟨m,by omega,e⟩
theorem oE.round {mask:Nat} (h:oE mask):Round mask:=by
 rcases h with rfl | rfl | rfl | rfl
 ·exact nD (by decide +kernel) (by decide +kernel)
 ·exact nD (by decide +kernel) (by decide +kernel)
 ·exact nD (by decide +kernel) (by decide +kernel)
 ·exact nD (by decide +kernel) (by decide +kernel)
def Good (t:SetTable) (n:Nat):Prop:=t.place.size=n∧t.dummies= #[]∧oE t.mask∧n*5 < t.mask*3
theorem Good.fits {t:SetTable} {n:Nat} (g:Good t n):t.fits n=true:=by
 obtain ⟨h1,h2,h3,h4⟩:=g
 unfold SetTable.fits fill
 rw [h1,h2]
 simp
 omega
theorem DJ {t:SetTable} {n:Nat} (g:Good t n) (h:Int):∃ k,k < 10*turns t.mask∧t.slot (dm k t (t.probeStart h)).j= .empty:=by
 obtain ⟨h1,h2,h3,h4⟩:=g
 obtain ⟨j,hj,nj⟩:=By (t:=t) (by omega)
 obtain ⟨m,hm,e⟩:=xF h3.round (i:=(t.probeStart h).i) (q:=(t.probeStart h).perturb) (Ax h) hj
 obtain ⟨k,hk,e2⟩:=Aw t m (t.probeStart h) (za _ _)
 refine ⟨k,by unfold turns;omega,?_⟩
 rw [e2,DH t m _ rfl,e]
 exact Bx h2 nj
theorem BA {mask:Nat} {owner:Array (Option Nat)} {j0:Nat} (h0:(owner.getD j0 (some 0)).isNone=true):∀ (m fuel i q:Nat),m < fuel→(eW mask m i q).1=j0→∃ j,layClean.free mask owner fuel i q=some j∧(owner.getD j (some 0)).isNone=true:=by
 intro m
 induction m with
 | zero=>
   intro fuel i q hf e
   cases fuel with
   | zero=>omega
   | succ f=>
     have e:i=j0:=e
     unfold layClean.free
     split
     ·rename_i k hk
      exact ⟨i+k,rfl,List.find?_some (p:=fun k=>(owner.getD (i+k) (some 0)).isNone) hk⟩
     ·rename_i hk
      have:=List.find?_eq_none.mp hk 0 (List.mem_range.mpr (by unfold runEnd;split <;> omega))
      rw [Nat.add_zero,e] at this
      exact absurd h0 this
 | succ m ih=>
   intro fuel i q hf e
   cases fuel with
   | zero=>omega
   | succ f=>
     unfold layClean.free
     split
     ·rename_i k hk
      exact ⟨i+k,rfl,List.find?_some (p:=fun k=>(owner.getD (i+k) (some 0)).isNone) hk⟩
     ·exact ih f _ _ (by omega) e
theorem zd {mask:Nat} (R:Round mask) {owner:Array (Option Nat)} {j0:Nat} (hj:j0≤mask) (h0:(owner.getD j0 (some 0)).isNone=true) (h:Int):∃ j,layClean.free mask owner (turns mask) (bits h % (mask+1)) (bits h)=some j∧(owner.getD j (some 0)).isNone=true:=by
 obtain ⟨m,hm,e⟩:=xF R (i:=bits h % (mask+1)) (q:=bits h) (Ax h) hj
 exact BA h0 m _ _ _ (by unfold turns;omega) e
def live (mask:Nat) (owner:Array (Option Nat)):List (Nat ×Nat):=(List.range (mask+1)).filterMap fun j=>(owner.getD j none).map (j,·)
theorem DL {f g:Nat→Bool} {j0:Nat} (hne:∀ j,j≠j0→f j=g j) (hf:f j0=false) (hg:g j0=true):∀ n,(List.range n).countP g=(List.range n).countP f+(if j0 < n then 1 else 0)
 | 0=>by simp
 | n+1=>by
   rw [List.range_succ,List.countP_append,List.countP_append,DL hne hf hg n]
   by_cases e:n=j0
   ·subst e
    simp [hf,hg]
   ·rw [show List.countP g [n]=List.countP f [n] by simp [List.countP_cons,hne n e]]
    by_cases c:j0 < n
    ·rw [if_pos c,if_pos (by omega)]
     omega
    ·rw [if_neg c,if_neg (by omega)]
     omega
theorem qX (mask:Nat) (owner:Array (Option Nat)):(live mask owner).length=(List.range (mask+1)).countP fun j=>(owner.getD j none).isSome:=by
 unfold live
 induction List.range (mask+1) with
 | nil=>rfl
 | cons j l ih=>
   rw [List.filterMap_cons,List.countP_cons]
   cases e:owner.getD j none with
   | none=>simpa using ih
   | some v=>simpa using ih
def Own (mask:Nat) (owner:Array (Option Nat)) (k:Nat):Prop:=owner.size=mask+1∧(live mask owner).length=k∧∀ (j v:Nat),owner[j]?=some (some v)→v < k
theorem FW (mask:Nat):Own mask (Array.replicate (mask+1) none) 0:=by
 refine ⟨by simp,?_,fun j v e=>?_⟩
 ·rw [qX,List.countP_eq_zero]
  intro j hj
  have hj:=List.mem_range.mp hj
  simp [Array.getD,hj]
 ·rw [Array.getElem?_replicate] at e
  split at e <;> cases e
theorem DM {mask k:Nat} {owner:Array (Option Nat)} (o:Own mask owner k) (hk:k≤mask):∃ j,j≤mask∧(owner.getD j (some 0)).isNone=true:=by
 obtain ⟨o1,o2,_⟩:=o
 apply Classical.byContradiction
 intro c
 have:(List.range (mask+1)).countP (fun j=>(owner.getD j none).isSome)=(List.range (mask+1)).length:=by
  rw [List.countP_eq_length]
  intro j hj
  have hj:=List.mem_range.mp hj
  have lt:j < owner.size:=by omega
  have n:=fun z=>c ⟨j,by omega,z⟩
  simp only [Array.getD,lt,dite_true] at n ⊢
  cases e:owner.getInternal j lt with
  | none=>rw [e] at n;exact absurd rfl n
  | some v=>rfl
 rw [← qX,o2,List.length_range] at this
 omega
theorem FY {mask k j:Nat} {owner:Array (Option Nat)} (o:Own mask owner k) (hj:(owner.getD j (some 0)).isNone=true):Own mask (owner.setIfInBounds j (some k)) (k+1):=by
 obtain ⟨o1,o2,o3⟩:=o
 have lt:j < owner.size:=by
  apply Classical.byContradiction
  intro c
  simp [Array.getD,c] at hj
 have en:owner.getD j none=none:=by
  simp only [Array.getD,lt,dite_true] at hj ⊢
  cases e:owner.getInternal j lt with
  | none=>rfl
  | some v=>rw [e] at hj;cases hj
 refine ⟨by simp [o1],?_,fun i v e=>?_⟩
 ·rw [qX] at o2 ⊢
  rw [DL (f:=fun i=>(owner.getD i none).isSome) (j0:=j) (fun i hi=>?_) (by simp only [en];rfl) ?_ (mask+1),o2,if_pos (by omega)]
  ·show ((owner.setIfInBounds j (some k)).getD j none).isSome=true
   rw [Array.getD_eq_getD_getElem?,Array.getElem?_setIfInBounds_self_of_lt lt]
   rfl
  ·show (owner.getD i none).isSome=((owner.setIfInBounds j (some k)).getD i none).isSome
   rw [Array.getD_eq_getD_getElem?,Array.getD_eq_getD_getElem?,Array.getElem?_setIfInBounds_ne (Ne.symm hi)]
 ·by_cases c:j=i
  ·subst c
   rw [Array.getElem?_setIfInBounds_self_of_lt lt] at e
   cases e
   omega
  ·rw [Array.getElem?_setIfInBounds_ne c] at e
   have:=o3 i v e
   omega
end PySem.SetTable
namespace PySem
open SetTable
structure cL (prog:Program) (w:World) (κ:Type) where
 is:Heap→κ→Addr→Prop
 hash:κ→Int
 draws:κ→Nat
 room:Around→Prop
 typ:∀ {s:Shared} {k:κ} {a:Addr},is s.heap k a→s.TypeIs (.ref a) "tuple"
 keeps:∀ {h h':Heap} {k:κ} {a:Addr},is h k a→(∀ b o,h.get? b=some o→o.cls= .type "tuple"→h'.get? b=some o)→is h' k a
 pyHash:∀ {A:Around} {E:Value→Shared→Prop} {s:Shared} {k:κ} {a:Addr} {Q:Int→Shared→Prop},room A→is s.heap k a→Q (hash k) { s with toks:=s.toks+draws k }→wpAny (model prog w) A (pyHash (.ref a)) Q E s
 other:∀ {A:Around} {E:Value→Shared→Prop} {s:Shared} {k l:κ} {a b:Addr} {Q:Bool→Shared→Prop},room A→is s.heap k a→is s.heap l b→k≠l→Q false s→wpAny (model prog w) A (eqBool (.ref a) (.ref b)) Q E s
 quiet:∀ {A:Around} {E:Value→Shared→Prop} {s:Shared} {k:κ} {a:Addr} {Q:Bool→Shared→Prop},is s.heap k a→Q true s→wpAny (model prog w) A (eqIsQuiet 8 (.ref a)) Q E s
 lA:∀ {A:Around} {E:Value→Shared→Prop} {s:Shared} {k:κ} {a:Addr} {Q:Bool→Shared→Prop},is s.heap k a→Q false s→wpAny (model prog w) A (ofAClassStatement 8 (.ref a)) Q E s
 xG:∀ {A:Around} {E:Value→Shared→Prop} {s:Shared} {k:κ} {a:Addr} {Q:Bool→Shared→Prop},is s.heap k a→Q true s→wpAny (model prog w) A (hashByValue 8 (.ref a)) Q E s
section
variable {prog:Program} {w:World} {κ:Type} {T:cL prog w κ} {A:Around} {E:Value→Shared→Prop} {s:Shared}
theorem DN {k:κ} {a:Addr} {Q:Bool→Shared→Prop} (hx:T.is s.heap k a) (q:Q false s) (ys:List Value) (hy:∀ y∈ys,∃ b l,y= .ref b∧T.is s.heap l b):wpAny (model prog w) A (searchCouldBeSeen (.ref a) ys) Q E s:=by
 unfold searchCouldBeSeen
 refine wpAny_bind ?_
 refine wpAny_forIn_list _ (fun rest r s'=>r.1=none∧s'=s∧∀ y∈rest,∃ b l,y= .ref b∧T.is s.heap l b) _ ?_ ?_ _ _ ⟨rfl,rfl,hy⟩
 ·rintro y rest r s' ⟨hr,rfl,hall⟩
  obtain ⟨b,l,rfl,hb⟩:=hall y List.mem_cons_self
  dsimp only
  refine wpAny_ite ?_
  split
  ·exact wpAny_pure ⟨rfl,rfl,fun y hy=>hall y (List.mem_cons_of_mem _ hy)⟩
  ·refine wpAny_bind (T.quiet hx ?_)
   simp only [Bool.not_true,Bool.false_eq_true,if_false]
   refine wpAny_bind (T.quiet hb ?_)
   simp only [Bool.not_true,Bool.false_eq_true,if_false]
   refine wpAny_bind (T.lA hx ?_)
   simp only [Bool.false_eq_true,if_false]
   refine wpAny_bind (T.lA hb ?_)
   simp only [Bool.false_eq_true,if_false]
   exact wpAny_pure ⟨rfl,rfl,fun y hy=>hall y (List.mem_cons_of_mem _ hy)⟩
 ·rintro ⟨r1,r2⟩ s' ⟨hr,rfl,_⟩
  simp only at hr
  subst hr
  exact wpAny_pure q
end
end PySem
namespace PySem
open SetTable
section
variable {prog:Program} {w:World} {κ:Type} {T:cL prog w κ} {A:Around} {R:Result→Shared→Prop} {I:Addr} {fp wr:List Addr} {G:Array GenState→Array GenState→Prop} {n:Nat} {P:Nat→Value→Prop} {St:Nat→Shared→Prop}
end
section
variable {prog:Program} {w:World} {κ:Type} {T:cL prog w κ} {A:Around} {E:Value→Shared→Prop} {s:Shared}
abbrev pL (led:Bool):Obj:={ cls:= .type "set",dict:=none,data:= .set #[] 0 (.fresh 0 0 led) }
end
end PySem
namespace PySem
open SetTable
section
variable {prog:Program} {w:World} {A:Around} {E:Value→Shared→Prop} {s:Shared}
theorem items_int {ks:List Int} {vs:List Value} (h:ItemsAre (intKind prog w) ks vs):∀ v∈vs,∃ i t,v= .int i t:=by
 induction h with
 | nil=>intro v hv;cases hv
 | cons h1 _ ih=>
   intro v hv
   rcases List.mem_cons.mp hv with rfl | hv
   ·obtain ⟨t,e⟩:=Value.isInt_shape h1
    exact ⟨_,t,e⟩
   ·exact ih v hv
theorem xH {k:List Int} {a:Addr} {Q:Bool→Shared→Prop} (hx:IsTupleKey (intKind prog w) s.heap k a) (q:Q false s):wpAny (model prog w) A (ofAClassStatement 8 (.ref a)) Q E s:=by
 have hT:=hx.typeIs
 obtain ⟨o,items,n,ho,_,hd,hi⟩:=hx
 unfold ofAClassStatement
 refine wpAny_bind (wpAny_typeOf hT ?_)
 have e1:("tuple" == "tuple")=true:=by decide
 simp only [e1,if_true]
 refine wpAny_bind (wpAny_pure ?_)
 simp only [Bool.not_true,Bool.false_eq_true,if_false]
 refine wpAny_bind (wpAny_seqItems ho hd ?_)
 dsimp only
 refine wpAny_bind ?_
 rw [← Array.forIn_toList]
 refine wpAny_forIn_list _ (fun rest r s'=>r.1=none∧s'=s∧∀ v∈rest,∃ i t,v=Value.int i t) _ ?_ ?_ _ _ ⟨rfl,rfl,items_int hi⟩
 ·rintro v rest r s' ⟨hr,rfl,hall⟩
  obtain ⟨i,t,rfl⟩:=hall v List.mem_cons_self
  refine wpAny_bind (wpAny_pure ?_)
  simp only [Bool.false_eq_true,if_false]
  exact wpAny_pure ⟨rfl,rfl,fun y hy=>hall y (List.mem_cons_of_mem _ hy)⟩
 ·rintro ⟨r1,r2⟩ s' ⟨hr,rfl,_⟩
  simp only at hr
  subst hr
  exact wpAny_pure q
theorem BB {k:List Int} {a:Addr} {Q:Bool→Shared→Prop} (hx:IsTupleKey (intKind prog w) s.heap k a) (q:Q true s):wpAny (model prog w) A (hashByValue 8 (.ref a)) Q E s:=by
 have hT:=hx.typeIs
 obtain ⟨o,items,n,ho,_,hd,hi⟩:=hx
 unfold hashByValue
 refine wpAny_bind (wpAny_specialOf hT F.slot_tuple_hash.lookup ?_)
 dsimp only
 refine wpAny_bind (wpAny_seqItems ho hd ?_)
 refine wpAny_bind ?_
 show wpAny _ _ (forIn items _ _) _ _ s
 rw [← Array.forIn_toList]
 refine wpAny_forIn_list _ (fun rest r s'=>r.1=none∧s'=s∧∀ v∈rest,∃ i t,v=Value.int i t) _ ?_ ?_ _ _ ⟨rfl,rfl,items_int hi⟩
 ·rintro v rest r s' ⟨hr,rfl,hall⟩
  obtain ⟨i,t,rfl⟩:=hall v List.mem_cons_self
  refine wpAny_bind (wpAny_pure ?_)
  simp only [Bool.not_true,Bool.false_eq_true,if_false]
  exact wpAny_pure ⟨rfl,rfl,fun y hy=>hall y (List.mem_cons_of_mem _ hy)⟩
 ·rintro ⟨r1,r2⟩ s' ⟨hr,rfl,_⟩
  simp only at hr
  subst hr
  exact wpAny_pure q
end
def Jd (prog:Program) (w:World):cL prog w (List Int) where
 is:=IsTupleKey (intKind prog w)
 hash:=tupleKeyHash (intKind prog w)
 draws:=fun ks=>ks.length+1
 room:=fun A=>A.units < cLine
 typ:=fun x=>x.typeIs
 keeps:=fun ⟨o,items,n,ho,hc,hd,hi⟩ k=>⟨o,items,n,k _ o ho hc,hc,hd,hi⟩
 pyHash:=fun hu hk h=>wpAny_pyHash_tuple hu hk h
 other:=fun hu hx hy ne h=>wpAny_eqBool_tuple hu hx hy (by rw [decide_eq_false ne];exact h)
 quiet:=fun hk h=>wpAny_eqIsQuiet_tuple hk h
 lA:=fun hk h=>xH hk h
 xG:=fun hk h=>BB hk h
end PySem
namespace L3
open PySem PySem.Spec PyProof.Rows L2
theorem FZ {P:Program} {w:World} {h:Heap} {u:Value} {p:Pl} (a:lD h u p):∃ b,u= .ref b∧IsTupleKey (intKind P w) h [p.x,p.y] b:=by
 obtain ⟨l,its,rfl,t,n⟩:=a.tup
 obtain ⟨o,ho,hc,m,hd⟩:=t
 refine ⟨l,rfl,o,its,m,ho,hc,hd,?_⟩
 revert n
 generalize its.toList=vs
 intro n
 cases n with
 | cons i t n1=>
   cases n1 with
   | cons j t2 n2=>
     cases n2
     exact .cons (intKind_is _ _ _ _) (.cons (intKind_is _ _ _ _) .nil)
section
variable {X:Cx} {pos:Pos}
theorem BC:bootBuiltins "set" =some (.type "set"):=by decide +kernel
end
end L3
namespace PySem
open SetTable
section
variable (prog:Program) (w:World)
inductive cA (h:Heap):List (List Int)→List Value→Prop
 | nil:cA h [] []
 | cons {k:List Int} {b:Addr} {ks:List (List Int)} {vs:List Value}:IsTupleKey (intKind prog w) h k b→cA h ks vs→cA h (k :: ks) (.ref b :: vs)
def cC (h:Heap) (ks:List (List Int)) (a:Addr):Prop:= ∃ o items n,h.get? a=some o∧o.cls= .type "tuple"∧o.data= .seq items n∧cA prog w h ks items.toList
end
section
variable {prog:Program} {w:World}
theorem cA.keeps {h h':Heap} {ks:List (List Int)} {vs:List Value} (x:cA prog w h ks vs) (k:∀ b o,h.get? b=some o→o.cls= .type "tuple"→h'.get? b=some o):cA prog w h' ks vs:=by
 induction x with
 | nil=>exact .nil
 | cons a _ ih=>exact .cons ((Jd prog w).keeps a k) ih
theorem cC.typ {s:Shared} {ks:List (List Int)} {a:Addr} (x:cC prog w s.heap ks a):s.TypeIs (.ref a) "tuple" :=let ⟨o,_,_,ho,hc,_⟩:=x;⟨o,ho,hc⟩
variable {A:Around} {E:Value→Shared→Prop} {s:Shared}
def ze (ks:List (List Int)):Nat:=(ks.map fun k=>k.length+1).sum+1
def DO (prog:Program) (w:World) (ks:List (List Int)):Int:=reduceHash (Builtin.Tuple.tupleHashOf (ks.map (tupleKeyHash (intKind prog w))))
theorem BD {ks:List (List Int)} {a:Addr} {Q:Int→Shared→Prop} (hu:A.units+8 < cLine) (hk:cC prog w s.heap ks a) (h:Q (DO prog w ks) { s with toks:=s.toks+ze ks }) :
 wpAny (model prog w) A (pyHash (.ref a)) Q E s:=by
 have hT:=hk.typ
 obtain ⟨o,items,n,ho,_,hd,hi⟩:=hk
 unfold pyHash pyHashByItsType
 refine wpAny_bind (wpAny_cRoomFor_or (.inr (by omega)) ?_)
 refine wpAny_bind (wpAny_specialOf hT F.slot_tuple_hash.lookup ?_)
 refine (?_:wpAny _ _ (if (some (Value.builtin "tuple.__hash__") == some Value.none)=true then _ else _) Q E s)
 rw [if_neg (by rw [beq_builtin_none];exact Bool.false_ne_true)]
 refine wpAny_bind (wpAny_specialOf hT F.slot_tuple_hash.lookup ?_)
 refine (?_:wpAny _ _ (callSpecialIfBoundUnlessNone? (.ref a) "__hash__" _ >>= _) Q E s)
 refine wpAny_bind (wpAny_callSpecialIfBoundUnlessNone?_slot hT F.slot_tuple_hash (wpAny_call_entry F.slot_tuple_hash hT F.entry_tuple_hash ?_ (F.args_tuple_hash_1 _)))
 refine (?_:wpAny _ _ (Builtin.Tuple.tupleItemsOf (.ref a) >>= _) _ _ s)
 refine wpAny_bind (wpAny_tupleItemsOf ho hd (wpAny_bind ?_))
 rw [← Array.forIn_toList]
 refine wpAny_forIn_list _ (fun rest (b:Array Int) s'=> ∃ done left,ks=done ++ left∧cA prog w s.heap left rest∧b.toList=done.map (tupleKeyHash (intKind prog w))∧s'= { s with toks:=s.toks+(done.map fun k=>k.length+1).sum }) _ ?_ ?_ _ _ ⟨[],ks,rfl,hi,rfl,rfl⟩
 ·rintro x rest b s' ⟨done,left,rfl,hl,hb,rfl⟩
  cases hl with
  | @cons k c ks' _ h1 hl'=>
    refine wpAny_bind (wpAny_pyHash_tuple (s:={ s with toks:=s.toks+(done.map fun k=>k.length+1).sum }) (by show A.units+1 < cLine;omega) h1 ?_)
    have fin:∃ DP Hh,done ++ k :: ks'=DP ++ Hh∧cA prog w s.heap Hh rest∧(b.push (tupleKeyHash (intKind prog w) k)).toList=DP.map (tupleKeyHash (intKind prog w))∧
     ({ s with toks:=s.toks+(done.map fun k=>k.length+1).sum+(k.length+1) }:Shared)= { s with toks:=s.toks+(DP.map fun k=>k.length+1).sum }:=
     ⟨done ++ [k],ks',by simp,hl',by simp [hb],by simp [Nat.add_assoc]⟩
    first
     | exact wpAny_pure fin
     | exact wpAny_bind (wpAny_pure (wpAny_pure fin))
 ·rintro b s' ⟨done,left,rfl,hl,hb,rfl⟩
  cases hl
  rw [List.append_nil] at h
  refine (?_:wpAny _ _ (retInt (Builtin.Tuple.tupleHashOf b.toList)) _ _ _)
  rw [hb]
  refine wpAny_ret_mkInt ?_
  unfold DO reduceHash ze at h
  generalize Builtin.Tuple.tupleHashOf (done.map (tupleKeyHash (intKind prog w)))=z at h ⊢
  refine (?_:wpAny _ _ (if (decide (-(2:Int) ^ 63≤z) && decide (z < 2 ^ 63))=true then _ else _) Q E _)
  by_cases c:(decide (-(2:Int) ^ 63≤z) && decide (z < 2 ^ 63))=true
  ·rw [if_pos c] at h ⊢
   exact wpAny_pure (by simpa [Nat.add_assoc] using h)
  ·rw [if_neg c] at h ⊢
   exact wpAny_bind (wpAny_rule (wpAny_pure (by simpa [Nat.add_assoc] using h)))
theorem xJ {x y:List (List Int)} {a b:Addr} {P:Fin→Shared→Prop} (hu:A.units+4 < cLine) (hx:cC prog w s.heap x a) (hy:cC prog w s.heap y b) (h:P (.done (.ret (.bool (decide (x=y))))) s) :
 wpAny (model prog w) A (Builtin.«tuple.__eq__» ⟨[.ref a,.ref b],[]⟩) P E s:=by
 have hTb:=hy.typ
 obtain ⟨oa,xs,na,hoa,_,hda,RI⟩:=hx
 obtain ⟨ob,ys,nb,hob,_,hdb,hib⟩:=hy
 refine (?_:wpAny _ _ (isInstance (.ref b) (.type "tuple") >>= _) _ _ s)
 refine wpAny_bind (wpAny_isInstance hTb isSubtype_tuple_tuple ?_)
 simp only [Bool.not_true,Bool.false_eq_true,if_false]
 refine wpAny_bind (wpAny_tupleItemsOf hoa hda (wpAny_bind (wpAny_tupleItemsOf hob hdb (wpAny_bind ?_))))
 refine wpAny_forIn_list _ (fun rest r s'=>r.1=none∧s'=s∧∃ x' y' us vs,rest=List.zip us vs∧cA prog w s.heap x' us∧cA prog w s.heap y' vs∧decide (x'=y')=decide (x=y)∧(us.length == vs.length)=(xs.size == ys.size)) _ ?_ ?_ _ _ ⟨rfl,rfl,x,y,xs.toList,ys.toList,rfl,RI,hib,rfl,by simp⟩
 ·rintro ⟨u,v⟩ rest r s' ⟨hr,rfl,x',y',us,vs,hz,hx',hy',Ga,hlen⟩
  cases hx' with
  | nil=>simp at hz
  | @cons k1 c1 P6 us' h1 OM=>
    cases hy' with
    | nil=>simp at hz
    | @cons k2 c2 P7 vs' h2 ON=>
      simp only [List.zip_cons_cons,List.cons.injEq,Prod.mk.injEq] at hz
      obtain ⟨⟨rfl,rfl⟩,rfl⟩:=hz
      refine wpAny_bind (wpAny_eqBool_tuple (by omega) h1 h2 ?_)
      by_cases hk:k1=k2
      ·subst hk
       rw [decide_eq_true rfl]
       simp only [Bool.not_true,Bool.false_eq_true,if_false]
       refine wpAny_pure ⟨rfl,rfl,P6,P7,us',vs',rfl,OM,ON,?_,by simpa using hlen⟩
       rw [← Ga]
       by_cases c:P6=P7 <;> simp [c]
      ·rw [decide_eq_false hk]
       simp only [Bool.not_false,if_true]
       rw [show decide (x=y)=false by rw [← Ga];simp [hk]] at h
       exact wpAny_bind (wpAny_pure (wpAny_pure (wpAny_pure h)))
 ·rintro ⟨r1,r2⟩ s' ⟨hr,rfl,x',y',us,vs,hz,hx',hy',Ga,hlen⟩
  simp only at hr
  subst hr
  refine wpAny_pure ?_
  have OO:(xs.size == ys.size)=decide (x=y):=by
   rw [← Ga,← hlen]
   cases hx' with
   | nil=>cases hy' <;> simp
   | cons _ _=>
     cases hy' with
     | nil=>simp
     | cons _ _=>simp at hz
  refine (?_:P (.done (.ret (.bool (xs.size == ys.size)))) s')
  rw [OO]
  exact h
theorem cA.inj {h:Heap} {x y:List (List Int)} {vs:List Value} (hx:cA prog w h x vs) (hy:cA prog w h y vs):x=y:=by
 induction hx generalizing y with
 | nil=>cases hy;rfl
 | cons h1 _ ih=>
   cases hy with
   | cons h2 t2=>rw [h1.inj h2,ih t2]
theorem cC.inj {h:Heap} {a:Addr} {x y:List (List Int)} (hx:cC prog w h x a) (hy:cC prog w h y a):x=y:=by
 obtain ⟨o,items,n,ho,_,hd,hi⟩:=hx
 obtain ⟨o',items',n',ho',_,hd',hi'⟩:=hy
 rw [ho] at ho'
 cases ho'
 rw [hd] at hd'
 injection hd' with h1 _
 subst h1
 exact hi.inj hi'
theorem Je {x y:List (List Int)} {a b:Addr} {Q:Bool→Shared→Prop} (hu:A.units+8 < cLine) (hx:cC prog w s.heap x a) (hy:cC prog w s.heap y b) (ne:x≠y) (h:Q false s) :
 wpAny (model prog w) A (eqBool (.ref a) (.ref b)) Q E s:=by
 unfold eqBool
 try with_reducible refine wpAny_holding ?_
 refine (?_:wpAny _ _ (if (Value.ref a == Value.ref b)=true then _ else _) Q E s)
 by_cases hab:(Value.ref a == Value.ref b)=true
 ·have e:a=b:=by have:=eq_of_beq hab;injection this
  subst e
  exact absurd (hx.inj hy) ne
 ·rw [if_neg hab]
  exact wpAny_bind (wpAny_richCompare_same_room (op:= .Eq) hx.typ hy.typ F.slot_tuple_eq
   (wpAny_call_entry F.slot_tuple_eq hx.typ F.entry_tuple_eq (xJ (by show A.units+1+4 < cLine;omega) hx hy (by rw [decide_eq_false ne];exact ⟨_,rfl,(fun e=>nomatch e),wpAny_truthy_bool h⟩)) (F.args_tuple_eq_2 _ _)) (by omega))
theorem DQ (d:Nat) {k:List Int} {a:Addr} {Q:Bool→Shared→Prop} (hx:IsTupleKey (intKind prog w) s.heap k a) (q:Q true s):wpAny (model prog w) A (eqIsQuiet (d+1) (.ref a)) Q E s:=by
 have hT:=hx.typeIs
 obtain ⟨o,items,n,ho,_,hd,hi⟩:=hx
 unfold eqIsQuiet
 refine wpAny_bind (wpAny_specialOf hT F.slot_tuple_eq.lookup ?_)
 refine (?_:wpAny _ _ (isInstance (.ref a) (.type "tuple") >>= _) _ _ s)
 refine wpAny_bind (wpAny_isInstance hT isSubtype_tuple_tuple ?_)
 simp only [Bool.not_true,Bool.false_eq_true,if_false]
 refine wpAny_bind (wpAny_seqItems ho hd (wpAny_bind ?_))
 refine (?_:wpAny _ _ (forIn items _ _) _ _ s)
 rw [← Array.forIn_toList]
 refine wpAny_forIn_list _ (fun rest r s'=>r.1=none∧s'=s∧∀ v∈rest,carriedByValue v=true) _ ?_ ?_ _ _ ⟨rfl,rfl,hi.byValue⟩
 ·rintro v rest r s' ⟨hr,rfl,hall⟩
  rw [eqIsQuiet_byValue _ (hall v List.mem_cons_self)]
  refine wpAny_bind (wpAny_pure ?_)
  simp only [Bool.not_true,Bool.false_eq_true,if_false]
  exact wpAny_pure ⟨rfl,rfl,fun u sM=>hall u (List.mem_cons_of_mem _ sM)⟩
 ·rintro ⟨r1,r2⟩ s' ⟨hr,rfl,_⟩
  simp only at hr
  subst hr
  exact wpAny_pure q
theorem cA.all {h:Heap} {x:List (List Int)} {vs:List Value} (hx:cA prog w h x vs):∀ v∈vs,∃ b k,v= .ref b∧IsTupleKey (intKind prog w) h k b:=by
 induction hx with
 | nil=>intro v hv;cases hv
 | cons h1 _ ih=>
   intro v hv
   rcases List.mem_cons.mp hv with rfl | hv
   ·exact ⟨_,_,rfl,h1⟩
   ·exact ih v hv
theorem Jf {k:List (List Int)} {a:Addr} {Q:Bool→Shared→Prop} (hx:cC prog w s.heap k a) (q:Q true s):wpAny (model prog w) A (eqIsQuiet 8 (.ref a)) Q E s:=by
 have hT:=hx.typ
 obtain ⟨o,items,n,ho,_,hd,hi⟩:=hx
 unfold eqIsQuiet
 refine wpAny_bind (wpAny_specialOf hT F.slot_tuple_eq.lookup ?_)
 refine (?_:wpAny _ _ (isInstance (.ref a) (.type "tuple") >>= _) _ _ s)
 refine wpAny_bind (wpAny_isInstance hT isSubtype_tuple_tuple ?_)
 simp only [Bool.not_true,Bool.false_eq_true,if_false]
 refine wpAny_bind (wpAny_seqItems ho hd (wpAny_bind ?_))
 refine (?_:wpAny _ _ (forIn items _ _) _ _ s)
 rw [← Array.forIn_toList]
 refine wpAny_forIn_list _ (fun rest r s'=>r.1=none∧s'=s∧∀ v∈rest,∃ b k,v=Value.ref b∧IsTupleKey (intKind prog w) s.heap k b) _ ?_ ?_ _ _ ⟨rfl,rfl,hi.all⟩
 ·rintro v rest r s' ⟨hr,rfl,hall⟩
  obtain ⟨b,k,rfl,hb⟩:=hall v List.mem_cons_self
  refine wpAny_bind (DQ 6 hb ?_)
  simp only [Bool.not_true,Bool.false_eq_true,if_false]
  exact wpAny_pure ⟨rfl,rfl,fun u sM=>hall u (List.mem_cons_of_mem _ sM)⟩
 ·rintro ⟨r1,r2⟩ s' ⟨hr,rfl,_⟩
  simp only at hr
  subst hr
  exact wpAny_pure q
theorem zf (d:Nat) {k:List Int} {a:Addr} {Q:Bool→Shared→Prop} (hx:IsTupleKey (intKind prog w) s.heap k a) (q:Q false s):wpAny (model prog w) A (ofAClassStatement (d+1) (.ref a)) Q E s:=by
 have hT:=hx.typeIs
 obtain ⟨o,items,n,ho,_,hd,hi⟩:=hx
 unfold ofAClassStatement
 refine wpAny_bind (wpAny_typeOf hT ?_)
 have e1:("tuple" == "tuple")=true:=by decide
 simp only [e1,if_true]
 refine wpAny_bind (wpAny_pure ?_)
 simp only [Bool.not_true,Bool.false_eq_true,if_false]
 refine wpAny_bind (wpAny_seqItems ho hd ?_)
 dsimp only
 refine wpAny_bind ?_
 rw [← Array.forIn_toList]
 refine wpAny_forIn_list _ (fun rest r s'=>r.1=none∧s'=s∧∀ v∈rest,∃ i t,v=Value.int i t) _ ?_ ?_ _ _ ⟨rfl,rfl,items_int hi⟩
 ·rintro v rest r s' ⟨hr,rfl,hall⟩
  obtain ⟨i,t,rfl⟩:=hall v List.mem_cons_self
  refine wpAny_bind ?_
  unfold ofAClassStatement
  refine wpAny_pure ?_
  simp only [Bool.false_eq_true,if_false]
  exact wpAny_pure ⟨rfl,rfl,fun y hy=>hall y (List.mem_cons_of_mem _ hy)⟩
 ·rintro ⟨r1,r2⟩ s' ⟨hr,rfl,_⟩
  simp only at hr
  subst hr
  exact wpAny_pure q
theorem DR {k:List (List Int)} {a:Addr} {Q:Bool→Shared→Prop} (hx:cC prog w s.heap k a) (q:Q false s):wpAny (model prog w) A (ofAClassStatement 8 (.ref a)) Q E s:=by
 have hT:=hx.typ
 obtain ⟨o,items,n,ho,_,hd,hi⟩:=hx
 unfold ofAClassStatement
 refine wpAny_bind (wpAny_typeOf hT ?_)
 have e1:("tuple" == "tuple")=true:=by decide
 simp only [e1,if_true]
 refine wpAny_bind (wpAny_pure ?_)
 simp only [Bool.not_true,Bool.false_eq_true,if_false]
 refine wpAny_bind (wpAny_seqItems ho hd ?_)
 dsimp only
 refine wpAny_bind ?_
 rw [← Array.forIn_toList]
 refine wpAny_forIn_list _ (fun rest r s'=>r.1=none∧s'=s∧∀ v∈rest,∃ b k,v=Value.ref b∧IsTupleKey (intKind prog w) s.heap k b) _ ?_ ?_ _ _ ⟨rfl,rfl,hi.all⟩
 ·rintro v rest r s' ⟨hr,rfl,hall⟩
  obtain ⟨b,k,rfl,hb⟩:=hall v List.mem_cons_self
  refine wpAny_bind (zf 6 hb ?_)
  simp only [Bool.false_eq_true,if_false]
  exact wpAny_pure ⟨rfl,rfl,fun y hy=>hall y (List.mem_cons_of_mem _ hy)⟩
 ·rintro ⟨r1,r2⟩ s' ⟨hr,rfl,_⟩
  simp only at hr
  subst hr
  exact wpAny_pure q
theorem DS (d:Nat) {k:List Int} {a:Addr} {Q:Bool→Shared→Prop} (hx:IsTupleKey (intKind prog w) s.heap k a) (q:Q true s):wpAny (model prog w) A (hashByValue (d+1) (.ref a)) Q E s:=by
 have hT:=hx.typeIs
 obtain ⟨o,items,n,ho,_,hd,hi⟩:=hx
 unfold hashByValue
 refine wpAny_bind (wpAny_specialOf hT F.slot_tuple_hash.lookup ?_)
 dsimp only
 refine wpAny_bind (wpAny_seqItems ho hd (wpAny_bind ?_))
 refine (?_:wpAny _ _ (forIn items _ _) _ _ s)
 rw [← Array.forIn_toList]
 refine wpAny_forIn_list _ (fun rest r s'=>r.1=none∧s'=s∧∀ v∈rest,∃ i t,v=Value.int i t) _ ?_ ?_ _ _ ⟨rfl,rfl,items_int hi⟩
 ·rintro v rest r s' ⟨hr,rfl,hall⟩
  obtain ⟨i,t,rfl⟩:=hall v List.mem_cons_self
  refine wpAny_bind ?_
  unfold hashByValue
  refine wpAny_pure ?_
  simp only [Bool.not_true,Bool.false_eq_true,if_false]
  exact wpAny_pure ⟨rfl,rfl,fun y hy=>hall y (List.mem_cons_of_mem _ hy)⟩
 ·rintro ⟨r1,r2⟩ s' ⟨hr,rfl,_⟩
  simp only at hr
  subst hr
  exact wpAny_pure q
theorem Jg {k:List (List Int)} {a:Addr} {Q:Bool→Shared→Prop} (hx:cC prog w s.heap k a) (q:Q true s):wpAny (model prog w) A (hashByValue 8 (.ref a)) Q E s:=by
 have hT:=hx.typ
 obtain ⟨o,items,n,ho,_,hd,hi⟩:=hx
 unfold hashByValue
 refine wpAny_bind (wpAny_specialOf hT F.slot_tuple_hash.lookup ?_)
 dsimp only
 refine wpAny_bind (wpAny_seqItems ho hd (wpAny_bind ?_))
 refine (?_:wpAny _ _ (forIn items _ _) _ _ s)
 rw [← Array.forIn_toList]
 refine wpAny_forIn_list _ (fun rest r s'=>r.1=none∧s'=s∧∀ v∈rest,∃ b k,v=Value.ref b∧IsTupleKey (intKind prog w) s.heap k b) _ ?_ ?_ _ _ ⟨rfl,rfl,hi.all⟩
 ·rintro v rest r s' ⟨hr,rfl,hall⟩
  obtain ⟨b,k,rfl,hb⟩:=hall v List.mem_cons_self
  refine wpAny_bind (DS 6 hb ?_)
  simp only [Bool.not_true,Bool.false_eq_true,if_false]
  exact wpAny_pure ⟨rfl,rfl,fun y hy=>hall y (List.mem_cons_of_mem _ hy)⟩
 ·rintro ⟨r1,r2⟩ s' ⟨hr,rfl,_⟩
  simp only at hr
  subst hr
  exact wpAny_pure q
end
def kF (prog:Program) (w:World):cL prog w (List (List Int)) where
 is:=cC prog w
 hash:=DO prog w
 draws:=ze
 room:=fun A=>A.units+8 < cLine
 typ:=fun x=>x.typ
 keeps:=fun ⟨o,items,n,ho,hc,hd,hi⟩ k=>⟨o,items,n,k _ o ho hc,hc,hd,hi.keeps k⟩
 pyHash:=fun hu hk h=>BD hu hk h
 other:=fun hu hx hy ne h=>Je hu hx hy ne h
 quiet:=fun hk h=>Jf hk h
 lA:=fun hk h=>DR hk h
 xG:=fun hk h=>Jg hk h
end PySem
namespace L3
open PySem PySem.Spec PyProof.Rows L2
def nE (w:List Pl):List (List Int):=w.map fun p=>[p.x,p.y]
theorem qY:∀ {w v:List Pl},nE w=nE v→w=v
 | [],[],_=>rfl
 | [],_ :: _,h=>by cases h
 | _ :: _,[],h=>by cases h
 | p :: w,q :: v,h=>by
   injection h with h1 h2
   injection h1 with h3 h1
   injection h1 with h4 _
   rw [qY h2]
   cases p;cases q
   simp only at h3 h4
   rw [h3,h4]
theorem vt {P:Program} {w:World} {h:Heap}:∀ {us:List Value} {ps:List Pl},dh h us ps→cA P w h (nE ps) us
 | _,_,.nil=> .nil
 | _,_,.cons a r=>by
   obtain ⟨b,rfl,k⟩:=FZ (P:=P) (w:=w) a
   exact .cons k (vt r)
theorem Gb {P:Program} {w:World} {K:PySem.W.Frag} {H:Hp} {h:Heap} {t:List Pl} {x:V} {u:Value} (ok:j3 P w H h) (d:Dat K H (tD t) x) (r:RelV x u):∃ b,u= .ref b∧cC P w h (nE t) b:=by
 obtain ⟨a,xs,rfl,ha,hx⟩:=bK.mp d
 obtain rfl:u=Value.ref a:=r
 obtain ⟨its,rv,⟨o,h1,h2,n,h3⟩,_⟩:=eX ok ha
 exact ⟨a,rfl,o,its.toArray,n,h1,h2,h3,by rw [List.toList_toArray];exact vt (i8 ok hx rv)⟩
theorem xK {P:Program} {w:World} {K:PySem.W.Frag} {H:Hp} {h:Heap} (ok:j3 P w H h):∀ {ts:List (List Pl)} {xs:List V} {us:List Value},aG K H (ts.map tD) xs→Vals xs us→∀ (i:Nat) (u:Value),us[i]?=some u→∃ t,ts[i]?=some t∧∃ b,u= .ref b∧cC P w h (nE t) b
 | [],xs,us,d,r,i,u,e=>by
   rw [aL.mp d] at r
   cases r
   simp at e
 | t :: ts,xs,us,d,r,i,u,e=>by
   obtain ⟨v,vs,rfl,d1,d2⟩:=aF.mp d
   cases r with
   | cons r rr=>
     cases i with
     | zero=>
       simp at e
       subst e
       exact ⟨t,rfl,Gb ok d1 r⟩
     | succ i=>exact xK ok d2 rr i u (by simpa using e)
section
variable {X:Cx} {pos:Pos}
end
end L3
namespace PySem.SetTable
def sN (xs:Array Nat):Prop:= ∀ (i j a b:Nat),i < j→xs[i]?=some a→xs[j]?=some b→a < b
theorem DT:sN #[]:=fun i j a b _ h _=>by simp at h
theorem DU {xs:Array Nat} (r:sN xs) (j:Nat):∀ (fuel lo hi:Nat),hi - lo≤fuel→lo≤hi→hi≤xs.size→(∀ i a,i < lo→xs[i]?=some a→a < j)→(∀ i a,hi≤i→xs[i]?=some a→j≤a)→
 below.go xs j fuel lo hi≤xs.size∧(∀ i a,i < below.go xs j fuel lo hi→xs[i]?=some a→a < j)∧∀ i a,below.go xs j fuel lo hi≤i→xs[i]?=some a→j≤a:=by
 intro fuel
 induction fuel with
 | zero=>
   intro lo hi h1 h2 h3 h4 h5
   obtain rfl:lo=hi:=by omega
   exact ⟨h3,h4,h5⟩
 | succ f ih=>
   intro lo hi h1 h2 h3 h4 h5
   unfold below.go
   by_cases c:lo < hi
   ·rw [if_pos c]
    have hm:(lo+hi) / 2 < xs.size:=by omega
    have em:xs[(lo+hi) / 2]?=some xs[(lo+hi) / 2]:=Array.getElem?_eq_getElem hm
    dsimp only
    rw [Array.getD_eq_getD_getElem?,em,Option.getD_some]
    by_cases d:xs[(lo+hi) / 2] < j
    ·rw [if_pos d]
     refine ih _ _ (by omega) (by omega) h3 (fun i a hi2 e=>?_) h5
     by_cases z:i=(lo+hi) / 2
     ·subst z
      rw [em] at e
      cases e
      exact d
     ·exact Nat.lt_trans (r i _ a _ (by omega) e em) d
    ·rw [if_neg d]
     refine ih _ _ (by omega) (by omega) (by omega) h4 fun i a hi2 e=>?_
     by_cases z:i=(lo+hi) / 2
     ·subst z
      rw [em] at e
      cases e
      omega
     ·have:=r _ i _ a (by omega) em e
      omega
   ·rw [if_neg c]
    obtain rfl:lo=hi:=by omega
    exact ⟨h3,h4,h5⟩
theorem gK {xs:Array Nat} (r:sN xs) (j:Nat):below xs j≤xs.size∧(∀ i a,i < below xs j→xs[i]?=some a→a < j)∧∀ i a,below xs j≤i→xs[i]?=some a→j≤a:=
 DU r j _ _ _ (Nat.le_refl _) (Nat.zero_le _) (Nat.le_refl _) (fun i a h _=>absurd h (Nat.not_lt_zero _)) fun i a h e=>by
  have:=(Array.getElem?_eq_some_iff.mp e).1
  omega
def Jh (t:SetTable) (j:Nat):Prop:= ∃ i:Nat,t.place[i]?=some j
theorem below_at {xs:Array Nat} (r:sN xs) {i j:Nat} (h:xs[i]?=some j):below xs j=i:=by
 obtain ⟨h1,h2,h3⟩:=gK r j
 rcases Nat.lt_trichotomy (below xs j) i with c | c | c
 ·have hb:below xs j < xs.size:=by
   have:=(Array.getElem?_eq_some_iff.mp h).1
   omega
  have eb:xs[below xs j]?=some xs[below xs j]:=Array.getElem?_eq_getElem hb
  have a:=h3 _ _ (Nat.le_refl _) eb
  have b:=r _ _ _ _ c eb h
  omega
 ·exact c
 ·have:=h2 i j c h
  omega
theorem uw {t:SetTable} (r:sN t.place) {i j:Nat} (h:t.place[i]?=some j):t.slot j= .live i:=by
 unfold slot
 dsimp only
 rw [below_at r h,h]
 simp
theorem xM {t:SetTable} (r:sN t.place) {j:Nat} (h:Jh t j):t.slot j≠ .empty:=by
 obtain ⟨i,e⟩:=h
 rw [uw r e]
 intro z
 cases z
theorem DV {t:SetTable} (hd:t.dummies= #[]) {j:Nat} (h:t.slot j≠ .empty):Jh t j:=by
 rcases qW hd j with e | ⟨i,_,e⟩
 ·exact absurd e h
 ·exact ⟨i,e⟩
theorem gM {α:Type} (xs:Array α) {p:Nat} (hp:p≤xs.size) (x:α) (i:Nat):(insertAt xs p x)[i]?=if i < p then xs[i]? else if i=p then some x else xs[i - 1]?:=by
 have e:(insertAt xs p x).toList=xs.toList.take p ++ x :: xs.toList.drop p:=by
  unfold insertAt
  rw [Array.toList_append,Array.toList_push,Array.toList_extract,Array.toList_extract]
  simp
  exact List.take_of_length_le (by rw [List.length_drop,Array.length_toList];exact Nat.le_refl _)
 rw [← Array.getElem?_toList,e]
 have lt:(xs.toList.take p).length=p:=by rw [List.length_take,Array.length_toList];omega
 by_cases h1:i < p
 ·rw [if_pos h1,List.getElem?_append_left (by omega),List.getElem?_take_of_lt h1,Array.getElem?_toList]
 ·rw [if_neg h1,List.getElem?_append_right (by omega),lt]
  by_cases h2:i=p
  ·subst h2
   rw [if_pos rfl,Nat.sub_self]
   rfl
  ·rw [if_neg h2,show i - p=(i - p - 1)+1 by omega,List.getElem?_cons_succ,List.getElem?_drop,Array.getElem?_toList]
   congr 1
   omega
theorem xN {xs:Array Nat} (r:sN xs) {j:Nat} (n:∀ i:Nat,xs[i]?≠some j):sN (insertAt xs (below xs j) j):=by
 obtain ⟨h1,h2,h3⟩:=gK r j
 have h3':∀ i a,below xs j≤i→xs[i]?=some a→j < a:=fun i a h e=>by
  have:=h3 i a h e
  rcases Nat.lt_or_ge j a with c | c
  ·exact c
  ·exact absurd (show xs[i]?=some j by rw [e];congr 1;omega) (n i)
 intro i k a b hik ha hb
 rw [gM xs h1] at ha hb
 by_cases c1:i < below xs j
 ·rw [if_pos c1] at ha
  by_cases c2:k < below xs j
  ·rw [if_pos c2] at hb
   exact r i k a b hik ha hb
  ·rw [if_neg c2] at hb
   by_cases c3:k=below xs j
   ·rw [if_pos c3] at hb
    cases hb
    exact h2 i a c1 ha
   ·rw [if_neg c3] at hb
    exact r i (k - 1) a b (by omega) ha hb
 ·rw [if_neg c1] at ha
  have c2:¬ k < below xs j:=by omega
  have c3:¬ k=below xs j:=by omega
  rw [if_neg c2,if_neg c3] at hb
  by_cases c4:i=below xs j
  ·rw [if_pos c4] at ha
   cases ha
   exact h3' (k - 1) b (by omega) hb
  ·rw [if_neg c4] at ha
   exact r (i - 1) (k - 1) a b (by omega) ha hb
theorem qZ {t u:SetTable} (h:t.mask=u.mask):∀ (k:Nat) (p:Probe),dm k t p=dm k u p
 | 0,_=>rfl
 | k+1,p=>by
   show dm k t (t.advance p)=dm k u (u.advance p)
   have e:t.advance p=u.advance p:=by unfold advance;rw [h]
   rw [e]
   exact qZ h k _
theorem rf {t u:SetTable} (h:t.mask=u.mask) (x:Int):t.probeStart x=u.probeStart x:=by unfold probeStart;rw [h]
def Way (t:SetTable) (Mn:Nat→Prop) (h:Int) (j:Nat):Prop:= ∃ K,K < 10*turns t.mask∧(dm K t (t.probeStart h)).j=j∧∀ m,m < K→Mn (dm m t (t.probeStart h)).j
theorem Way.mono {t u:SetTable} {Mn LJ:Nat→Prop} {h:Int} {j:Nat} (w:Way t Mn h j) (hm:t.mask=u.mask) (ho:∀ x,Mn x→LJ x):Way u LJ h j:=by
 obtain ⟨K,h1,h2,h3⟩:=w
 refine ⟨K,by rw [← hm];exact h1,?_,fun m P8=>ho _ ?_⟩
 ·rw [← qZ hm,← rf hm]
  exact h2
 ·rw [← qZ hm,← rf hm]
  exact h3 m P8
structure Reach (t:SetTable) (es:Array (Int ×Value)):Prop where
 rise:sN t.place
 at_:∀ (i:Nat) (e:Int ×Value),es[i]?=some e→∃ j,t.place[i]?=some j∧Way t (Jh t) e.1 j
theorem BE {t:SetTable} {es:Array (Int ×Value)} {n:Nat} (g:Good t n) (he:es.size=n) (r:Reach t es) {h:Int} {v:Value} {j:Nat} (nj:¬ Jh t j) (w:Way t (Jh t) h j):Reach (t.put j).1 (insertAt es (t.put j).2 (h,v)):=by
 have hp:below t.place j≤t.place.size:=(gK r.rise j).1
 have IE:below t.place j≤es.size:=by rw [he,← g.1];exact hp
 have keep:∀ x,Jh t x→Jh (t.put j).1 x:=fun x ⟨i,e⟩=>by
  by_cases c:i < below t.place j
  ·exact ⟨i,by show (insertAt t.place (below t.place j) j)[i]?=_;rw [gM _ hp,if_pos c];exact e⟩
  ·refine ⟨i+1,?_⟩
   show (insertAt t.place (below t.place j) j)[i+1]?=_
   rw [gM _ hp,if_neg (by omega),if_neg (by omega)]
   exact e
 refine ⟨xN r.rise fun i e=>nj ⟨i,e⟩,fun i e hi=>?_⟩
 show ∃ k,(insertAt t.place (below t.place j) j)[i]?=some k∧_
 have hi:(insertAt es (below t.place j) (h,v))[i]?=some e:=hi
 rw [gM _ IE] at hi
 rw [gM _ hp]
 by_cases c1:i < below t.place j
 ·rw [if_pos c1] at hi ⊢
  obtain ⟨k,h1,h2⟩:=r.at_ i e hi
  exact ⟨k,h1,h2.mono rfl keep⟩
 ·rw [if_neg c1] at hi ⊢
  by_cases c2:i=below t.place j
  ·rw [if_pos c2] at hi ⊢
   cases hi
   exact ⟨j,rfl,w.mono rfl keep⟩
  ·rw [if_neg c2] at hi ⊢
   obtain ⟨k,h1,h2⟩:=r.at_ (i - 1) e hi
   exact ⟨k,h1,h2.mono rfl keep⟩
theorem qg (t:SetTable):∀ (k:Nat) (p:Probe),k≤p.more→(dm k t p).j=p.j+k∧(dm k t p).more=p.more - k
 | 0,p,_=>⟨rfl,rfl⟩
 | k+1,p,h=>by
   have e:t.advance p= { p with j:=p.j+1,more:=p.more - 1 }:=by unfold advance;rw [if_pos (by omega)]
   obtain ⟨h1,h2⟩:=qg t k { p with j:=p.j+1,more:=p.more - 1 } (by show k≤p.more - 1;omega)
   refine ⟨?_,?_⟩
   ·show (dm k t (t.advance p)).j=_
    rw [e,h1]
    show p.j+1+k=_
    omega
   ·show (dm k t (t.advance p)).more=_
    rw [e,h2]
    show p.more - 1 - k=_
    omega
theorem xP {t:SetTable} {owner:Array (Option Nat)}:∀ (fuel i q j:Nat) (p:Probe),p.j=i→p.i=i→p.perturb=q→p.more=runEnd t.mask i - i→layClean.free t.mask owner fuel i q=some j→
 ∃ K,K < 10*fuel∧(dm K t p).j=j∧(owner.getD j (some 0)).isNone=true∧∀ m,m < K→(owner.getD (dm m t p).j (some 0)).isNone=false
 | 0,i,q,j,p,_,_,_,_,h=>by cases h
 | fuel+1,i,q,j,p,hj,hi,hq,hm,h=>by
   unfold layClean.free at h
   have r9:=za t.mask i
   have ri:i≤runEnd t.mask i:=by unfold runEnd;split <;> omega
   split at h
   ·rename_i k hk
    cases h
    have k1:k < runEnd t.mask i+1 - i:=List.mem_range.mp (List.mem_of_find?_eq_some hk)
    have k2:=List.find?_some (p:=fun k=>(owner.getD (i+k) (some 0)).isNone) hk
    have a:=qg t k p (by omega)
    refine ⟨k,by omega,by rw [a.1,hj],k2,fun m RJ=>?_⟩
    have b:=qg t m p (by omega)
    rw [b.1,hj]
    have:=List.find?_range_eq_some.mp hk
    obtain ⟨_,_,h3⟩:=this
    have:=h3 m RJ
    simpa using this
   ·rename_i hk
    have all:∀ k,k≤p.more→(owner.getD (i+k) (some 0)).isNone=false:=fun k hk2=>by
     exact Bool.eq_false_iff.mpr (List.find?_eq_none.mp hk k (List.mem_range.mpr (by omega)))
    have e:=y9 t p.more p rfl
    have hl:(leap t.mask i q)=((leap t.mask i q).1,(leap t.mask i q).2):=rfl
    obtain ⟨K,h1,h2,h3,h4⟩:=xP fuel (leap t.mask i q).1 (leap t.mask i q).2 j (EB t p) (by unfold EB;rw [hi,hq]) (by unfold EB;rw [hi,hq]) (by unfold EB;rw [hi,hq]) (by unfold EB;rw [hi,hq]) h
    refine ⟨p.more+1+K,by omega,?_,h3,fun m P8=>?_⟩
    ·rw [jD,e]
     exact h2
    ·by_cases c:m≤p.more
     ·rw [(qg t m p c).1,hj]
      exact all m c
     ·have:=h4 (m - (p.more+1)) (by omega)
      rw [← e,← jD,show p.more+1+(m - (p.more+1))=m by omega] at this
      exact this
theorem uz {mask i:Nat} (h:i≤mask):i≤runEnd mask i∧runEnd mask i≤mask:=by
 unfold runEnd
 split <;> omega
theorem DW (t:SetTable):∀ (k:Nat) (p:Probe),p.j+p.more≤t.mask→(dm k t p).j≤t.mask
 | 0,p,h=>by show p.j≤_;omega
 | k+1,p,h=>by
   refine DW t k (t.advance p) ?_
   unfold advance
   split
   ·show p.j+1+(p.more - 1)≤_
    omega
   ·have a:(leap t.mask p.i p.perturb).1≤t.mask:=by
     unfold leap
     exact Nat.le_of_lt_succ (Nat.mod_lt _ (Nat.succ_pos _))
    have b:=uz a
    show (leap t.mask p.i p.perturb).1+(runEnd t.mask (leap t.mask p.i p.perturb).1 - (leap t.mask p.i p.perturb).1)≤_
    omega
theorem DY (t:SetTable) (h:Int):(t.probeStart h).j+(t.probeStart h).more≤t.mask:=by
 have a:bits h % (t.mask+1)≤t.mask:=Nat.le_of_lt_succ (Nat.mod_lt _ (Nat.succ_pos _))
 have b:=uz a
 show bits h % (t.mask+1)+(runEnd t.mask (bits h % (t.mask+1)) - bits h % (t.mask+1))≤_
 omega
def Ji (owner:Array (Option Nat)) (x:Nat):Prop:= ∃ v,owner[x]?=some (some v)
structure Laid (t:SetTable) (owner:Array (Option Nat)) (done:List Int):Prop where
 own:Own t.mask owner done.length
 way:∀ (j v:Nat),owner[j]?=some (some v)→∃ h,done[v]?=some h∧Way t (Ji owner) h j
 all:∀ v,v < done.length→∃ j:Nat,owner[j]?=some (some v)
theorem DZ (t:SetTable):Laid t (Array.replicate (t.mask+1) none) []:=by
 refine ⟨FW _,fun j v e=>?_,fun v h=>absurd h (Nat.not_lt_zero _)⟩
 rw [Array.getElem?_replicate] at e
 split at e <;> cases e
theorem D0 {t:SetTable} {owner:Array (Option Nat)} {done:List Int} (L:Laid t owner done) {h:Int} {j:Nat} (hf:layClean.free t.mask owner (turns t.mask) (bits h % (t.mask+1)) (bits h)=some j) (fj:(owner.getD j (some 0)).isNone=true) :
 Laid t (owner.setIfInBounds j (some done.length)) (done ++ [h]):=by
 have lt:j < owner.size:=by
  apply Classical.byContradiction
  intro c
  simp [Array.getD,c] at fj
 have ej:owner[j]?=some none:=by
  rw [Array.getD_eq_getD_getElem?,Array.getElem?_eq_getElem lt,Option.getD_some] at fj
  rw [Array.getElem?_eq_getElem lt,Option.isNone_iff_eq_none.mp fj]
 have self:(owner.setIfInBounds j (some done.length))[j]?=some (some done.length):=Array.getElem?_setIfInBounds_self_of_lt lt
 have other:∀ x,x≠j→(owner.setIfInBounds j (some done.length))[x]?=owner[x]?:=fun x hx=>Array.getElem?_setIfInBounds_ne (Ne.symm hx)
 have keep:∀ x,Ji owner x→Ji (owner.setIfInBounds j (some done.length)) x:=fun x ⟨v,e⟩=>by
  have hx:x≠j:=fun z=>by rw [z,ej] at e;cases e
  exact ⟨v,by rw [other x hx];exact e⟩
 refine ⟨by rw [List.length_append,List.length_singleton];exact FY L.own fj,fun x v e=>?_,fun v hv=>?_⟩
 ·by_cases hx:x=j
  ·subst hx
   rw [self] at e
   cases e
   obtain ⟨K,h1,h2,_,h4⟩:=xP (turns t.mask) _ _ _ (t.probeStart h) rfl rfl rfl rfl hf
   refine ⟨h,by simp,K,h1,h2,fun m hm=>keep _ ?_⟩
   have a:=h4 m hm
   have b:=DW t m _ (DY t h)
   have c:(dm m t (t.probeStart h)).j < owner.size:=by rw [L.own.1];omega
   rw [Array.getD_eq_getD_getElem?,Array.getElem?_eq_getElem c,Option.getD_some] at a
   cases q:owner[(dm m t (t.probeStart h)).j] with
   | none=>rw [q] at a;cases a
   | some v=>exact ⟨v,by rw [Array.getElem?_eq_getElem c,q]⟩
  ·rw [other x hx] at e
   obtain ⟨h',h1,h2⟩:=L.way x v e
   refine ⟨h',?_,h2.mono rfl keep⟩
   rw [List.getElem?_append_left (List.getElem?_eq_some_iff.mp h1).1]
   exact h1
 ·rw [List.length_append,List.length_singleton] at hv
  by_cases c:v < done.length
  ·obtain ⟨x,e⟩:=L.all v c
   have hx:x≠j:=fun z=>by rw [z,ej] at e;cases e
   exact ⟨x,by rw [other x hx];exact e⟩
  ·obtain rfl:v=done.length:=by omega
   exact ⟨j,self⟩
theorem xQ {t:SetTable} (R:Round t.mask):∀ (hs done:List Int) (owner:Array (Option Nat)),Laid t owner done→done.length+hs.length≤t.mask+1→
 ∃ o',hs.foldl (fun acc h=>do let (owner,k) ← acc;let j ← layClean.free t.mask owner (turns t.mask) (bits h % (t.mask+1)) (bits h);pure (owner.setIfInBounds j (some k),k+1)) (some (owner,done.length))=some (o',done.length+hs.length)∧Laid t o' (done ++ hs)
 | [],done,owner,L,_=>⟨owner,rfl,by rw [List.append_nil];exact L⟩
 | h :: hs,done,owner,L,hl=>by
   rw [List.length_cons] at hl
   obtain ⟨j0,hj0,e0⟩:=DM L.own (by omega)
   obtain ⟨j,ej,fj⟩:=zd R hj0 e0 h
   obtain ⟨o',e',L'⟩:=xQ R hs (done ++ [h]) _ (D0 L ej fj) (by rw [List.length_append,List.length_singleton];omega)
   rw [List.append_assoc] at L'
   refine ⟨o',?_,L'⟩
   rw [List.length_append,List.length_singleton] at e'
   rw [List.foldl_cons,List.length_cons,show done.length+(hs.length+1)=done.length+1+hs.length by omega,← e']
   simp [ej]
theorem nF {mask:Nat} {owner:Array (Option Nat)} {x v:Nat}:(x,v)∈live mask owner↔x≤mask∧owner[x]?=some (some v):=by
 unfold live
 rw [List.mem_filterMap]
 constructor
 ·rintro ⟨y,hy,e⟩
  rw [Array.getD_eq_getD_getElem?] at e
  have hy:=List.mem_range.mp hy
  cases q:owner[y]? with
  | none=>rw [q] at e;cases e
  | some z=>
    rw [q] at e
    cases z with
    | none=>cases e
    | some z=>
      cases e
      exact ⟨by omega,q⟩
 ·rintro ⟨h1,h2⟩
  refine ⟨x,List.mem_range.mpr (by omega),?_⟩
  rw [Array.getD_eq_getD_getElem?,h2]
  rfl
theorem BF (mask:Nat) (owner:Array (Option Nat)):((live mask owner).map (·.1)).Pairwise (· < ·):=by
 unfold live
 rw [List.map_filterMap]
 have key:∀ l:List Nat,l.Pairwise (· < ·)→((l.filterMap fun j=>((owner.getD j none).map (j,·)).map (·.1)).Pairwise (· < ·)):=fun l=>by
  intro hp
  refine List.Pairwise.filterMap _ (fun a b hab c hc d hd=>?_) hp
  cases q:owner.getD a none with
  | none=>rw [q] at hc;cases hc
  | some z=>
    rw [q] at hc
    cases hc
    cases q2:owner.getD b none with
    | none=>rw [q2] at hd;cases hd
    | some z=>
      rw [q2] at hd
      cases hd
      exact hab
 exact key _ List.pairwise_lt_range
theorem nG {α β:Type} {f:α→Option β}:∀ {l:List α},(∀ a∈l,(f a).isSome=true)→∀ i:Nat,(l.filterMap f)[i]?=(l[i]?).bind f
 | [],_,i=>by simp
 | a :: l,h,i=>by
   obtain ⟨b,hb⟩:=Option.isSome_iff_exists.mp (h a List.mem_cons_self)
   rw [List.filterMap_cons,hb]
   cases i with
   | zero=>simp [hb]
   | succ i=>
     simp only [List.getElem?_cons_succ]
     exact nG (fun x hx=>h x (List.mem_cons_of_mem _ hx)) i
theorem vv {t:SetTable} {es:Array (Int ×Value)} {wanted:Nat} (hm:oE (sizeAbove wanted - 1)) (hn:es.size*5 < (sizeAbove wanted - 1)*3) :
 ∃ t' order,t.relaid (es.map (·.1)) wanted=some (t',order)∧Good t' es.size∧order.size=es.size∧(∀ v∈order,v < es.size)∧Reach t' (order.filterMap (es[·]?))∧(∀ e∈es.toList,e∈(order.filterMap (es[·]?)).toList)∧t'.led=t.led∧t'.plain=t.plain:=by
 obtain ⟨u,hu⟩:∃ u:SetTable,u.mask=sizeAbove wanted - 1:=⟨{ t with mask:=sizeAbove wanted - 1 },rfl⟩
 have R:Round u.mask:=by rw [hu];exact hm.round
 obtain ⟨o',e,L⟩:=xQ R (es.map (·.1)).toList [] _ (DZ u) (by rw [List.length_nil,Array.length_toList,Array.size_map];omega)
 rw [List.nil_append] at L
 have oo:=L.own
 have hlen:(es.map (·.1)).toList.length=es.size:=by rw [Array.length_toList,Array.size_map]
 rw [hlen] at oo
 rw [hu,List.length_nil] at e
 rw [hu] at oo
 have P9:∀ v∈((live (sizeAbove wanted - 1) o').map (·.2)),v < es.size:=fun v hv=>by
  obtain ⟨⟨x,y⟩,h1,rfl⟩:=List.mem_map.mp hv
  exact oo.2.2 _ _ (nF.mp h1).2
 unfold relaid laid layClean
 rw [← Array.foldl_toList,e]
 refine ⟨_,_,rfl,⟨?_,rfl,hm,hn⟩,?_,fun v hv=>?_,⟨?_,fun i e1 h1=>?_⟩,fun e1 h1=>?_,rfl,rfl⟩
 ·show (List.map _ (live _ o')).toArray.size=_
  rw [List.size_toArray,List.length_map,oo.2.1]
 ·show (List.map _ (live _ o')).toArray.size=_
  rw [List.size_toArray,List.length_map,oo.2.1]
 ·exact P9 v (Array.mem_toList_iff.mpr hv)
 ·intro i j a b hij ha hb
  have ha:((live (sizeAbove wanted - 1) o').map (·.1)).toArray[i]?=some a:=ha
  have hb:((live (sizeAbove wanted - 1) o').map (·.1)).toArray[j]?=some b:=hb
  rw [List.getElem?_toArray] at ha hb
  have p:=BF (sizeAbove wanted - 1) o'
  obtain ⟨l1,ea⟩:=List.getElem?_eq_some_iff.mp ha
  obtain ⟨l2,eb⟩:=List.getElem?_eq_some_iff.mp hb
  rw [← ea,← eb]
  exact List.pairwise_iff_getElem.mp p i j l1 l2 hij
 ·have h1:(((live (sizeAbove wanted - 1) o').map (·.2)).toArray.filterMap (es[·]?))[i]?=some e1:=h1
  rw [← Array.getElem?_toList,Array.toList_filterMap,nG (fun v hv=>by rw [Array.getElem?_eq_getElem (P9 v hv)];rfl)] at h1
  obtain ⟨v,h2,h3⟩:=Option.bind_eq_some_iff.mp h1
  have h2:((live (sizeAbove wanted - 1) o').map (·.2))[i]?=some v:=h2
  rw [List.getElem?_map] at h2
  cases q:(live (sizeAbove wanted - 1) o')[i]? with
  | none=>rw [q] at h2;cases h2
  | some xv=>
    obtain ⟨x,v'⟩:=xv
    rw [q] at h2
    obtain rfl:v'=v:=Option.some.inj h2
    refine ⟨x,?_,?_⟩
    ·show ((live (sizeAbove wanted - 1) o').map (·.1)).toArray[i]?=some x
     rw [List.getElem?_toArray,List.getElem?_map,q]
     rfl
    ·obtain ⟨h4,h5⟩:=nF.mp (List.mem_of_getElem? q)
     obtain ⟨h,h6,h7⟩:=L.way x v' h5
     have eh:h=e1.1:=by
      rw [Array.getElem?_toList,Array.getElem?_map,h3] at h6
      exact (Option.some.inj h6).symm
     subst eh
     refine h7.mono hu fun y ⟨w,hw⟩=>?_
     have hy:y≤sizeAbove wanted - 1:=by
      have:=(Array.getElem?_eq_some_iff.mp hw).1
      rw [oo.1] at this
      omega
     obtain ⟨k,hk⟩:=List.getElem?_of_mem (nF.mpr ⟨hy,hw⟩)
     refine ⟨k,?_⟩
     show ((live (sizeAbove wanted - 1) o').map (·.1)).toArray[k]?=some y
     rw [List.getElem?_toArray,List.getElem?_map,hk]
     rfl
 ·obtain ⟨v,hv⟩:=List.getElem?_of_mem h1
  rw [Array.getElem?_toList] at hv
  have lv:=(Array.getElem?_eq_some_iff.mp hv).1
  obtain ⟨x,hx⟩:=L.all v (by rw [hlen];exact lv)
  have RK:x≤sizeAbove wanted - 1:=by
   have:=(Array.getElem?_eq_some_iff.mp hx).1
   rw [oo.1] at this
   omega
  show e1∈(((live (sizeAbove wanted - 1) o').map (·.2)).toArray.filterMap (es[·]?)).toList
  rw [Array.toList_filterMap,List.mem_filterMap]
  exact ⟨v,List.mem_map.mpr ⟨(x,v),nF.mpr ⟨RK,hx⟩,rfl⟩,hv⟩
end PySem.SetTable
namespace PySem
open SetTable
structure ig {prog:Program} {w:World} {κ:Type} (T:cL prog w κ):Prop where
 same:∀ {A:Around} {E:Value→Shared→Prop} {s:Shared} {k:κ} {a b:Addr} {Q:Bool→Shared→Prop},T.room A→T.is s.heap k a→T.is s.heap k b→Q true s→wpAny (model prog w) A (eqBool (.ref a) (.ref b)) Q E s
theorem D3 {t:SetTable} {hashAt:Nat→Int} {h:Int} (hd:t.dummies= #[]):∀ (k fuel:Nat) (p:Probe),k < fuel→(∀ m,m < k→t.slot (dm m t p).j≠ .empty)→p.dummy=none→
 (t.slot (dm k t p).j= .empty∨∃ i,t.slot (dm k t p).j= .live i∧t.place[i]?=some (dm k t p).j∧hashAt i=h)→
 (t.slot (dm k t p).j= .empty∧probe.go t hashAt h fuel p=some (.empty (dm k t p).j none))∨
 ∃ m i,m≤k∧probe.go t hashAt h fuel p=some (.candidate (dm m t p).j i (dm (m+1) t p))∧t.slot (dm m t p).j= .live i∧t.place[i]?=some (dm m t p).j:=by
 intro k
 induction k with
 | zero=>
   intro fuel p hf hp hn he
   cases fuel with
   | zero=>omega
   | succ f=>
     rcases he with e | ⟨i,e,ep,eh⟩
     ·refine .inl ⟨e,?_⟩
      unfold probe.go
      rw [show t.slot p.j= .empty from e,hn]
      rfl
     ·refine .inr ⟨0,i,Nat.le_refl _,?_,e,ep⟩
      unfold probe.go
      rw [show t.slot p.j= .live i from e]
      simp only [eh,beq_self_eq_true,if_true]
      rfl
 | succ k ih=>
   intro fuel p hf hp hn he
   cases fuel with
   | zero=>omega
   | succ f=>
     rcases qW hd p.j with e | ⟨i,e,ei⟩
     ·exact absurd e (hp 0 (Nat.succ_pos _))
     ·by_cases c:(hashAt i == h)=true
      ·refine .inr ⟨0,i,Nat.zero_le _,?_,e,ei⟩
       unfold probe.go
       rw [e]
       simp only [c,if_true]
       rfl
      ·have eg:probe.go t hashAt h (f+1) p=probe.go t hashAt h f (t.advance p):=by
        conv=>lhs;unfold probe.go
        rw [e]
        simp only [c]
        rfl
       rw [eg]
       rcases ih f (t.advance p) (by omega) (fun m hm=>hp (m+1) (by omega)) ((uv t p).trans hn) he with ⟨e1,e2⟩ | ⟨m,i',h1,h2,h3,h4⟩
       ·exact .inl ⟨e1,e2⟩
       ·exact .inr ⟨m+1,i',by omega,h2,h3,h4⟩
section
variable {prog:Program} {w:World} {κ:Type} {T:cL prog w κ} {A:Around} {E:Value→Shared→Prop} {s:Shared}
theorem rj (TS:ig T) {S a:Addr} {o:Obj} {es:Array (Int ×Value)} {ep:Nat} {t:SetTable} {k:κ} {h:Int} {K:Nat} {Q:SetFound→Shared→Prop} (hr:T.room A) (ho:s.heap.get? S=some o) (hd:o.data= .set es ep t) (g:t.Good es.size)
 (hx:T.is s.heap k a) (hes:∀ e∈es.toList,∃ b l,e.2= .ref b∧T.is s.heap l b∧(l=k→Q (.there none) s)) (hK:K < 10*turns t.mask) (hp:∀ m,m < K→t.slot (dm m t (t.probeStart h)).j≠ .empty)
 (hf:(t.slot (dm K t (t.probeStart h)).j= .empty∧Q (.free (dm K t (t.probeStart h)).j false) s)∨∃ i b,t.slot (dm K t (t.probeStart h)).j= .live i∧t.place[i]?=some (dm K t (t.probeStart h)).j∧es[i]?=some (h,.ref b)∧T.is s.heap k b∧Q (.there none) s) :
 ∀ (d m fuel:Nat) (D4:Option Probe),K=m+d→d < fuel→D4.getD (t.probeStart h)=dm m t (t.probeStart h)→wpAny (model prog w) A (setSearchFrom S (.ref a) h true fuel D4) Q E s:=by
 intro d
 induction d using Nat.strongRecOn with
 | ind d ih=>
   intro m fuel D4 e1 e2 e3
   cases fuel with
   | zero=>omega
   | succ f=>
     unfold setSearchFrom
     refine wpAny_bind (wpAny_setState_of ho hd g.fits ?_)
     have gw:t.gaveWay=false:=by
      unfold SetTable.gaveWay
      rcases g.2.2.1 with z | z | z | z <;> rw [z] <;> rfl
     simp only [gw,Bool.false_eq_true,if_false]
     rw [e3]
     have ek:dm d t (dm m t (t.probeStart h))=dm K t (t.probeStart h):=by rw [← jD,← e1]
     have key:∀ (H:Nat→Int) (r:Option Met),(∀ (i:Nat) (b:Addr),es[i]?=some (h,Value.ref b)→H i=h)→t.probe H h (dm m t (t.probeStart h))=r→
      (t.slot (dm K t (t.probeStart h)).j= .empty∧r=some (.empty (dm K t (t.probeStart h)).j none))∨∃ m' i,m'≤d∧r=some (.candidate (dm m' t (dm m t (t.probeStart h))).j i (dm (m'+1) t (dm m t (t.probeStart h))))∧t.slot (dm m' t (dm m t (t.probeStart h))).j= .live i∧t.place[i]?=some (dm m' t (dm m t (t.probeStart h))).j:=fun H r hH e=>by
      rw [← e]
      have:=D3 (hashAt:=H) (h:=h) g.2.1 d (10*turns t.mask) (dm m t (t.probeStart h)) (by omega) (fun m' hm'=>by rw [← jD];exact hp (m+m') (by omega)) (qV t m _) (by
       rw [ek]
       rcases hf with ⟨z,_⟩ | ⟨i,b,z1,z2,z3,_⟩
       ·exact .inl z
       ·exact .inr ⟨i,z1,z2,hH i b z3⟩)
      rw [ek] at this
      exact this
     have hH:∀ (i:Nat) (b:Addr),es[i]?=some (h,Value.ref b)→((es[i]?.map fun e:Int ×Value=>e.1).getD 0)=h:=fun i b e=>by rw [e];rfl
     split
     ·rename_i met heq
      rcases key _ _ (fun i b e=>hH i b e) heq with ⟨z,e⟩ | ⟨m',i,h1,e,hl,G8⟩
      ·cases e
       rcases hf with ⟨_,q⟩ | ⟨i,b,z1,_⟩
       ·exact wpAny_pure q
       ·rw [z1] at z;cases z
      ·cases e
       have hi:i < es.size:=by
        have:=(Array.getElem?_eq_some_iff.mp G8).1
        rw [g.1] at this
        exact this
       obtain ⟨b,l,eb,hb,hq⟩:=hes es[i] (Array.mem_toList_iff.mpr (Array.getElem_mem hi))
       have ey:es[i]?=some (es[i].1,Value.ref b):=by rw [Array.getElem?_eq_getElem hi,← eb]
       have sm:t.sameMemory t.moves t.mask=some true:=by unfold sameMemory;simp
       have go:wpAny (model prog w) A (do
        let equal ← holding [Value.ref b] (eqBool (.ref b) (.ref a))
        let (es',_,t') ← setState S
        if true && equal then return .there none
        let some same:=t'.sameMemory t.moves t.mask | unsupported "set.changed-during-lookup:is-the-new-block-at-the-old-address"
        let LK ← match (if same then t'.slot (dm m' t (dm m t (t.probeStart h))).j else .empty) with
         | .live i'=>match es'[i']? with
           | some (_,y')=>do pure (if ← isSame y' (Value.ref b) then some i' else none)
           | none=>pure none
         | _=>pure none
        match LK with
        | none=>rule "set.search.anew";setSearchFrom S (.ref a) h true f none
        | some i'=>if equal then return .there (some i') else setSearchFrom S (.ref a) h true f (some (dm (m'+1) t (dm m t (t.probeStart h))))) Q E s:=by
        by_cases c:l=k
        ·subst c
         refine wpAny_bind (wpAny_holding (TS.same hr hb hx ?_))
         refine wpAny_bind (wpAny_setState_of ho hd g.fits ?_)
         simp only [Bool.and_self,if_true]
         exact wpAny_pure (hq rfl)
        ·by_cases md:m'=d
         ·subst md
          rcases hf with ⟨z,_⟩ | ⟨i0,b0,z1,z2,z3,z4,z5⟩
          ·rw [← ek] at z
           rw [hl] at z
           cases z
          ·rw [← ek,hl] at z1
           cases z1
           rw [ey] at z3
           cases z3
           refine wpAny_bind (wpAny_holding (TS.same hr z4 hx ?_))
           refine wpAny_bind (wpAny_setState_of ho hd g.fits ?_)
           simp only [Bool.and_self,if_true]
           exact wpAny_pure z5
         ·refine wpAny_bind (wpAny_holding (T.other hr hb hx c ?_))
          refine wpAny_bind (wpAny_setState_of ho hd g.fits ?_)
          simp only [Bool.and_false,Bool.false_eq_true,if_false,sm,if_true,hl,ey]
          refine wpAny_bind (wpAny_isSame_ref_self ?_)
          refine wpAny_bind (wpAny_pure ?_)
          simp only [if_true,Bool.false_eq_true,if_false]
          exact ih (d - (m'+1)) (by omega) (m+(m'+1)) f (some _) (by omega) (by omega) (by show dm (m'+1) t (dm m t (t.probeStart h))=_;rw [← jD])
       dsimp only
       refine wpAny_ite ?_
       split
       ·refine wpAny_bind (DN hx ?_ _ fun y hy=>?_)
        rotate_left
        ·obtain ⟨e,he,rfl⟩:=List.mem_map.mp hy
         have he:=(Array.mem_filter.mp (Array.mem_toList_iff.mp he)).1
         obtain ⟨b,l,eb,hb,_⟩:=hes e (Array.mem_toList_iff.mpr he)
         exact ⟨b,l,eb,hb⟩
        simp only [Bool.false_eq_true,if_false]
        rw [ey]
        exact go
       ·rw [ey]
        exact go
     ·rename_i heq
      rcases key _ _ (fun i b e=>hH i b e) rfl with ⟨z,e⟩ | ⟨m',i,h1,e,hl,G8⟩
      ·exact (heq _ e).elim
      ·exact (heq _ e).elim
theorem vz {S:Addr} {o:Obj} {es es1:Array (Int ×Value)} {ep n1:Nat} {t t1:SetTable} {Q:Bool→Shared→Prop} (ho:s.heap.get? S=some o) (hex:o.ExactSet) (hd:o.data= .set es ep t) (OP:es1.size≤306) (h0:0 < es1.size) (en:n1=es1.size)
 (hp:t1.place.size=es1.size) (Mq:t1.dummies= #[]) (hm:oE t1.mask) (hb:(es1.size - 1)*5 < t1.mask*3) (hR:SetTable.Reach t1 es1)
 (h:∀ (h':Heap) (o':Obj) (es':Array (Int ×Value)) (Hy:Nat) (t':SetTable),Heap.SameBut S s.heap h'→h'.get? S=some o'→o'.ExactSet→o'.data= .set es' Hy t'→t'.Good es'.size→es'.size=es1.size→
  (∀ e∈es'.toList,e∈es1.toList)→(∀ e∈es1.toList,e∈es'.toList)→SetTable.Reach t' es'→t'.led=t1.led→t'.plain=t1.plain→Q true { s with heap:=h' }) :
 wpAny (model prog w) A (do
  storeSet S es1 t1
  if (!false && t1.tooFull)=true then do
   setRelay S (grown n1)
   pure true
  else pure true) Q E s:=by
 subst en
 have OQ:t1.fits es1.size=true:=by
  unfold SetTable.fits fill
  rw [hp,Mq]
  rcases hm with z | z | z | z <;> rw [z] at hb ⊢ <;> simp <;> omega
 have szl:es1.size≤sizeLine:=by rw [sizeLine_eq];omega
 refine wpAny_bind (wpAny_storeSet_of ho hd ?_ szl)
 have Mr:(s.heap.update S (Obj.putSet es1 t1)).get? S=some { o with data:= .set es1 (ep+1) t1 }:=by
  have:=Heap.get?_update_self (Obj.putSet es1 t1) ho (by rw [putSet_of es1 t1 hd];rfl)
  rw [putSet_of es1 t1 hd] at this
  exact this
 have Lg:=Heap.SameBut.update s.heap S (Obj.putSet es1 t1)
 by_cases c:t1.tooFull=true
 ·rw [c]
  simp only [Bool.not_false,Bool.and_self,if_true]
  have c':t1.mask*3≤es1.size*5:=by
   unfold tooFull fill at c
   rw [hp,Mq] at c
   simpa using c
  obtain ⟨hm2,hn2⟩:oE (sizeAbove (grown es1.size) - 1)∧es1.size*5 < (sizeAbove (grown es1.size) - 1)*3:=by
   rcases hm with z | z | z | z
   ·have e5:es1.size=5:=by omega
    rw [e5]
    exact ⟨.inr (.inl (by decide)),by decide⟩
   ·have e5:es1.size=19:=by omega
    rw [e5]
    exact ⟨.inr (.inr (.inl (by decide))),by decide⟩
   ·have e5:es1.size=77:=by omega
    rw [e5]
    exact ⟨.inr (.inr (.inr (by decide))),by decide⟩
   ·omega
  have small:¬ sizeAbove (grown es1.size) > sizeLine:=by
   rw [sizeLine_eq]
   rcases hm2 with z | z | z | z <;> omega
  obtain ⟨t2,order,er,g2,so,lo,R2,C2,ld,pl⟩:=vv (t:=t1) (es:=es1) (wanted:=grown es1.size) hm2 hn2
  have Ba:(order.filterMap (es1[·]?)).size=es1.size:=by
   have key:∀ l:List Nat,(∀ v∈l,v < es1.size)→(l.filterMap (es1[·]?)).length=l.length:=fun l=>by
    induction l with
    | nil=>intro _;rfl
    | cons v l ih=>
      intro hv
      have lv:=hv v (by simp)
      rw [List.filterMap_cons,Array.getElem?_eq_getElem lv]
      simp only [List.length_cons]
      rw [ih fun u hu=>hv u (List.mem_cons_of_mem _ hu)]
   rw [← Array.length_toList,Array.toList_filterMap,key _ fun v hv=>lo v (Array.mem_toList_iff.mp hv),Array.length_toList]
   exact so
  have D5:∀ e∈(order.filterMap (es1[·]?)).toList,e∈es1.toList:=fun e he=>by
   rw [Array.toList_filterMap] at he
   obtain ⟨v,_,hv⟩:=List.mem_filterMap.mp he
   exact Array.mem_toList_iff.mpr (Array.mem_of_getElem? hv)
  unfold setRelay
  refine wpAny_bind (wpAny_bind (wpAny_setState_of Mr rfl OQ ?_))
  dsimp only
  rw [if_neg small,er]
  refine wpAny_bind ?_
  show wpAny _ _ (if ((order.filterMap (es1[·]?)).size !=es1.size)=true then _ else _) _ _ _
  rw [if_neg (by rw [Ba];simp)]
  refine wpAny_pure ?_
  dsimp only
  generalize order.filterMap (es1[·]?)=JX at Ba D5 R2 C2
  refine wpAny_storeSet_of Mr rfl ?_ (by rw [Ba];exact szl)
  have hd1:({ o with data:= .set es1 (ep+1) t1 }:Obj).data= .set es1 (ep+1) t1:=rfl
  have ho2:((s.heap.update S (Obj.putSet es1 t1)).update S (Obj.putSet JX t2)).get? S=some { o with data:= .set JX (ep+2) t2 }:=by
   have:=Heap.get?_update_self (Obj.putSet JX t2) Mr (by rw [putSet_of JX t2 hd1];rfl)
   rw [putSet_of JX t2 hd1] at this
   exact this
  refine wpAny_pure (h _ _ JX (ep+2) t2 (Lg.trans (Heap.SameBut.update _ S _)) ho2 hex rfl (by rw [Ba];exact g2) Ba D5 C2 R2 ld pl)
 ·rw [show t1.tooFull=false by simpa using c]
  simp only [Bool.not_false,Bool.and_false,Bool.false_eq_true,if_false]
  refine wpAny_pure (h _ _ es1 (ep+1) t1 Lg Mr hex rfl ⟨hp,Mq,hm,?_⟩ rfl (fun e he=>he) (fun e he=>he) hR rfl rfl)
  unfold tooFull fill at c
  rw [hp,Mq] at c
  simpa using c
theorem least {P:Nat→Prop}:∀ n,P n→∃ K,K≤n∧P K∧∀ m,m < K→¬ P m:=by
 intro n
 induction n using Nat.strongRecOn with
 | ind n ih=>
   intro h
   by_cases c:∃ m,m < n∧P m
   ·obtain ⟨m,h1,h2⟩:=c
    obtain ⟨K,h3,h4,h5⟩:=ih m h1 h2
    exact ⟨K,by omega,h4,h5⟩
   ·exact ⟨n,Nat.le_refl _,h,fun m hm hP=>c ⟨m,hm,hP⟩⟩
def BG {prog:Program} {w:World} {κ:Type} (T:cL prog w κ) (h:Heap) (S:Addr) (led:Bool) (ls:List κ):Prop:=
 ∃ o es ep t,h.get? S=some o∧o.ExactSet∧o.data= .set es ep t∧t.Good es.size∧SetTable.Reach t es∧t.led=led∧t.plain=true∧es.size=ls.length∧
   (∀ e∈es.toList,∃ b l,e=(T.hash l,.ref b)∧T.is h l b∧l∈ls)∧∀ l∈ls,∃ e∈es.toList,∃ b,e=(T.hash l,.ref b)∧T.is h l b
theorem BG.moved {s s':Shared} {S:Addr} {led:Bool} {ls:List κ} (h:BG T s.heap S led ls) (mv:∀ b o,s.heap.get? b=some o→(b=S∨o.cls= .type "tuple")→s'.heap.get? b=some o):BG T s'.heap S led ls:=by
 obtain ⟨o,es,ep,t,ho,hex,hd,g,R,hl,hp,sz,c1,c2⟩:=h
 refine ⟨o,es,ep,t,mv S o ho (.inl rfl),hex,hd,g,R,hl,hp,sz,fun e h1=>?_,fun l h1=>?_⟩
 ·obtain ⟨b,l,h2,h3,h4⟩:=c1 e h1
  exact ⟨b,l,h2,T.keeps h3 fun b o e c=>mv b o e (.inr c),h4⟩
 ·obtain ⟨e,h2,b,h3,h4⟩:=c2 l h1
  exact ⟨e,h2,b,h3,T.keeps h4 fun b o e c=>mv b o e (.inr c)⟩
theorem Gd (TS:ig T) {S a:Addr} {led:Bool} {ls:List κ} {k:κ} {Q:Bool→Shared→Prop} (hr:T.room A) (hS:BG T s.heap S led ls) (hx:T.is s.heap k a) (hn:ls.length < 306)
 (h1:k∈ls→Q false { s with toks:=s.toks+T.draws k })
 (h2:k∉ls→∀ h',Heap.SameBut S s.heap h'→(∃ o,s.heap.get? S=some o∧o.cls= .type "set")→BG T h' S led (k :: ls)→Q true { s with heap:=h',toks:=s.toks+T.draws k }) :
 wpAny (model prog w) A (setAdd S (.ref a)) Q E s:=by
 obtain ⟨o,es,ep,t,ho,hex,hd,g,R,hl,hp,sz,c1,c2⟩:=hS
 unfold setAdd
 refine wpAny_holding (wpAny_bind (T.pyHash hr hx ?_))
 unfold setAddHashed setAddHashedIn
 refine wpAny_holding (wpAny_bind (wpAny_setState_of (s:={ s with toks:=s.toks+T.draws k }) ho hd g.fits ?_))
 dsimp only
 rw [show byScan (Value.ref a) es=false from rfl]
 simp only [Bool.false_eq_true,if_false]
 unfold setSearch
 by_cases hk:k∈ls
 ·obtain ⟨e,he,b,rfl,hb⟩:=c2 k hk
  obtain ⟨i,hi⟩:=List.getElem?_of_mem he
  rw [Array.getElem?_toList] at hi
  obtain ⟨j,hj,K,hK,ej,hw⟩:=R.at_ i _ hi
  have KD:K < 100000:=by
   unfold turns at hK
   rcases g.2.2.1 with z | z | z | z <;> rw [z] at hK <;> omega
  have qq:=h1 hk
  refine wpAny_bind (rj (s:={ s with toks:=s.toks+T.draws k }) TS hr ho hd g hx (fun e h3=>?_) hK (fun m hm=>xM R.rise (hw m hm)) (.inr ⟨i,b,?_,?_,hi,hb,?_⟩) K 0 100000 none (by omega) KD rfl)
  ·obtain ⟨b',l,rfl,h5,_⟩:=c1 e h3
   exact ⟨b',l,rfl,h5,fun _=>wpAny_pure qq⟩
  ·have ej:(dm K t (t.probeStart (T.hash k))).j=j:=ej
   rw [ej]
   exact uw R.rise hj
  ·have ej:(dm K t (t.probeStart (T.hash k))).j=j:=ej
   rw [ej]
   exact hj
  ·exact wpAny_pure qq
 ·obtain ⟨K0,Tp,RL⟩:=DJ g (T.hash k)
  obtain ⟨K,hKK,hf,hmin⟩:=least (P:=fun m=>t.slot (dm m t (t.probeStart (T.hash k))).j= .empty) K0 RL
  have hK:K < 10*turns t.mask:=by omega
  have KD:K < 100000:=by
   unfold turns at hK
   rcases g.2.2.1 with z | z | z | z <;> rw [z] at hK <;> omega
  have no:∀ e∈es.toList,∃ b l,e.2= .ref b∧T.is s.heap l b∧l≠k:=fun e h3=>by
   obtain ⟨b',l,rfl,h5,h6⟩:=c1 e h3
   exact ⟨b',l,rfl,h5,fun z=>hk (z▸h6)⟩
  refine wpAny_bind (rj (s:={ s with toks:=s.toks+T.draws k }) TS hr ho hd g hx (fun e h3=>?_) hK hmin (.inl ⟨hf,?_⟩) K 0 100000 none (by omega) KD rfl)
  ·obtain ⟨b',l,h4,h5,h6⟩:=no e h3
   exact ⟨b',l,h4,h5,fun z=>absurd z h6⟩
  generalize ej:(dm K t (t.probeStart (T.hash k))).j=j at hf
  dsimp only
  refine wpAny_bind (wpAny_setState_of (s:={ s with toks:=s.toks+T.draws k }) ho hd g.fits ?_)
  dsimp only
  have sp:(insertAt es (t.put j).2 (T.hash k,Value.ref a)).size=es.size+1:=by
   have:=(insertAt_perm es (t.put j).2 (T.hash k,Value.ref a)).length_eq
   rw [Array.length_toList,Array.length_toList,Array.size_push] at this
   exact this
  have mp:∀ e,e∈(insertAt es (t.put j).2 (T.hash k,Value.ref a)).toList↔e∈es.toList∨e=(T.hash k,.ref a):=fun e=>by
   rw [(insertAt_perm es (t.put j).2 (T.hash k,Value.ref a)).mem_iff,Array.toList_push,List.mem_append,List.mem_singleton]
  have pp:(t.put j).1.place.size=es.size+1:=by
   have:=(insertAt_perm t.place (below t.place j) j).length_eq
   rw [Array.length_toList,Array.length_toList,Array.size_push,g.1] at this
   exact this
  have pd:(t.put j).1.dummies= #[]:=by
   show (if has t.dummies j then _ else t.dummies)= #[]
   rw [g.2.1,if_neg (by unfold has;simp)]
  have pm:(t.put j).1.mask=t.mask:=rfl
  have rp:SetTable.Reach (t.put j).1 (insertAt es (t.put j).2 (T.hash k,Value.ref a)):=BE g rfl R (fun z=>xM R.rise z hf) ⟨K,hK,ej,fun m hm=>DV g.2.1 (hmin m hm)⟩
  have fin:∀ n1,n1=es.size+1→wpAny (model prog w) A (do
   storeSet S (insertAt es (t.put j).2 (T.hash k,Value.ref a)) (t.put j).1
   if (!false && (t.put j).1.tooFull)=true then do
    setRelay S (grown n1)
    pure true
   else pure true) Q E { s with toks:=s.toks+T.draws k }:=fun n1 e1=>by
   refine vz (s:={ s with toks:=s.toks+T.draws k }) ho hex hd (by rw [sp];omega) (by rw [sp];omega) (by rw [sp];exact e1) (by rw [sp];exact pp) pd (by rw [pm];exact g.2.2.1) (by rw [sp,pm];exact g.2.2.2) rp fun h' o' es' Hy t' q1 q2 q3 q4 q5 q6 q7 q8 q9 N8 RM=>?_
   have kp:∀ c o2,s.heap.get? c=some o2→o2.cls= .type "tuple"→h'.get? c=some o2:=fun c o2 e z=>by
    have ne:c≠S:=fun h=>by
     subst h
     rw [ho] at e
     cases e
     rw [hex.1] at z
     injection z with z
     exact absurd z (by decide)
    rw [q1.2 c ne]
    exact e
   refine h2 hk h' q1 ⟨o,ho,hex.1⟩ ⟨o',es',Hy,t',q2,q3,q4,q5,q9,by rw [N8];exact hl,by rw [RM];exact hp,by rw [q6,sp,sz];rfl,fun e h3=>?_,fun l h3=>?_⟩
   ·rcases (mp e).mp (q7 e h3) with h4 | rfl
    ·obtain ⟨b',l,h5,h6,h7⟩:=c1 e h4
     exact ⟨b',l,h5,T.keeps h6 kp,List.mem_cons_of_mem _ h7⟩
    ·exact ⟨a,k,rfl,T.keeps hx kp,List.mem_cons_self⟩
   ·rcases List.mem_cons.mp h3 with rfl | h3
    ·exact ⟨_,q8 _ ((mp _).mpr (.inr rfl)),a,rfl,T.keeps hx kp⟩
    ·obtain ⟨e,h4,b',h5,h6⟩:=c2 l h3
     exact ⟨e,q8 _ ((mp _).mpr (.inl h4)),b',h5,T.keeps h6 kp⟩
  have RN:(t.put j).1.plain=true:=hp
  rw [RN]
  simp only [if_true]
  refine wpAny_bind (T.xG (s:={ s with toks:=s.toks+T.draws k }) hx ?_)
  simp only [if_true]
  exact fin _ rfl
end
end PySem
namespace PySem
open SetTable
def Ms {prog:Program} {w:World} {κ:Type} (T:cL prog w κ) (h:Heap) (S:Addr) (led:Bool) (i:Nat) (key:Nat→κ):Prop:= ∃ ls:List κ,ls.Nodup∧(∀ l,l∈ls↔∃ j,j < i∧key j=l)∧BG T h S led ls
section
variable {prog:Program} {w:World} {κ:Type} {T:cL prog w κ} {A:Around} {R:Result→Shared→Prop} {I:Addr} {fp wr:List Addr} {G:Array GenState→Array GenState→Prop} {n:Nat} {P:Nat→Value→Prop} {St:Nat→Shared→Prop}
theorem o8 {α:Type}:∀ (l:List α) (i:Nat) (f:Nat→α),l.Nodup→(∀ x∈l,∃ j,j < i∧f j=x)→l.length≤i:=by
 intro l i f nd h
 have:∃ m:List Nat,m.Nodup∧m.length=l.length∧(∀ x∈m,x < i)∧m.map f=l:=by
  induction l with
  | nil=>exact ⟨[],List.nodup_nil,rfl,(fun _ z=>by cases z),rfl⟩
  | cons a l ih=>
    obtain ⟨ha,nd⟩:=List.nodup_cons.mp nd
    obtain ⟨m,h1,h2,h3,h4⟩:=ih nd fun x hx=>h x (List.mem_cons_of_mem _ hx)
    obtain ⟨j,hj,e⟩:=h a List.mem_cons_self
    refine ⟨j :: m,List.nodup_cons.mpr ⟨fun z=>ha ?_,h1⟩,by simp [h2],fun x hx=>?_,by rw [List.map_cons,h4,e]⟩
    ·rw [← h4,← e]
     exact List.mem_map.mpr ⟨j,z,rfl⟩
    ·rcases List.mem_cons.mp hx with rfl | hx
     ·exact hj
     ·exact h3 x hx
 obtain ⟨m,h1,h2,h3,_⟩:=this
 have:=len_sub (m:=List.range i) h1 fun x hx=>List.mem_range.mpr (h3 x hx)
 rw [List.length_range] at this
 omega
theorem BH (W:WalksS prog w A.in1 I fp wr G n P St) (hwr:∀ i s,St i s→∀ b∈wr,∀ o,s.heap.get? b=some o→o.cls≠ .type "tuple") {S:Addr} (hSf:S∉fp) (key:Nat→κ) (TS:ig T) (hr:T.room A.in1) (OP:n≤306) (led:Bool) :
 ∀ (d i:Nat) (s:Shared),n - i=d→i≤n→St i s→Ms T s.heap S led i key→(∀ j v,P j v→∃ b,v= .ref b∧T.is s.heap (key j) b)→
   (∀ s',Moved (S :: wr) G s s'→Ms T s'.heap S led n key→R (.ok (.ret .none)) s')→codeAny (model prog w) A (.builtin "set.update.loop" ⟨[.ref S,.ref I],[]⟩) R s:=by
 have RO:S∉wr:=fun h=>hSf (W.sub _ h)
 have up:∀ b∈wr,b∈S :: wr:=fun b hb=>List.mem_cons_of_mem _ hb
 have OR:∀ {i:Nat} {s s':Shared},St i s→Moved wr G s s'→∀ b o,s.heap.get? b=some o→(b=S∨o.cls= .type "tuple")→s'.heap.get? b=some o:=fun st mv b o e c=>mv.heap b o (fun hb=>by
  rcases c with c | c
  ·exact RO (c▸hb)
  ·exact hwr _ _ st b hb o e c) e
 intro d
 induction d with
 | zero=>
   intro i s e0 hi st ⟨ls,nd,mem,hS⟩ hI hR
   obtain rfl:i=n:=by omega
   refine codeAny_builtin PyProof.Rows.F.entry_set_update_loop ?_
   rw [Around.under_plainId PyProof.Rows.F.plain_set_update_loop _]
   show wpAny _ A.in1 (pyNext (.ref I) >>= _) _ _ s
   refine wpAny_bind (W.done s _ _ st fun s' mv=>?_)
   exact wpAny_pure (hR s' (mv.mono up) ⟨ls,nd,mem,hS.moved (OR st mv)⟩)
 | succ d ih=>
   intro i s e0 hi st ⟨ls,nd,mem,hS⟩ hI hR
   have lt:i < n:=by omega
   have short:=o8 ls i key nd fun x hx=>(mem x).mp hx
   refine codeAny_builtin PyProof.Rows.F.entry_set_update_loop ?_
   rw [Around.under_plainId PyProof.Rows.F.plain_set_update_loop _]
   show wpAny _ A.in1 (pyNext (.ref I) >>= _) _ _ s
   refine wpAny_bind (W.item i s _ _ lt st fun v s1 hP st1 mv=>?_)
   have Qa:=hS.moved (OR st mv)
   have JT:∀ j v,P j v→∃ b,v= .ref b∧T.is s1.heap (key j) b:=fun j v h=>by
    obtain ⟨b,e,hb⟩:=hI j v h
    exact ⟨b,e,T.keeps hb fun c o e z=>OR st mv c o e (.inr z)⟩
   obtain ⟨b,rfl,hb⟩:=JT i v hP
   show wpAny _ A.in1 (holding [Value.ref b] (setAdd S (.ref b)) >>= _) _ _ s1
   refine wpAny_bind (wpAny_holding (Gd TS hr Qa hb (by omega) (fun hk=>?_) fun hk h' sb OS Ge=>?_))
   ·refine wpAny_pure ⟨plainId_quiet PyProof.Rows.F.plain_set_update_loop _,ih (i+1) _ (by omega) lt (W.frame _ s1 _ _ st1 (Nat.le_add_right _ _) fun c hc o e=>e) ⟨ls,nd,fun l=>?_,Qa⟩ (fun j v h=>JT j v h) fun s2 OT Ge=>?_⟩
    ·rw [mem l]
     constructor
     ·rintro ⟨j,h1,h2⟩
      exact ⟨j,by omega,h2⟩
     ·rintro ⟨j,h1,h2⟩
      by_cases c:j < i
      ·exact ⟨j,c,h2⟩
      ·obtain rfl:j=i:=by omega
       subst h2
       exact (mem _).mp hk
    ·exact hR s2 (Moved.trans W.gtrans ((mv.mono up).then_heap (Nat.le_add_right _ _) fun c o hc e=>e) OT) Ge
   obtain ⟨oS,hoS,hcS⟩:=OS
   have kp:∀ c o,s1.heap.get? c=some o→o.cls= .type "tuple"→h'.get? c=some o:=fun c o2 e z=>by
    have ne:c≠S:=fun h=>by
     subst h
     rw [hoS] at e
     cases e
     rw [hcS] at z
     injection z with z
     exact absurd z (by decide)
    rw [sb.2 c ne]
    exact e
   refine wpAny_pure ⟨plainId_quiet PyProof.Rows.F.plain_set_update_loop _,ih (i+1) _ (by omega) lt (W.frame _ s1 _ _ st1 (Nat.le_add_right _ _) fun c hc o e=>?_) ⟨key i :: ls,List.nodup_cons.mpr ⟨hk,nd⟩,fun l=>?_,Ge⟩ (fun j v h=>?_) fun s2 OT RP=>?_⟩
   ·rw [sb.2 c (fun h:c=S=>hSf (h▸hc))]
    exact e
   ·rw [List.mem_cons,mem l]
    constructor
    ·rintro (rfl | ⟨j,h1,h2⟩)
     ·exact ⟨i,by omega,rfl⟩
     ·exact ⟨j,by omega,h2⟩
    ·rintro ⟨j,h1,h2⟩
     by_cases c:j < i
     ·exact .inr ⟨j,c,h2⟩
     ·obtain rfl:j=i:=by omega
      exact .inl h2.symm
   ·obtain ⟨c,e,hc⟩:=JT j v h
    exact ⟨c,e,T.keeps hc kp⟩
   ·refine hR s2 (Moved.trans W.gtrans ((mv.mono up).then_heap (Nat.le_add_right _ _) fun c o hc e=>?_) OT) RP
    rw [sb.2 c (fun h:c=S=>hc (by rw [h];exact List.mem_cons_self))]
    exact e
end
section
variable {prog:Program} {w:World} {κ:Type} {T:cL prog w κ} {A:Around} {E:Value→Shared→Prop} {s:Shared}
theorem xR (a:Value) {Q₁:Value→Shared→Prop} (h:Q₁ (.ref s.heap.objs.size) { s with heap:=s.heap.push (pL (!(w.params.followText "set-order"))) }) :
 codeAny (model prog w) A (.call (.builtin "set.__new__") ⟨[.type "set",a],[]⟩) (wants Q₁ E) s:=by
 refine codeAny_of_tree (show wpAny _ A.in1 (checkBuiltinCall "set.__new__" ⟨[.type "set",a],[]⟩ >>= fun _=>again (.builtin "set.__new__" ⟨[.type "set",a],[]⟩)) _ _ s from ?_)
 refine wpAny_bind (wpAny_of_eq (F.newCall_set_1 a) (wpAny_pure ⟨plainId_quiet F.plain_set_new _,codeAny_builtin F.entry_set_new ?_⟩))
 rw [Around.under_plainId F.plain_set_new _]
 have hsub:=sub_set_self
 unfold Builtin.«set.__new__» Builtin.Frozenset.newClass
 obtain ⟨hp,g,d,tk,os⟩:=s
 dsimp only
 wp_walk
 refine wpAny_askSetting (wpAny_pure ?_)
 dsimp only
 simp only [newObj]
 exact wpAny_bind (wpAny_alloc (wpAny_pure (wpAny_pure h)))
set_option maxRecDepth 100000 in
theorem vA (TS:ig T) {l:Addr} {items:Array Value} {key:Nat→κ} {Q:Value→Shared→Prop} (hh:A.handled=none) (hr:T.room A.in1.in1.in1) (hl:s.heap.IsList l items) (OP:items.size≤306)
 (hi:∀ (i:Nat) v,items[i]?=some v→∃ b,v= .ref b∧T.is s.heap (key i) b)
 (h:∀ (h':Heap) (tk:Nat),Ms T h' s.heap.objs.size (!(w.params.followText "set-order")) items.size key→(∀ b o,s.heap.get? b=some o→h'.get? b=some o)→s.toks≤tk→Q (.ref s.heap.objs.size) { s with heap:=h',toks:=tk }) :
 wpAny (model prog w) A (call (.type "set") [.ref l]) Q E s:=by
 obtain ⟨c,tl,RQ⟩:=F.called_set.mro
 have made:=F.called_set.made
 have sub:=F.called_set.sub
 refine wpAny_call (codeAny_of_tree (show wpAny _ _ (callAny (.type "set") _) _ _ _ from ?_))
 refine wpAny_pure ⟨Code.quiet_builtin _ (by decide +kernel),codeAny_builtin F.entry_type_call ?_⟩
 rw [Around.under_plain (weight_type_call_type "set" [.ref l] []) rfl]
 have n1:=F.called_set.notType
 have n2:=F.called_set.canCreate
 have n3:=F.typeCall_set_1 (.ref l)
 repeat (any_goals (first | assumption | wp_step))
 generalize el:(!(w.params.followText "set-order"))=led
 refine codeAny_mono (xR (.ref l) (E:=E) (Q₁:=fun obj s₁=>obj= .ref s.heap.objs.size∧s₁= { s with heap:=s.heap.push (pL led) }) (by rw [el];exact ⟨rfl,rfl⟩)) fun r s₁ hq=>?_
 cases r with
 | error e=>exact hq
 | ok fl=>
   cases fl with
   | ret obj=>
     obtain ⟨rfl,rfl⟩:=hq
     have hS:(s.heap.push (pL led)).get? s.heap.objs.size=some (pL led):=Heap.get?_push_size _ rfl
     have hT:Shared.TypeIs { s with heap:=s.heap.push (pL led) } (.ref s.heap.objs.size) "set" :=⟨_,hS,rfl⟩
     have b1:=F.called_set.init.lookup
     have b2:=F.called_set.init.bind (.ref s.heap.objs.size)
     repeat (any_goals (first | assumption | wp_step))
     refine codeAny_mono (codeAny_call_builtin (R:=wants (fun r s₂=>r= .none∧∃ h' tk,s₂= { s with heap:=h',toks:=tk }∧Ms T h' s.heap.objs.size (!(w.params.followText "set-order")) items.size key∧(∀ b o,s.heap.get? b=some o→h'.get? b=some o)∧s.toks≤tk) E) F.called_set.init.plain F.entry_set_init (check_set_init_1 hT ?_)) fun r₂ s₂ OU=>?_
     ·obtain ⟨ol,Qc,hcl,nl,hdl⟩:=hl
      obtain ⟨RS,LL,Qd,Jj⟩:=ol
      simp only at hcl hdl
      subst hcl;subst hdl
      have OV:(s.heap.push (pL led)).get? l=some { cls:= .type "list",dict:=LL,data:= .seq items nl,slots:=Jj }:=Heap.get?_push_of_some _ Qc
      have m1:=F.sub_list_set
      have m2:=F.sub_list_frozenset
      have m3:(Value.type "list" == Value.type "dict")=false:=by decide
      have hl1:(s.heap.push (pL led)).IsList l items:=⟨_,OV,rfl,nl,rfl⟩
      unfold Builtin.«set.__init__» noKeywords Builtin.Frozenset.updateFrom
      generalize RT:pyIter=PI
      wp_walk
      subst RT
      refine wpAny_pyIter_list hl1 (wpAny_bind (wpAny_runValue ?_))
      have ll:l < s.heap.objs.size:=Heap.lt_size Qc
      have sz:(s.heap.push (pL led)).objs.size=s.heap.objs.size+1:=Heap.size_push ..
      have RU:A.in1.in1.in1.handled=none:=by simp [hh]
      have ne1:l≠(s.heap.push (pL led)).objs.size:=by rw [sz];exact Nat.ne_of_lt (Nat.lt_succ_of_lt ll)
      have out:s.heap.objs.size∉[(s.heap.push (pL led)).objs.size,l]:=by
       rw [sz]
       intro z
       rcases List.mem_cons.mp z with z | z
       ·exact Nat.ne_of_lt (Nat.lt_succ_self _) z
       ·exact Nat.ne_of_gt ll (List.mem_singleton.mp z)
      have kp:∀ b o,s.heap.get? b=some o→((s.heap.push (pL led)).push { cls:= .type "list_iterator",data:= .fields #[.ref l,.int 0 0] }).get? b=some o:=fun b o e=>Heap.get?_push_of_some _ (Heap.get?_push_of_some _ e)
      refine BH (T:=T) ((Walks.list RU _ l ne1 items).toS) (fun i s st b hb o e=>?_) out key TS hr OP led (items.size - 0) 0 _ (by omega) (Nat.zero_le _) ⟨⟨_,Heap.get?_push_size _ rfl,rfl,rfl⟩,(hl1.push _)⟩ ?_ (fun j v e=>?_) fun s' mv hS'=>?_
      ·obtain ⟨⟨o2,e2,c2,_⟩,_⟩:=st
       rw [List.mem_singleton.mp hb] at e
       rw [e2] at e
       cases e
       rw [c2]
       intro z
       injection z with z
       exact absurd z (by decide)
      ·refine ⟨[],List.nodup_nil,fun l=>⟨fun z=>(by cases z),fun ⟨j,z,_⟩=>absurd z (Nat.not_lt_zero _)⟩,pL led,#[],0,.fresh 0 0 led,Heap.get?_push_of_some _ hS,⟨rfl,rfl,rfl⟩,rfl,⟨rfl,rfl,.inl rfl,(show 0*5 < 7*3 by decide)⟩,⟨DT,fun i e z=>by simp at z⟩,rfl,rfl,rfl,fun e he=>by simp at he,fun l he=>by cases he⟩
      ·obtain ⟨b,e1,hb⟩:=hi j v e
       exact ⟨b,e1,T.keeps hb fun b o e _=>kp b o e⟩
      ·obtain ⟨h',g',d',tk',os'⟩:=s'
       have eg:g'=s.gens:=mv.gens
       have ed:d'=s.drawn:=mv.drawn
       have eo:os'=s.os:=mv.os
       have et:=mv.toks
       subst eg;subst ed;subst eo
       refine wpAny_pure (show wpAny _ _ (ret Value.none) _ _ _ from wpAny_pure ⟨rfl,h',tk',rfl,by rw [el];exact hS',fun b o e=>?_,et⟩)
       have lb:=Heap.lt_size e
       refine mv.heap b o (fun z=>?_) (kp b o e)
       rw [sz] at z
       rcases List.mem_cons.mp z with z | z
       ·exact Nat.ne_of_lt lb z
       ·exact Nat.ne_of_lt (Nat.lt_succ_of_lt lb) (List.mem_singleton.mp z)
     ·cases r₂ with
      | error e=>exact OU
      | ok RV=>
        cases RV with
        | ret r=>
          obtain ⟨rfl,h',tk,rfl,hS',hk',ht⟩:=OU
          repeat (any_goals (first | assumption | wp_step))
          exact h _ _ hS' hk' ht
        | _=>exact OU.elim
   | _=>exact hq.elim
end
end PySem
namespace PySem
open SetTable
namespace F
theorem gb:Manifest.owners.lookup (String.ofList ['r','o','t','a','r','e','t','i','_','t','e','s'].reverse)=some Manifest.sig_set_iterator:=by kernel_rfl
theorem cG:Slot "set_iterator" "__next__" "set_iterator.__next__" :=
 .of (owner:= "set_iterator") (n:= "__next__") (by rw [typeLookup_type,builtinLookup_eq_fast];kernel_rfl) (by decide +kernel) (by decide +kernel) (by decide +kernel)
  (by first | exact .inl (by decide +kernel) | exact .inr (by decide +kernel)) (by rw [isSubtype_type];kernel_rfl)
theorem jX:entryFor table "set_iterator.__next__" =some Builtin.«set_iterator.__next__» :=entryFor_of_tree (by kernel_rfl)
theorem je (a:Value):argsOk "set_iterator.__next__" ⟨[a],[]⟩:=by
 unfold argsOk;rw [signature?_of (id:= "set_iterator.__next__") (n:=['_','_','t','x','e','n','_','_']) (o:=['r','o','t','a','r','e','t','i','_','t','e','s']) (by kernel_rfl) gb];kernel_rfl
theorem kG:Slot "set_iterator" "__iter__" "set_iterator.__iter__" :=
 .of (owner:= "set_iterator") (n:= "__iter__") (by rw [typeLookup_type,builtinLookup_eq_fast];kernel_rfl) (by decide +kernel) (by decide +kernel) (by decide +kernel)
  (by first | exact .inl (by decide +kernel) | exact .inr (by decide +kernel)) (by rw [isSubtype_type];kernel_rfl)
theorem oF (a:Value):argsOk "set_iterator.__iter__" ⟨[a],[]⟩:=by
 unfold argsOk;rw [signature?_of (id:= "set_iterator.__iter__") (n:=['_','_','r','e','t','i','_','_']) (o:=['r','o','t','a','r','e','t','i','_','t','e','s']) (by kernel_rfl) gb];kernel_rfl
theorem pM:entryFor table "set_iterator.__iter__" =some Builtin.«dict_keyiterator.__iter__» :=
 entryFor_alias (id':= "dict_keyiterator.__iter__") (by kernel_rfl) (by first | rfl | decide +kernel | (unfold String.splitOn;simp +decide [String.splitOnAux])) (by decide +kernel) (by kernel_rfl)
theorem pN:entryFor table "set.__iter__" =some Builtin.«frozenset.__iter__» :=
 entryFor_alias (id':= "frozenset.__iter__") (by kernel_rfl) (by first | rfl | decide +kernel | (unfold String.splitOn;simp +decide [String.splitOnAux])) (by decide +kernel) (by kernel_rfl)
theorem vB:typeLookup (.type "set") "__len__" =pure (some (.builtin "set.__len__")):=by rw [typeLookup_type,builtinLookup_eq_fast];kernel_rfl
end F
theorem lP {α:Type}:∀ (l:List α) (i:Nat) (x:α),l[i]?=some x→(x :: l.eraseIdx i).Perm l
 | [],i,x,h=>by simp at h
 | a :: l,0,x,h=>by
   simp only [List.getElem?_cons_zero,Option.some.injEq] at h
   subst h
   exact List.Perm.refl _
 | a :: l,i+1,x,h=>by
   simp only [List.getElem?_cons_succ] at h
   exact (List.Perm.swap a x _).trans ((lP l i x h).cons a)
theorem Ay {α:Type} (next:Nat→Nat):∀ (fuel k:Nat) (left:List α) (out:Array α),left.length≤fuel→(pickOrder.go next fuel k left out).toList.Perm (out.toList ++ left)
 | 0,k,left,out,h=>by
   have:left= []:=List.length_eq_zero_iff.mp (Nat.le_zero.mp h)
   subst this
   unfold pickOrder.go
   rw [List.append_nil]
 | fuel+1,k,left,out,h=>by
   unfold pickOrder.go
   cases c:left[next k % left.length]? with
   | none=>
     have:left= []:=by
      cases left with
      | nil=>rfl
      | cons a l=>
        rw [List.getElem?_eq_none_iff] at c
        have:=Nat.mod_lt (next k) (show 0 < (a :: l).length by simp)
        omega
     subst this
     dsimp only
     rw [List.append_nil]
   | some x=>
     dsimp only
     have e:=lP left _ x c
     have l1:=e.length_eq
     rw [List.length_cons] at l1
     refine (Ay next fuel (k+1) _ (out.push x) (by omega)).trans ?_
     rw [Array.toList_push,List.append_assoc]
     exact e.append_left out.toList
theorem BI {α:Type} (next:Nat→Nat) (xs:Array α):(pickOrder next xs).toList.Perm xs.toList:=by
 unfold pickOrder
 exact Ay next xs.size 0 xs.toList #[] (by simp)
def cX (w:World) (S:Addr) (ep:Nat) (es:Array (Int ×Value)):Array (Int ×Value):=if w.params.followText "set-order" then pickOrder (w.params.setOrder S ep) es else es
theorem xS (w:World) (S:Addr) (ep:Nat) (es:Array (Int ×Value)):(cX w S ep es).toList.Perm es.toList:=by
 unfold cX
 split
 ·exact BI _ _
 ·exact List.Perm.refl _
theorem nH (w:World) (S:Addr) (ep:Nat) (es:Array (Int ×Value)):(cX w S ep es).size=es.size:=by
 have:=(xS w S ep es).length_eq
 simpa using this
def cg (h:Heap) (I S:Addr) (slot i n ep:Nat):Prop:= ∃ o,h.get? I=some o∧o.cls= .type "set_iterator"∧o.data= .fields #[.int slot 0,.int i 0,.ref S,.int n 0,.int ep 0]
theorem cg.typeIs {s:Shared} {I S:Addr} {slot i n ep:Nat} (x:cg s.heap I S slot i n ep):s.TypeIs (.ref I) "set_iterator" :=let ⟨o,ho,hc,_⟩:=x;⟨o,ho,hc⟩
structure pO (w:World) (h:Heap) (S:Addr) (es:Array (Int ×Value)) (ep:Nat) (t:SetTable):Prop where
 at':∃ o,h.get? S=some o∧o.ExactSet∧o.data= .set es ep t
 good:t.Good es.size
 rise:sN t.place
 led:t.led=!(w.params.followText "set-order")
 plain:t.plain=true
section
variable {prog:Program} {w:World} {A:Around} {E:Value→Shared→Prop} {s:Shared} {I S:Addr} {es:Array (Int ×Value)} {ep slot i:Nat} {t:SetTable}
theorem zg (g:t.Good es.size):t.place.size=es.size:=by
 have:=g.fits
 simp only [SetTable.fits,Bool.and_eq_true,beq_iff_eq,decide_eq_true_eq] at this
 exact this.1
theorem xT (x:pO w s.heap S es ep t) (hb:w.params.followText "set-order" =false→below t.place slot=i) {Q:Option (Value ×Nat)→Shared→Prop}
 (h1:∀ (e:Int ×Value) (next:Nat),(cX w S ep es)[i]?=some e→(w.params.followText "set-order" =false→below t.place next=i+1)→Q (some (e.2,next)) s) (h2:(cX w S ep es)[i]?=none→Q none s) :
 wpAny (model prog w) A (setNext S slot i ep) Q E s:=by
 obtain ⟨o,ho,hex,hd⟩:=x.at'
 unfold setNext setsByText
 refine wpAny_bind (wpAny_setState_of ho hd x.good.fits ?_)
 refine wpAny_bind (wpAny_bind (wpAny_askSetting (wpAny_pure ?_)))
 dsimp only
 show wpAny _ _ (if w.params.followText "set-order" =true then _ else _) _ _ _
 unfold cX at h1 h2
 cases c:w.params.followText "set-order" with
 | true=>
   rw [c] at h1 h2
   simp only [if_true] at h1 h2 ⊢
   rw [if_neg (by simp)]
   unfold setWalk setsByText
   refine wpAny_bind (wpAny_bind (wpAny_setState_of ho hd x.good.fits ?_))
   refine wpAny_bind (wpAny_bind (wpAny_askSetting (wpAny_pure ?_)))
   dsimp only
   show wpAny _ _ (if w.params.followText "set-order" =true then _ else _) _ _ _
   rw [c]
   simp only [if_true]
   refine wpAny_bind (wpAny_askSetting (wpAny_pure (wpAny_pure ?_)))
   show Q (((pickOrder (w.params.setOrder S ep) es)[i]?).map fun e=>(e.2,slot)) s
   cases e:(pickOrder (w.params.setOrder S ep) es)[i]? with
   | none=>exact h2 e
   | some z=>exact h1 z slot e (fun z=>by simp at z)
 | false=>
   rw [c] at h1 h2
   simp only [Bool.false_eq_true,if_false] at h1 h2 ⊢
   have hl:=x.led
   rw [c] at hl
   show wpAny _ _ (if (!t.plain && decide (es.size > 1))=true then _ else _) _ _ _
   rw [x.plain,if_neg (by simp)]
   refine wpAny_bind (show wpAny _ _ (if (!t.led && !es.isEmpty)=true then _ else _) _ _ _ from ?_)
   rw [hl,if_neg (by simp)]
   refine wpAny_pure (wpAny_pure ?_)
   rw [hb c]
   have ps:=zg x.good
   cases e:es[i]? with
   | none=>exact h2 e
   | some z=>
     have li:i < es.size:=by
      obtain ⟨l,_⟩:=Array.getElem?_eq_some_iff.mp e
      exact l
     have ep:t.place[i]?=some t.place[i]:=Array.getElem?_eq_getElem (by omega)
     rw [ep]
     refine h1 z _ e fun _=>?_
     obtain ⟨b1,b2,b3⟩:=gK x.rise (t.place[i]+1)
     have lb:¬ below t.place (t.place[i]+1)≤i:=fun z=>by
      have:=b3 i _ z ep
      omega
     have ub:¬ i+1 < below t.place (t.place[i]+1):=fun z=>by
      have l2:i+1 < t.place.size:=by omega
      have q:=b2 (i+1) _ z (Array.getElem?_eq_getElem l2)
      have q2:=x.rise i (i+1) _ _ (Nat.lt_succ_self _) ep (Array.getElem?_eq_getElem l2)
      omega
     omega
theorem cg.upd {h:Heap} {o:Obj} {n slot':Nat} (ho:h.get? I=some o) (hc:o.cls= .type "set_iterator") (hd:o.data= .fields #[.int slot 0,.int i 0,.ref S,.int n 0,.int ep 0]) :
 cg ((h.update I (Obj.mapFields (·.setIfInBounds 0 (rawInt slot')))).update I (Obj.mapFields (·.setIfInBounds 1 (rawInt ((i:Int)+1))))) I S slot' (i+1) n ep:=by
 have h1:=Heap.get?_update_self (Obj.mapFields (·.setIfInBounds 0 (rawInt slot'))) ho (Obj.isFreed_of_fields (Obj.data_mapFields hd _))
 have d1:=Obj.data_mapFields hd (·.setIfInBounds 0 (rawInt slot'))
 have h2:=Heap.get?_update_self (Obj.mapFields (·.setIfInBounds 1 (rawInt ((i:Int)+1)))) h1 (Obj.isFreed_of_fields (Obj.data_mapFields d1 _))
 refine ⟨_,h2,(Obj.cls_mapFields ..).trans ((Obj.cls_mapFields ..).trans hc),?_⟩
 rw [Obj.data_mapFields d1]
 simp [rawInt]
theorem next_item {Q:Option Value→Shared→Prop} (hit:cg s.heap I S slot i es.size ep) (x:pO w s.heap S es ep t) (ne:S≠I) (hb:w.params.followText "set-order" =false→below t.place slot=i) (li:i < es.size)
 (hQ:∀ (e:Int ×Value) (h':Heap) (next:Nat),(cX w S ep es)[i]?=some e→cg h' I S next (i+1) es.size ep→(w.params.followText "set-order" =false→below t.place next=i+1)→(∀ b o,b≠I→s.heap.get? b=some o→h'.get? b=some o)→Q (some e.2) { s with heap:=h' }) :
 wpAny (model prog w) A (pyNext (.ref I)) Q E s:=by
 obtain ⟨o,ho,hc,hd⟩:=id hit
 obtain ⟨oS,hoS,BJ,hdS⟩:=x.at'
 unfold pyNext
 refine wpAny_bind (wpAny_attempt (wpAny_callSpecial?_slot (name:=Str.ofString "__next__") hit.typeIs F.cG
  (wpAny_call_entry F.cG hit.typeIs F.jX ?_ (F.je _))))
 unfold Builtin.«set_iterator.__next__»
 refine wpAny_bind (m:=slotArgs "__next__" 0 _) (wpAny_pure ?_)
 refine wpAny_bind (wpAny_fieldsOf ho hd ?_)
 show wpAny _ _ (setEntries S >>= _) _ _ s
 refine wpAny_bind (wpAny_setEntries_of hoS hdS x.good.fits ?_)
 rw [if_neg (by simp)]
 refine wpAny_bind (m:=pure _) (wpAny_pure ?_)
 show wpAny _ _ (setNext S (Int.toNat slot) (Int.toNat i) (Int.toNat ep) >>= _) _ _ s
 simp only [Int.toNat_natCast]
 refine wpAny_bind (xT x hb (fun e next h1 h2=>?_) fun h2=>?_)
 ·show wpAny _ _ (setField (.ref I) 0 (rawInt next) >>= _) _ _ s
  refine wpAny_bind (wpAny_setField ho hd (by simp) ?_)
  have NY:=Heap.get?_update_self (Obj.mapFields (·.setIfInBounds 0 (rawInt next))) ho (Obj.isFreed_of_fields (Obj.data_mapFields hd _))
  refine wpAny_bind (wpAny_setField NY (Obj.data_mapFields hd _) (by simp) ?_)
  refine wpAny_pure ⟨_,rfl,wpAny_pure (hQ e _ next h1 (cg.upd ho hc hd) h2 fun b o2 nb e2=>?_)⟩
  rw [Heap.get?_update_other _ _ (Ne.symm nb),Heap.get?_update_other _ _ (Ne.symm nb)]
  exact e2
 ·have:=nH w S ep es
  rw [Array.getElem?_eq_none_iff] at h2
  omega
theorem BK {Q:Option Value→Shared→Prop} (hh:A.handled=none) (hit:cg s.heap I S slot es.size es.size ep) (x:pO w s.heap S es ep t) (hb:w.params.followText "set-order" =false→below t.place slot=es.size)
 (hQ:∀ h',Heap.ExtBut I s.heap h'→Q none { s with heap:=h' }) :
 wpAny (model prog w) A (pyNext (.ref I)) Q E s:=by
 obtain ⟨o,ho,hc,hd⟩:=id hit
 obtain ⟨oS,hoS,BJ,hdS⟩:=x.at'
 unfold pyNext
 refine wpAny_bind (wpAny_attempt (wpAny_callSpecial?_slot (name:=Str.ofString "__next__") hit.typeIs F.cG
  (wpAny_call_entry F.cG hit.typeIs F.jX ?_ (F.je _))))
 unfold Builtin.«set_iterator.__next__»
 refine wpAny_bind (m:=slotArgs "__next__" 0 _) (wpAny_pure ?_)
 refine wpAny_bind (wpAny_fieldsOf ho hd ?_)
 show wpAny _ _ (setEntries S >>= _) _ _ s
 refine wpAny_bind (wpAny_setEntries_of hoS hdS x.good.fits ?_)
 rw [if_neg (by simp)]
 refine wpAny_bind (m:=pure _) (wpAny_pure ?_)
 show wpAny _ _ (setNext S (Int.toNat slot) (Int.toNat es.size) (Int.toNat ep) >>= _) _ _ s
 simp only [Int.toNat_natCast]
 refine wpAny_bind (xT x hb (fun e next h1 h2=>?_) fun h2=>?_)
 ·obtain ⟨l,_⟩:=Array.getElem?_eq_some_iff.mp h1
  rw [nH] at l
  omega
 ·show wpAny _ _ (setField (.ref I) 2 .none >>= _) _ _ s
  refine wpAny_bind (wpAny_setField ho hd (by simp) ?_)
  show wpAny _ _ (newExc (.type "StopIteration") [] >>= _) _ _ _
  refine wpAny_bind ?_
  simp only [newExc,newTuple]
  refine wpAny_bind (wpAny_newObj_type ?_ (by size_fits))
  refine wpAny_bind (m:=firstArgMember _ _) (wpAny_of_eq (a:=Value.none) (by first | rfl | (simp only [firstArgMember];rfl)) ?_)
  refine wpAny_newObj_type ?_ (by size_fits)
  simp only [raiseNew]
  refine wpAny_bind (wpAny_handled ?_)
  rw [show A.in1.handled=none from hh]
  refine wpAny_bind (wpAny_pure (wpAny_throw ?_))
  refine wpAny_bind (wpAny_isInstance (T:= "StopIteration") (b:=true) ⟨_,Heap.get?_push_size _ rfl,rfl⟩ isSubtype_stop ?_)
  exact wpAny_pure (hQ _ (((Heap.SameBut.update ..).extBut.push _).push _))
theorem BL {n:Nat} {Q:Value→Shared→Prop} (hit:cg s.heap I S slot i n ep) (h:Q (.ref I) s):wpAny (model prog w) A (pyIter (.ref I)) Q E s:=by
 refine wpAny_pyIter_slot hit.typeIs F.kG (wpAny_call_entry F.kG hit.typeIs F.pM ?_ (F.oF _))
 show wpAny _ _ (ret (.ref I)) _ _ s
 exact wpAny_pure ⟨_,rfl,"set_iterator",_,hit.typeIs,F.cG.lookup,h⟩
theorem D6 {Q:Value→Shared→Prop} (x:pO w s.heap S es ep t)
 (h:Q (.ref s.heap.objs.size) { s with heap:=s.heap.push { cls:= .type "set_iterator",data:= .fields #[.int (0:Nat) 0,.int (0:Nat) 0,.ref S,.int es.size 0,.int ep 0] } }):wpAny (model prog w) A (pyIter (.ref S)) Q E s:=by
 obtain ⟨oS,hoS,BJ,hdS⟩:=x.at'
 have hT:s.TypeIs (.ref S) "set" :=⟨oS,hoS,BJ.1⟩
 refine wpAny_pyIter_slot hT F.slot_set_iter (wpAny_call_entry F.slot_set_iter hT F.pN ?_ (F.args_set_iter_1 _))
 unfold Builtin.«frozenset.__iter__» Builtin.Frozenset.slot0 slotArgs
 simp only [List.isEmpty_nil,Bool.not_true,Bool.false_eq_true,↓reduceIte,bind_assoc,List.length_nil,bne_self_eq_false]
 unfold Builtin.Frozenset.addrOf Builtin.Frozenset.sizeOf
 refine wpAny_bind (wpAny_pure ?_)
 try dsimp only
 refine wpAny_bind (wpAny_pure ?_)
 refine wpAny_bind (wpAny_bind (wpAny_setEntries_of hoS hdS x.good.fits (wpAny_pure ?_)))
 unfold setDrawn setsByText
 refine wpAny_bind (wpAny_bind (wpAny_setState_of hoS hdS x.good.fits ?_))
 refine wpAny_bind (wpAny_bind (wpAny_askSetting (wpAny_pure ?_)))
 dsimp only
 refine wpAny_pure ?_
 show wpAny _ _ (if (!w.params.followText "set-order" && (!t.plain && decide (es.size > 1)))=true then _ else _) _ _ _
 rw [x.plain,if_neg (by simp)]
 refine wpAny_bind (m:=pure _) (wpAny_pure ?_)
 refine wpAny_bind (wpAny_setEpoch_of hoS hdS x.good.fits ?_)
 refine wpAny_bind (wpAny_newObj_type (wpAny_pure ⟨_,rfl,"set_iterator",_,⟨_,Heap.get?_push_size _ rfl,rfl⟩,F.cG.lookup,?_⟩))
 simpa [rawInt] using h
end
end PySem
namespace PySem
open SetTable
theorem pO.at2 {w:World} {h h':Heap} {S:Addr} {es:Array (Int ×Value)} {ep:Nat} {t:SetTable} (x:pO w h S es ep t) (k:∀ o,h.get? S=some o→h'.get? S=some o):pO w h' S es ep t:=by
 obtain ⟨⟨o,ho,r⟩,a,b,c,d⟩:=x
 exact ⟨⟨o,k o ho,r⟩,a,b,c,d⟩
theorem Walks.set {prog:Program} {w:World} {A:Around} (hh:A.handled=none) (I S:Addr) (ne:S≠I) (es:Array (Int ×Value)) (ep:Nat) (t:SetTable) :
 Walks prog w A I [I,S] [I] es.size (fun i v=> ∃ e,(cX w S ep es)[i]?=some e∧v=e.2) (fun i h=>(∃ slot,cg h I S slot i es.size ep∧(w.params.followText "set-order" =false→below t.place slot=i))∧pO w h S es ep t) where
 sub:=fun b hb=>by simp at hb;simp [hb]
 frame:=fun i h h' ⟨⟨slot,⟨o,ho,r⟩,q⟩,x⟩ hk=>⟨⟨slot,⟨o,hk I (by simp) o ho,r⟩,q⟩,x.at2 fun o e=>hk S (by simp) o e⟩
 item:=fun i s Q E hi ⟨⟨slot,hit,hb⟩,x⟩ hQ=>by
  refine next_item hit x ne hb hi fun e h' next h1 h2 h3 h4=>?_
  exact hQ _ h' s.toks ⟨e,h1,rfl⟩ ⟨⟨next,h2,h3⟩,x.at2 fun o e=>h4 S o ne e⟩ fun b o hb e=>h4 b o (fun h=>hb (by simp [h])) e
 done:=fun s Q E ⟨⟨slot,hit,hb⟩,x⟩ hQ=>BK hh hit x hb fun h' he'=>hQ h' s.toks fun b o hb e=>he' b o (fun h=>hb (by simp [h])) e
 self:=fun i s Q E ⟨⟨slot,hit,_⟩,_⟩ hQ=>BL hit hQ
section
variable {prog:Program} {w:World} {A:Around} {E:Value→Shared→Prop} {s:Shared} {S:Addr} {es:Array (Int ×Value)} {ep:Nat} {t:SetTable}
theorem D7 {Q:Bool→Shared→Prop} (hT:s.TypeIs (.ref S) "set") (h:Q false s):wpAny (model prog w) A (Builtin.List.listLengthHint (.ref S)) Q E s:=by
 unfold Builtin.List.listLengthHint
 refine wpAny_bind (wpAny_specialOf hT F.vB ?_)
 have hs:splitId "set.__len__" =some ("set","__len__"):=by decide +kernel
 simp only [hs]
 refine wpAny_bind (wpAny_isInstance (T:= "set") (b:=true) hT sub_set_self ?_)
 simp only [Bool.not_true,Bool.false_eq_true,if_false]
 refine wpAny_bind (m:=pure _) (wpAny_pure ?_)
 show wpAny _ _ (typeOf (.ref S) >>= _) _ _ _
 refine wpAny_bind (wpAny_typeOf hT ?_)
 exact wpAny_pure h
theorem xU (hh:A.handled=none) (x:pO w s.heap S es ep t) (hz:es.size≤sizeLine) {Q:List Value→Shared→Prop}
 (h:∀ (h':Heap) (tk:Nat),(∀ b o,s.heap.get? b=some o→h'.get? b=some o)→s.heap.objs.size≤h'.objs.size→s.toks≤tk→Q ((cX w S ep es).toList.map (·.2)) { s with heap:=h',toks:=tk }):wpAny (model prog w) A (collect (.ref S)) Q E s:=by
 obtain ⟨oS,hoS,BJ,hdS⟩:=x.at'
 have lS:S < s.heap.objs.size:=Heap.lt_size hoS
 unfold collect
 refine wpAny_bind (wpAny_runValue (codeAny_builtin F.entry_proto_collect ?_))
 rw [Around.under_plainId F.plain_proto_collect _]
 show wpAny _ A.in1 (newList [] >>= fun l=>again (.builtin "list.__iadd__" ⟨[l,.ref S],[]⟩)) _ _ s
 refine wpAny_bind (wpAny_newObj_type ?_)
 refine wpAny_pure ⟨plainId_quiet F.plain_list_iadd _,codeAny_builtin F.entry_list_iadd ?_⟩
 rw [Around.under_plainId F.plain_list_iadd _]
 have OW:(s.heap.push { cls:= .type "list",data:= .seq ([]:List Value).toArray }).get? s.heap.objs.size=some { cls:= .type "list",data:= .seq ([]:List Value).toArray }:=Heap.get?_push_size _ rfl
 have x1:pO w (s.heap.push { cls:= .type "list",data:= .seq ([]:List Value).toArray }) S es ep t:=x.at2 fun o e=>Heap.get?_push_of_some _ e
 have qd:(s.heap.push { cls:= .type "list",data:= .seq ([]:List Value).toArray }).objs.size=s.heap.objs.size+1:=Heap.size_push ..
 have BN:∀ b o,s.heap.get? b=some o→(s.heap.push { cls:= .type "list",data:= .seq ([]:List Value).toArray }).get? b=some o:=fun b o e=>Heap.get?_push_of_some _ e
 revert OW x1 qd BN
 generalize s.heap.push { cls:= .type "list",data:= .seq ([]:List Value).toArray }=h1
 intro OW x1 qd BN
 have e1:Builtin.List.listSameRef (.ref s.heap.objs.size) (.ref S)=false:=by simp [Builtin.List.listSameRef,Nat.ne_of_gt lS]
 show wpAny _ A.in1 (Builtin.List.listExtendWith (.ref s.heap.objs.size) (.ref S) (.ref s.heap.objs.size)) _ _ _
 unfold Builtin.List.listExtendWith
 have hT1:Shared.TypeIs { s with heap:=h1 } (.ref S) "set" :=⟨oS,BN S oS hoS,BJ.1⟩
 refine wpAny_bind (wpAny_typeOf hT1 ?_)
 rw [if_neg (by rw [e1];decide)]
 refine wpAny_bind (D6 (s:={ s with heap:=h1 }) x1 ?_)
 dsimp only
 have OX:cg (h1.push { cls:= .type "set_iterator",data:= .fields #[.int (0:Nat) 0,.int (0:Nat) 0,.ref S,.int es.size 0,.int ep 0] }) h1.objs.size S 0 0 es.size ep:=⟨_,Heap.get?_push_size _ rfl,rfl,rfl⟩
 have BO:∀ b o,h1.get? b=some o→(h1.push { cls:= .type "set_iterator",data:= .fields #[.int (0:Nat) 0,.int (0:Nat) 0,.ref S,.int es.size 0,.int ep 0] }).get? b=some o:=fun b o e=>Heap.get?_push_of_some _ e
 revert OX BO
 generalize h1.push { cls:= .type "set_iterator",data:= .fields #[.int (0:Nat) 0,.int (0:Nat) 0,.ref S,.int es.size 0,.int ep 0] }=h2
 intro OX BO
 have hT2:Shared.TypeIs { s with heap:=h2 } (.ref S) "set" :=⟨oS,BO S oS (BN S oS hoS),BJ.1⟩
 refine wpAny_bind (wpAny_holding (D7 hT2 ?_))
 rw [if_pos (by decide)]
 have l2:=BO _ _ OW
 refine wpAny_bind (wpAny_rule ?_)
 refine wpAny_bind (show wpAny _ A.in1 (Builtin.List.listTouch (.ref s.heap.objs.size)) _ _ _ from ?_)
 unfold Builtin.List.listTouch
 refine wpAny_bind (show wpAny _ A.in1 (updateSeq s.heap.objs.size (·.push .none)) _ _ _ from wpAny_updateSeq l2 rfl ?_)
 have l3:=Heap.get?_update_self (Obj.mapSeq (·.push Value.none)) l2 rfl
 refine (show wpAny _ A.in1 (updateSeq s.heap.objs.size (·.pop)) _ _ _ from wpAny_updateSeq l3 rfl ?_)
 have l4:=Heap.get?_update_self (Obj.mapSeq (·.pop)) l3 rfl
 have D8:∀ b o,b≠s.heap.objs.size→h2.get? b=some o→((h2.update s.heap.objs.size (Obj.mapSeq (·.push Value.none))).update s.heap.objs.size (Obj.mapSeq (·.pop))).get? b=some o:=fun b o nb e=>by
  rw [Heap.get?_update_other _ _ (Ne.symm nb),Heap.get?_update_other _ _ (Ne.symm nb)]
  exact e
 dsimp only at l4 ⊢
 revert l4 D8
 generalize (h2.update s.heap.objs.size (Obj.mapSeq (·.push Value.none))).update s.heap.objs.size (Obj.mapSeq (·.pop))=h4
 intro l4 D8
 have Qe:S≠s.heap.objs.size:=Nat.ne_of_lt lS
 have Qf:h1.objs.size≠s.heap.objs.size:=by rw [qd];exact Nat.succ_ne_self _
 have OY:S≠h1.objs.size:=by rw [qd];exact Nat.ne_of_lt (Nat.lt_succ_of_lt lS)
 have x4:pO w h4 S es ep t:=x.at2 fun o e=>D8 S o Qe (BO S o (BN S o e))
 have RW:cg h4 h1.objs.size S 0 0 es.size ep:=by
  obtain ⟨o,ho,r⟩:=OX
  exact ⟨o,D8 _ o Qf ho,r⟩
 have b0:below t.place 0=0:=by
  obtain ⟨b1,b2,b3⟩:=gK x.rise 0
  rcases Nat.eq_zero_or_pos (below t.place 0) with z | z
  ·exact z
  ·have:=b2 0 _ z (Array.getElem?_eq_getElem (by omega))
   omega
 refine wpAny_pure ⟨plainId_quiet F.plain_extend_loop _,codeAny_extend_loopS (Walks.set (A:=A.in1) hh h1.objs.size S OY es ep t).toS hz _ (by
  intro z
  rcases List.mem_cons.mp z with z | z
  ·exact Qf z.symm
  ·exact Qe (List.mem_singleton.mp z).symm) _ es.size 0 _ _ _ rfl (Nat.zero_le _) ⟨⟨0,RW,fun _=>b0⟩,x4⟩ l4 (ItemsOf.nil _) fun s' acc' c' hm hS' hacc=>?_⟩
 show wpAny _ A (load s.heap.objs.size >>= _) _ _ s'
 refine wpAny_bind (wpAny_load hS' ?_)
 refine wpAny_pure ?_
 obtain ⟨h',g',d',tk',os'⟩:=s'
 have eg:g'=s.gens:=hm.gens
 have ed:d'=s.drawn:=hm.drawn
 have eo:os'=s.os:=hm.os
 have et:=hm.toks
 subst eg;subst ed;subst eo
 have ea:acc'.toList=(cX w S ep es).toList.map (·.2):=by
  apply List.ext_getElem?
  intro i
  rw [List.getElem?_map]
  simp only [Array.getElem?_toList]
  by_cases c:i < es.size
  ·have c1:i < acc'.size:=by rw [hacc.1];exact c
   obtain ⟨e,q1,q2⟩:=hacc.2 i _ (Array.getElem?_eq_getElem c1)
   rw [q1,Array.getElem?_eq_getElem c1,q2]
   rfl
  ·rw [Array.getElem?_eq_none (by rw [hacc.1];omega),Array.getElem?_eq_none (by rw [nH];omega)]
   rfl
 show Q acc'.toList _
 rw [ea]
 refine h h' tk' (fun b o e=>?_) (Nat.le_of_lt (Heap.lt_size hS')) et
 have lb:=Heap.lt_size e
 refine hm.heap b o (fun z=>?_) (D8 b o (Nat.ne_of_lt lb) (BO b o (BN b o e)))
 rw [qd] at z
 rcases List.mem_cons.mp z with z | z
 ·exact Nat.ne_of_lt lb z
 ·exact Nat.ne_of_lt (Nat.lt_succ_of_lt lb) (List.mem_singleton.mp z)
end
end PySem
namespace PySem
open SetTable
def cL.only {prog:Program} {w:World} {κ:Type} (T:cL prog w κ) (p:Addr→Prop):cL prog w κ where
 is:=fun h k b=>T.is h k b∧p b
 hash:=T.hash
 draws:=T.draws
 room:=T.room
 typ:=fun x=>T.typ x.1
 keeps:=fun x k=>⟨T.keeps x.1 k,x.2⟩
 pyHash:=fun hu hk h=>T.pyHash hu hk.1 h
 other:=fun hu hx hy ne h=>T.other hu hx.1 hy.1 ne h
 quiet:=fun hk h=>T.quiet hk.1 h
 lA:=fun hk h=>T.lA hk.1 h
 xG:=fun hk h=>T.xG hk.1 h
theorem ig.only {prog:Program} {w:World} {κ:Type} {T:cL prog w κ} (S:ig T) (p:Addr→Prop):ig (T.only p):=⟨fun hr hx hy h=>S.same hr hx.1 hy.1 h⟩
theorem LM {prog:Program} {w:World} {A:Around} {E:Value→Shared→Prop} {s:Shared} {x:List (List Int)} {a b:Addr} {Q:Bool→Shared→Prop} (hu:A.units+8 < cLine) (hx:cC prog w s.heap x a) (hy:cC prog w s.heap x b) (h:Q true s) :
 wpAny (model prog w) A (eqBool (.ref a) (.ref b)) Q E s:=by
 unfold eqBool
 try with_reducible refine wpAny_holding ?_
 refine (?_:wpAny _ _ (if (Value.ref a == Value.ref b)=true then _ else _) Q E s)
 by_cases hab:(Value.ref a == Value.ref b)=true
 ·rw [if_pos hab]
  exact (wpAny_pure h:wpAny (model prog w) A (pure true) Q E s)
 ·rw [if_neg hab]
  exact wpAny_bind (wpAny_richCompare_same_room (op:= .Eq) hx.typ hy.typ F.slot_tuple_eq
   (wpAny_call_entry F.slot_tuple_eq hx.typ F.entry_tuple_eq (xJ (by show A.units+1+4 < cLine;omega) hx hy (by rw [decide_eq_true rfl];exact ⟨_,rfl,(fun e=>nomatch e),wpAny_truthy_bool h⟩)) (F.args_tuple_eq_2 _ _)) (by omega))
theorem xV (prog:Program) (w:World):ig (kF prog w):=⟨fun hr hx hy h=>LM hr hx hy h⟩
end PySem
namespace L3
open PySem PySem.Spec PyProof.Rows L2
theorem zh {n:Nat} (hn:n=2∨n=3) {P:Program} {w:World} {A:Around} {E:Value→Shared→Prop} {s:Shared} {l:Addr} {vs:List Value} {ps:List (List Pl)} {Q:Value→Shared→Prop} (hu:A.units+64 < cLine)
 (hc:∀ (E:Value→Shared→Prop) (Q:List Value→Shared→Prop),(∀ h' tk,eU s.heap h'→s.heap.objs.size≤h'.objs.size→s.toks≤tk→Q vs { s with heap:=h',toks:=tk })→wpAny (model P w) A.in1 (collect (.ref l)) Q E s)
 (hv:iJ n s.heap vs ps) (h64:vs.length < 64)
 (h:∀ (out:List Value) (qs:List (List Pl)) (h':Heap) (a:Addr) (m tk:Nat),(∀ v∈out,v∈vs)→qs=out.map (iI n s.heap)→qs.Perm ps→qs.Pairwise (fun p q=>dX q p=false)→eU s.heap h'→s.heap.objs.size≤a→h'.get? a=some (seqObj "list" out.toArray m)→s.toks≤tk→
  Q (.ref a) { s with heap:=h',toks:=tk }) :
 wpAny (model P w) A (call (.builtin "sorted") [.ref l]) Q E s:=by
 refine Calls.call_function_entry kind_sorted plain_sorted entry_sorted (args_sorted1 _) ?_
 unfold Builtin.«sorted»
 refine wpAny_bind (m:=checkCount "sorted" 1 1 _) (wpAny_pure ?_)
 have lz:vs.length≤sizeLine:=by rw [sizeLine_eq];omega
 refine wpAny_bind (hc _ _ fun g tk gk gz ht=>?_)
 refine wpAny_bind (wpAny_newList (hsz:=lz) ?_)
 show wpAny (model P w) A.in1 _ _ _ { s with heap:=g.push (seqObj "list" vs.toArray 0),toks:=tk }
 have at':(g.push (seqObj "list" vs.toArray 0)).get? g.objs.size=some (seqObj "list" vs.toArray 0):=Heap.get?_push_size _ rfl
 have Ez:∀ b o,s.heap.get? b=some o→b≠g.objs.size∧(g.push (seqObj "list" vs.toArray 0)).get? b=some o:=fun b o q=>by
  have lb:=Heap.lt_size (gk b o q)
  exact ⟨Nat.ne_of_lt lb,Heap.get?_push_of_some _ (gk b o q)⟩
 have hk:KeysOf (uV n s.heap) (pairsOf vs):=fun p hp=>by
  rw [pairsOf_toList] at hp
  obtain ⟨q,a⟩:=hv.mem (cu hp).2
  exact ⟨q,uW a⟩
 apply wpAny_bind;apply wpAny_holding
 refine wpAny_call_entry slot_list_sort ⟨_,at',rfl⟩ entry_list_sort (Ag (κ:=uV n s.heap) (kd:=tuples' false) at' hk
  (fun t E Q hg h2 q=>Aj hn (by omega) (fun v m=>?_) q) (fun t hg=>C7 hn (by show A.units+1+1 < cLine;omega) fun b o q=>hg b o (Ez b o q).1 (Ez b o q).2) h64 fun y hp hs=>⟨_,rfl,?_⟩) (args_list_sort _)
 ·obtain ⟨p,a⟩:=hv.mem m
  exact ⟨p,a.grow fun b o q=>hg b o (Ez b o q).1 (Ez b o q).2⟩
 ·refine wpAny_pure ⟨_,rfl,?_⟩
  have pl:y.toList.Perm (vs.zip vs):=by rw [← pairsOf_toList];exact Array.perm_iff_toList_perm.mp hp
  have same:∀ p∈y.toList,p.1=p.2∧p.1∈vs:=fun p m=>cu (pl.mem_iff.mp m)
  have eo:y.map (·.2)=(y.toList.map (·.2)).toArray:=by rw [← Array.toList_map,Array.toArray_toList]
  rw [eo]
  have lg:g.objs.size < (g.push (seqObj "list" vs.toArray 0)).objs.size:=Heap.lt_size at'
  obtain ⟨m,hm⟩:∃ m,(sortedHeap (g.push (seqObj "list" vs.toArray 0)) g.objs.size vs (y.toList.map (·.2)).toArray).get? g.objs.size=some (seqObj "list" (y.toList.map (·.2)).toArray m):=by
   unfold sortedHeap
   have h1:=get?_update_seq at' fun _=> #[]
   have h3:=(Heap.get?_push_ne (((g.push (seqObj "list" vs.toArray 0)).update g.objs.size (Obj.mapSeq fun _=> #[])).push (seqObj "tuple" vs.toArray 0)) g.objs.size (seqObj "list" #[] 0) (by rw [size_push',Heap.size_update];exact Nat.ne_of_lt (Nat.lt_succ_of_lt lg))).trans
    ((Heap.get?_push_ne ((g.push (seqObj "list" vs.toArray 0)).update g.objs.size (Obj.mapSeq fun _=> #[])) g.objs.size (seqObj "tuple" vs.toArray 0) (by rw [Heap.size_update];exact Nat.ne_of_lt lg)).trans h1)
   exact ⟨_,get?_update_seq h3 fun _=>(y.toList.map (·.2)).toArray⟩
  refine h (y.toList.map (·.2)) _ _ g.objs.size m tk (fun v m=>?_) rfl ?_ ?_ (fun b o q=>?_) gz hm ht
  ·obtain ⟨p,m2,rfl⟩:=List.mem_map.mp m
   rw [← (same p m2).1];exact (same p m2).2
  ·have q:=(pl.map (fun p=>p.2)).map (iI n s.heap)
   have e:(vs.zip vs).map (fun p=>p.2)=vs:=List.map_snd_zip (Nat.le_refl _)
   rw [e,hv.keys] at q
   exact q
  ·rw [List.pairwise_iff_getElem]
   intro i j hi hj hij
   have li:i < y.size:=by simpa using hi
   have lj:j < y.size:=by simpa using hj
   have q:=hs i j (Nat.le_of_lt hij) (by rw [← hp.size_eq];exact lj)
   have key:∀ k (hk:k < y.size),KK (uV n s.heap) y k=iI n s.heap y[k].2:=fun k hk=>by
    unfold KK
    rw [getElem?_pos y k hk]
    show Option.getD (α:=List Pl) ((uV n s.heap).keyOf y[k].1) []=_
    rw [(same y[k] (by simp)).1]
    rfl
   have q:(uV n s.heap).blt (KK (uV n s.heap) y j) (KK (uV n s.heap) y i)=false:=q
   rw [key i li,key j lj] at q
   have q:dX (iI n s.heap y[j].2) (iI n s.heap y[i].2)=false:=q
   simpa using q
  ·obtain ⟨nb,q2⟩:=Ez b o q
   have lb:=Heap.lt_size q2
   unfold sortedHeap
   rw [Heap.get?_update_ne _ _ _ _ nb,Heap.get?_push_ne _ _ _ (by rw [size_push',Heap.size_update];exact Nat.ne_of_lt (Nat.lt_succ_of_lt lb)),Heap.get?_push_ne _ _ _ (by rw [Heap.size_update];exact Nat.ne_of_lt lb),Heap.get?_update_ne _ _ _ _ nb]
   exact q2
theorem vC {α:Type} {a b:List α} (nd:b.Nodup) (len:a.length=b.length) (sub:∀ x∈b,x∈a):a.Nodup:=by
 have pm:b.Perm a:=by
  classical
  have go:∀ (b a:List α),b.Nodup→(∀ x∈b,x∈a)→a.length=b.length→b.Perm a:=by
   intro b
   induction b with
   | nil=>intro a _ _ l;rw [List.length_eq_zero_iff.mp l];
   | cons x b ih=>
     intro a nd sub l
     obtain ⟨h1,h2⟩:=List.nodup_cons.mp nd
     have ma:=sub x List.mem_cons_self
     have q:=ih (a.erase x) h2 (fun y hy=>(List.mem_erase_of_ne (show y≠x from fun e=>h1 (e▸hy))).mpr (sub y (List.mem_cons_of_mem _ hy))) (by rw [List.length_erase_of_mem ma,l,List.length_cons];omega)
     exact (q.cons x).trans (List.perm_cons_erase ma).symm
  exact go b a nd sub len
 exact pm.nodup_iff.mp nd
theorem xW {P:Program} {w:World} {h:Heap} {es:List (Int ×Value)} {ls:List (List (List Int))} {p:Addr→Prop} (nd:ls.Nodup) (sz:es.length=ls.length)
 (c1:∀ e∈es,∃ b l,e=(((kF P w).only p).hash l,.ref b)∧((kF P w).only p).is h l b∧l∈ls)
 (c2:∀ l∈ls,∃ e∈es,∃ b,e=(((kF P w).only p).hash l,.ref b)∧((kF P w).only p).is h l b) :
 ∃ f:(Int ×Value)→List (List Int),(∀ e∈es,∃ b,e.2= .ref b∧cC P w h (f e) b∧p b)∧(es.map f).Nodup∧∀ l,l∈es.map f↔l∈ls:=by
 have ch:∀ e:Int ×Value,∃ l,e∈es→∃ b,e=(((kF P w).only p).hash l,.ref b)∧((kF P w).only p).is h l b∧l∈ls:=fun e=>by
  by_cases m:e∈es
  ·obtain ⟨b,l,q⟩:=c1 e m
   exact ⟨l,fun _=>⟨b,q⟩⟩
  ·exact ⟨[],fun z=>absurd z m⟩
 obtain ⟨f,hf⟩:=Classical.axiomOfChoice ch
 have mem:∀ l,l∈es.map f↔l∈ls:=fun l=>by
  constructor
  ·intro m
   obtain ⟨e,m1,rfl⟩:=List.mem_map.mp m
   obtain ⟨b,_,_,q⟩:=hf e m1
   exact q
  ·intro m
   obtain ⟨e,m1,b,e1,i1⟩:=c2 l m
   obtain ⟨b2,e2,i2,_⟩:=hf e m1
   have eb:b2=b:=by
    rw [e1] at e2
    injection e2 with _ e2
    injection e2 with e2
    exact e2.symm
   subst eb
   have:=cC.inj i1.1 i2.1
   rw [this]
   exact List.mem_map.mpr ⟨e,m1,rfl⟩
 refine ⟨f,fun e m=>?_,?_,mem⟩
 ·obtain ⟨b,e1,i1,_⟩:=hf e m
  exact ⟨b,by rw [e1],i1.1,i1.2⟩
 ·have len:(es.map f).length=ls.length:=by rw [List.length_map,sz]
  exact vC nd len fun l m=>(mem l).mpr m
end L3
namespace L3
open PySem PySem.Spec PyProof.Rows L2
theorem D9 {P:Program} {w:World} {n:Nat} {h:Heap} {v:Value} {t:List Pl} (a:pJ n h v t):∃ b,v= .ref b∧cC P w h (nE t) b:=by
 obtain ⟨_,b,o,its,m,e,h1,h2,h3,h4⟩:=a
 exact ⟨b,e,o,its.toArray,m,h1,h2,h3,by rw [List.toList_toArray];exact vt h4⟩
theorem rq {n:Nat} {h:Heap}:∀ {vs:List Value},(∀ v∈vs,∃ t,pJ n h v t)→iJ n h vs (vs.map (iI n h))
 | [],_=> .nil
 | v :: vs,q=>by
   obtain ⟨t,a⟩:=q v List.mem_cons_self
   refine .cons ?_ (rq fun u hu=>q u (List.mem_cons_of_mem _ hu))
   rw [qe a]
   exact a
section
variable {X:Cx} {pos:Pos}
def Ea (n:Nat) (te:cY):cY:=fun ρ M Q=>te ρ M fun d M1=> ∃ ts:List (List Pl),B4 M1 d (ts.map tD)∧(∀ t∈ts,t.length=n)∧ts.length < 64∧
 ∀ (p:Addr) (qs:List (List Pl)),M1 p=none→qs.Nodup→(∀ t,t∈qs↔t∈ts)→qs.Pairwise (fun p q=>dX q p=false)→Q (.ref p) (aA M1 p (.lst (qs.map tD)))
theorem BP {n:Nat} (hn:n=2∨n=3) {e:Expr} {te:cY} {p1 p2 pos2:Pos} (hu:X.A.units+64 < cLine) (hc:X.calm=true) (E8:Gl X "sorted") (hml:X.mg "sorted" =none) (hgr:Gl X "set") (hmr:X.mg "set" =none) (he:cM X e te)
 (s1:starEach [e] X.env= [(false,eval e X.env)]:=by rfl)
 (s2:starEach [.Call (.Name "set" p2) [e] [] pos2] X.env= [(false,eval (.Call (.Name "set" p2) [e] [] pos2) X.env)]:=by rfl) :
 cM X (.Call (.Name "sorted" p1) [.Call (.Name "set" p2) [e] [] pos2] [] pos) (Ea n te):=by
 constructor
 intro pins s σ H ρ M Q I r h
 refine wpAny_Call_Name_kw (iC I E8 hml bO ?_ (by decide) (by decide))
 refine PyProof.Rows.callWith_builtin1 (Q:=EP X pins σ (Post X.K M H Q)) ?_ (by rw [s2];rfl) (by rfl)
 rw [s2]
 show wpAny _ _ (spliced ((false,eval (.Call (.Name "set" p2) [e] [] pos2) X.env) :: backTo pos [])) _ _ s
 refine Calls.spliced_cons ?_
 refine wpAny_Call_Name_kw (iC I hgr hmr BC ?_ (by decide) (by decide))
 refine PyProof.Rows.callWith_type1 ?_ (by rw [s1];rfl) (by rfl)
 rw [s1]
 show wpAny _ _ (spliced ((false,eval e X.env) :: backTo pos2 [])) _ _ s
 refine Calls.spliced_cons (dc (he.run pins s σ H ρ M _ I r h) fun v s1 ⟨x,H1,I1,rv,d,M1,f1,dd,lG,ts,hL,Lw,h64,q⟩=>Calls.spliced_nil ?_)
 obtain ⟨a,zs,rfl,hz,hd⟩:=hL.sq lG dd
 obtain rfl:v=Value.ref a:=rv
 obtain ⟨its,FD,pl,hsz⟩:=I1.list hz
 have lz:zs.length=its.length:=FD.length
 have ln:its.length=ts.length:=by rw [← lz,← hd.length,List.length_map]
 have get:=xK (P:=X.prog) (w:=X.w) I1.hok hd FD
 refine vA (T:=(kF X.prog X.w).only fun b=>Value.ref b∈its) ((xV X.prog X.w).only _) (key:=fun i=>match ts[i]? with | some t=>nE t | none=>[]) (I.ok.hd hc) (by show X.A.units+1+1+1+8 < cLine;omega) pl.isList (by rw [List.size_toArray];omega) (fun i v e=>?_) fun h' tk hS kp ht=>Calls.spliced_nil ?_
 ·have e':its[i]?=some v:=by simpa using e
  obtain ⟨t,e1,b,e2,k⟩:=get i v e'
  refine ⟨b,e2,?_,?_⟩
  ·rw [e1]
   exact k
  ·show Value.ref b∈its
   rw [← e2]
   exact List.mem_of_getElem? e'
 ·obtain ⟨ls,nd,mem,o,es,ep,t,ho,hex,hd2,g,R,hl,hp,sz,c1,c2⟩:=hS
  have W:pO X.w h' s1.heap.objs.size es ep t:=⟨⟨o,ho,hex,hd2⟩,g,R.rise,hl,hp⟩
  have sh:ls.length≤ts.length:=by
   have:=o8 ls ts.length _ nd fun x hx=>by
    obtain ⟨j,hj,ej⟩:=(mem x).mp hx
    exact ⟨j,by rw [List.size_toArray] at hj;omega,ej⟩
   exact this
  obtain ⟨f,RX,RY,LN⟩:=xW nd (by rw [Array.length_toList];exact sz) c1 c2
  have I2:Inv X pins σ H1 { s1 with heap:=h',toks:=tk }:=I1.kept kp
  have RZ:=nZ I1.hok Lw hd FD
  have one:∀ e∈es.toList,∃ t,pJ n h' e.2 t∧f e=nE t∧e.2∈its:=fun e m=>by
   obtain ⟨b,eb,i1,i2⟩:=RX e m
   obtain ⟨t,at'⟩:=RZ.mem i2
   have at2:=at'.grow (h':=h') kp
   obtain ⟨b2,e2,i3⟩:=D9 (P:=X.prog) (w:=X.w) at2
   injection e2 with e2
   subst e2
   exact ⟨t,by rw [eb];exact at2,i1.inj i3,by rw [eb];exact i2⟩
  have pm:=xS X.w s1.heap.objs.size ep es
  have Qg:∀ v∈(cX X.w s1.heap.objs.size ep es).toList.map (·.2),v∈its∧∃ t,pJ n h' v t:=fun v m=>by
   obtain ⟨e,m1,rfl⟩:=List.mem_map.mp m
   obtain ⟨t,a1,_,a3⟩:=one e (pm.mem_iff.mp m1)
   exact ⟨a3,t,a1⟩
  have lv:((cX X.w s1.heap.objs.size ep es).toList.map (·.2)).length < 64:=by
   rw [List.length_map,Array.length_toList,nH,sz]
   omega
  have km:(((cX X.w s1.heap.objs.size ep es).toList.map (·.2)).map (iI n h')).map nE=(cX X.w s1.heap.objs.size ep es).toList.map f:=by
   rw [List.map_map,List.map_map]
   refine List.map_congr_left fun e m=>?_
   obtain ⟨t,a1,a2,_⟩:=one e (pm.mem_iff.mp m)
   show nE (iI n h' e.2)=f e
   rw [qe a1,a2]
  refine zh (s:={ s1 with heap:=h',toks:=tk }) hn hu (fun E Q hQ=>xU (A:=X.A.in1) (I.ok.hd hc) W (by rw [sz,sizeLine_eq];omega) fun h2 yr g1 g2 g3=>hQ h2 yr g1 g2 g3) (rq fun v m=>(Qg v m).2) lv fun out qs h2 a2 m yr hm eq hp2 hs2 gr ge ga gt=>?_
  obtain ⟨ws,w1,w2⟩:=mj (h:=h') I2.hok Lw hd FD out fun v hv=>(Qg v (hm v hv)).1
  have eq':qs=out.map (iI n h'):=eq
  rw [← eq'] at w2
  have fr:H1 a2=none:=I2.hok.fresh ge
  have zw:ws.length≤sizeLine:=by
   rw [← w2.length,List.length_map,hp2.length_eq,List.length_map,sizeLine_eq];omega
  have kn:(((cX X.w s1.heap.objs.size ep es).toList.map (·.2)).map (iI n h')).Nodup:=by
   have z:((((cX X.w s1.heap.objs.size ep es).toList.map (·.2)).map (iI n h')).map nE).Nodup:=by
    rw [km]
    exact ((pm.map f).nodup_iff).mpr RY
   exact (List.pairwise_map.mp z).imp fun hne e=>hne (by rw [e])
  have I3:Inv X pins σ (upd H1 a2 (.lst ws)) { s1 with heap:=h2,toks:=yr }:=I2.laid (t':=yr) gr ge ⟨zw,out,m,w1,ga⟩
  refine ⟨.ref a2,upd H1 a2 (.lst ws),I3,rfl,.ref _,aA M1 _ (.lst (qs.map tD)),f1.trans (Fr.new fr fun _ hb=>bC hb),aK.mpr rfl,lG.newL fr w2,q _ _ (lG.free fr) (hp2.nodup_iff.mpr kn) (fun t=>?_) hs2⟩
  rw [hp2.mem_iff]
  constructor
  ·intro m
   have m2:=List.mem_map_of_mem (f:=nE) m
   rw [km,(pm.map f).mem_iff,LN,mem] at m2
   obtain ⟨j,hj,ej⟩:=m2
   rw [List.size_toArray] at hj
   dsimp only at ej
   rw [List.getElem?_eq_getElem (by omega)] at ej
   rw [← qY ej]
   exact List.getElem_mem _
  ·intro m
   obtain ⟨j,hj,ej⟩:=List.getElem_of_mem m
   have:nE t∈(((cX X.w s1.heap.objs.size ep es).toList.map (·.2)).map (iI n h')).map nE:=by
    rw [km,(pm.map f).mem_iff,LN,mem]
    refine ⟨j,by rw [List.size_toArray];omega,?_⟩
    dsimp only
    rw [List.getElem?_eq_getElem hj,ej]
   obtain ⟨t2,m2,e2⟩:=List.mem_map.mp this
   rw [← qY e2]
   exact m2
end
end L3
namespace L3
open PySem PySem.Spec PyProof.Rows L2
section
variable {X:Cx}
def Jk:R3:=fun d e M Q=> ∃ a b a1 a2 b1 b2 x1 x2 y1 y2,d= .ref a∧e= .ref b∧M a=some (.lst [.ref a1,.ref a2])∧M b=some (.lst [.ref b1,.ref b2])∧M a1=some (.lst x1)∧M a2=some (.lst x2)∧M b1=some (.lst y1)∧M b2=some (.lst y2)∧
 a1≠b1∧a2≠b2∧x1.all (plain 9)=true∧x2.all (plain 9)=true∧y1.all (plain 9)=true∧y2.all (plain 9)=true∧Q (.bl (!(cZ x1 y1 && cZ x2 y2))) M
theorem Gf (hu:X.A.units+64 < cLine):nP X (compareOp .NotEq) Jk:=by
 constructor
 intro pins s σ H M x y d e v u Q I rm rx ry dx dy hx
 obtain ⟨a,b,a1,a2,b1,b2,x1,x2,y1,y2,e1,e2,ha,hb,h1,h2,h3,h4,n1,n2,p1,p2,p3,p4,q⟩:=hx
 subst e1;subst e2
 obtain rfl:=aK.mp dx
 obtain rfl:=aK.mp dy
 obtain rfl:v=Value.ref a:=rx
 obtain rfl:u=Value.ref b:=ry
 obtain ⟨zs,g1,g2⟩:=rm.lst ha
 obtain ⟨ws,g3,g4⟩:=rm.lst hb
 obtain ⟨z1,z2,rfl,k1,k2⟩:=qu g2
 obtain ⟨w1,w2,rfl,k3,k4⟩:=qu g4
 obtain rfl:=aK.mp k1
 obtain rfl:=aK.mp k2
 obtain rfl:=aK.mp k3
 obtain rfl:=aK.mp k4
 obtain ⟨its,rv,pl,hz⟩:=I.list (iD.of (K:=X.K) g1)
 obtain ⟨its2,mR,Bd,hz2⟩:=I.list (iD.of (K:=X.K) g3)
 obtain ⟨u1,u2,rfl,r1,r2⟩:=vals2 rv
 obtain ⟨v1,v2,rfl,r3,r4⟩:=vals2 mR
 obtain rfl:u1=Value.ref a1:=r1
 obtain rfl:u2=Value.ref a2:=r2
 obtain rfl:v1=Value.ref b1:=r3
 obtain rfl:v2=Value.ref b2:=r4
 have c1:=qG (A:=X.A.in1) I rm (by show X.A.units+1+12 < cLine;omega) n1 h1 h3 p1 p3
 have c2:=qG (A:=X.A.in1) I rm (by show X.A.units+1+12 < cLine;omega) n2 h2 h4 p2 p4
 refine SeqAt.RcNeAt.lists (A:=X.A) (s:=s) (e:=fun j=>if j=0 then cZ x1 y1 else cZ x2 y2) pl.isList Bd.isList rfl (by omega) ?_ _ _ _ _ ⟨.bl _,H,I,rfl,aH rm (bu.mpr rfl) ?_⟩
 ·intro j hj1 hj2
  match j,hj1,hj2 with
  | 0,_,_=>exact c1
  | 1,_,_=>exact c2
 ·have e:(List.range #[Value.ref a1,Value.ref a2].size).all (fun j=>if j=0 then cZ x1 y1 else cZ x2 y2)=(cZ x1 y1 && cZ x2 y2):=by
   simp [List.range,List.range.loop]
  rw [e]
  exact q
end
end L3
namespace L3
structure Pt where
 X:Int
 Y:Int
 N:Int
def hw (a b:Pl) (x:Pt):Int:=(b.x - a.x)*(x.Y - x.N*a.y) - (b.y - a.y)*(x.X - x.N*a.x)
def vD (w:Way) (a:Pl) (x:Pt):Int:=x.N*w.f a - (w.al*x.X+w.be*x.Y)
theorem qh (a b:Pl) (x:Pt):hw b a x= -hw a b x:=by unfold hw;grind
theorem Jl (a b c:Pl) (x:Pt):hw a b x+hw b c x+hw c a x=x.N*tw a b c:=by unfold hw tw;grind
theorem Jm (w:Way) (a b c:Pl) (x:Pt):hw b c x*vD w a x+hw c a x*vD w b x+hw a b x*vD w c x=0:=by unfold hw vD Way.f;grind
def Mt (w:Way) (x:Pt) (a b:Pl):Int:=if vD w a x≤0∧0 < vD w b x∧0 < hw a b x then 1 else 0
def wn (w:Way) (x:Pt) (a b:Pl):Int:=Mt w x a b - Mt w x b a
theorem Gg (w:Way) (x:Pt) (a b:Pl):wn w x b a= -wn w x a b:=by unfold wn;omega
theorem mF (A α:Int) (h:A≠0):(0 < A→0 < α→0 < A*α)∧(0 < A→α≤0→A*α≤0)∧(A < 0→0 < α→A*α < 0)∧(A < 0→α≤0→0≤A*α)∧(A*α=0→α=0):=
 ⟨fun a b=>Int.mul_pos a b,fun a b=>Int.mul_nonpos_of_nonneg_of_nonpos (by omega) b,fun a b=>Int.mul_neg_of_neg_of_pos a b,fun a b=>Int.mul_nonneg_of_nonpos_of_nonpos (by omega) b,fun e=>(Int.mul_eq_zero.mp e).resolve_left h⟩
theorem six {A B C α β γ S:Int} (hA:A≠0) (hB:B≠0) (hC:C≠0) (hS:0 < S) (s:A+B+C=S) (e:A*α+B*β+C*γ=0) (d:¬ (α=0∧β=0∧γ=0)) :
 ((if α≤0∧0 < β∧0 < C then 1 else 0) - (if β≤0∧0 < α∧C < 0 then 1 else 0))+((if β≤0∧0 < γ∧0 < A then 1 else 0) - (if γ≤0∧0 < β∧A < 0 then 1 else 0))+((if γ≤0∧0 < α∧0 < B then 1 else 0) - (if α≤0∧0 < γ∧B < 0 then 1 else 0))=if 0 < C∧0 < A∧0 < B then (1:Int) else 0:=by
 obtain ⟨a1,a2,a3,a4,a5⟩:=mF A α hA
 obtain ⟨b1,b2,b3,b4,b5⟩:=mF B β hB
 obtain ⟨c1,c2,c3,c4,c5⟩:=mF C γ hC
 generalize A*α=P at *
 generalize B*β=Q at *
 generalize C*γ=R at *
 rcases Int.lt_or_gt_of_ne hA with xA | xA <;> rcases Int.lt_or_gt_of_ne hB with xB | xB <;> rcases Int.lt_or_gt_of_ne hC with xC | xC <;>
  by_cases yα:α≤0 <;> by_cases yβ:β≤0 <;> by_cases yγ:γ≤0 <;>
  first
  | (exfalso;omega)
  | (simp only [show ¬ (0 < α)↔α≤0 by omega,show ¬ (0 < β)↔β≤0 by omega,show ¬ (0 < γ)↔γ≤0 by omega, *]
     have nα:(0 < α)↔¬ α≤0:=by omega
     have nβ:(0 < β)↔¬ β≤0:=by omega
     have nγ:(0 < γ)↔¬ γ≤0:=by omega
     have nA:(0 < A)↔¬ A < 0:=by omega
     have nB:(0 < B)↔¬ B < 0:=by omega
     have nC:(0 < C)↔¬ C < 0:=by omega
     simp [nα,nβ,nγ,nA,nB,nC, *] <;> omega)
theorem Jo {w:Way} {x:Pt} {a b c:Pl} (hN:0 < x.N) (t:0 < tw a b c) (f:w.f a≠w.f b) (h1:hw a b x≠0) (h2:hw b c x≠0) (h3:hw c a x≠0) :
 wn w x a b+wn w x b c+wn w x c a=if 0 < hw a b x∧0 < hw b c x∧0 < hw c a x then 1 else 0:=by
 have s:hw b c x+hw c a x+hw a b x=x.N*tw a b c:=by rw [← Jl a b c x];omega
 have k:=six (α:=vD w a x) (β:=vD w b x) (γ:=vD w c x) h2 h3 h1 (Int.mul_pos hN t) s (Jm w a b c x) (fun ⟨z1,z2,_⟩=>f (by
  have:x.N*w.f a=x.N*w.f b:=by unfold vD at z1 z2;omega
  exact Int.eq_of_mul_eq_mul_left (by omega) this))
 have f1:=qh a b x
 have f2:=qh b c x
 have f3:=qh c a x
 have e1:(0 < hw b a x)=(hw a b x < 0):=by rw [f1];exact propext ⟨fun _=>by omega,fun _=>by omega⟩
 have e2:(0 < hw c b x)=(hw b c x < 0):=by rw [f2];exact propext ⟨fun _=>by omega,fun _=>by omega⟩
 have e3:(0 < hw a c x)=(hw c a x < 0):=by rw [f3];exact propext ⟨fun _=>by omega,fun _=>by omega⟩
 unfold wn Mt
 simp only [e1,e2,e3]
 exact k
end L3
namespace L3
def sz (g:List Pl→Int):List (List Pl)→Int
 | []=>0
 | d :: r=>g d+sz g r
theorem rz (g:List Pl→Int):∀ a b:List (List Pl),sz g (a ++ b)=sz g a+sz g b
 | [],b=>by simp [sz]
 | d :: r,b=>by show g d+sz g (r ++ b)=g d+sz g r+sz g b;rw [rz g r b];omega
theorem Az (g:List Pl→Int) {a b:List (List Pl)} (h:a.Perm b):sz g a=sz g b:=by
 induction h with
 | nil=>rfl
 | cons x _ ih=>show g x+_=g x+_;rw [ih]
 | swap x y l=>show g y+(g x+sz g l)=g x+(g y+sz g l);omega
 | trans _ _ i j=>rw [i,j]
theorem Eb {g:List Pl→Int} {f:List Pl→List Pl}:∀ {l:List (List Pl)},(∀ d∈l,g (f d)= -g d)→sz g (l.map f)= -sz g l
 | [],_=>rfl
 | d :: r,h=>by
   show g (f d)+sz g (r.map f)= -(g d+sz g r)
   rw [Eb fun x hx=>h x (List.mem_cons_of_mem _ hx),h d (by simp)]
   omega
theorem AA (g:List Pl→Int) (f:List Pl→Bool):∀ l:List (List Pl),sz g l=sz g (l.filter f)+sz g (l.filter fun v=>!f v)
 | []=>rfl
 | d :: r=>by
   have ih:=AA g f r
   cases q:f d
   ·rw [List.filter_cons_of_neg (by simp [q]),List.filter_cons_of_pos (by simp [q])]
    show g d+sz g r=_+(g d+sz g _)
    omega
   ·rw [List.filter_cons_of_pos (by simp [q]),List.filter_cons_of_neg (by simp [q])]
    show g d+sz g r=g d+sz g _+_
    omega
def wL (w:Way) (x:Pt):List Pl→Int
 | [a,b]=>wn w x a b
 | _=>0
def bk:List Pl→List Pl
 | [a,b]=>[b,a]
 | l=>l
theorem zj:∀ {u v:List Pl},bk u=bk v→u=v:=by
 have key:∀ u,bk (bk u)=u:=fun u=>by
  match u with
  | []=>rfl
  | [_]=>rfl
  | [_,_]=>rfl
  | _ :: _ :: _ :: _=>rfl
 intro u v h
 rw [← key u,h,key v]
theorem dR {α:Type} [DecidableEq α] {a b:List α} (na:a.Nodup) (nb:b.Nodup) (h:∀ x,x∈a↔x∈b):a.Perm b:=(List.perm_ext_iff_of_nodup na nb).mpr h
theorem Gh {D:List (List Pl)} (nd:D.Nodup) (two:∀ d∈D,∃ a b,d= [a,b]) {g:List Pl→Int} (hg:∀ a b,g [b,a]= -g [a,b]):sz g D=sz g (D.filter fun d=>!decide (bk d∈D)):=by
 rw [AA g (fun d=>decide (bk d∈D)) D]
 have z:sz g (D.filter fun d=>decide (bk d∈D))=0:=by
  have n1:(D.filter fun d=>decide (bk d∈D)).Nodup:=nd.filter _
  have n2:((D.filter fun d=>decide (bk d∈D)).map bk).Nodup:=gA n1 fun u _ v _ e=>zj e
  have p:=dR n1 n2 fun d=>by
   rw [List.mem_filter,List.mem_map]
   constructor
   ·rintro ⟨h1,h2⟩
    obtain ⟨a,b,rfl⟩:=two d h1
    exact ⟨[b,a],List.mem_filter.mpr ⟨of_decide_eq_true h2,decide_eq_true h1⟩,rfl⟩
   ·rintro ⟨e,he,rfl⟩
    obtain ⟨h1,h2⟩:=List.mem_filter.mp he
    obtain ⟨a,b,rfl⟩:=two e h1
    exact ⟨of_decide_eq_true h2,decide_eq_true h1⟩
  have e1:=Az g p
  rw [Eb (f:=bk) fun d hd=>by
   obtain ⟨a,b,rfl⟩:=two d (List.mem_filter.mp hd).1
   exact hg a b] at e1
  omega
 rw [z]
 omega
theorem vo.Hi {Q:List Pl} {D:List (List Pl)} (s:dj Q) (nf:¬ Flat Q) (c:vo Q D):(D.filter fun d=>!decide (bk d∈D)).Perm (SL Q):=by
 refine dR (c.nd.filter _) (kE s) fun d=>?_
 rw [List.mem_filter]
 constructor
 ·rintro ⟨h1,h2⟩
  obtain ⟨a,b,rfl,_,_⟩:=c.lN d h1
  refine (cN s).mpr (c.bare a b h1 fun z=>?_)
  rw [Bool.not_eq_true'] at h2
  exact of_decide_eq_false h2 z
 ·intro h
  obtain ⟨a,b,rfl⟩:=mC h
  have h:=(cN s).mp h
  refine ⟨(c.has a b h).resolve_left fun z=>nf (uo h z),?_⟩
  rw [Bool.not_eq_true']
  exact decide_eq_false (c.mE a b h)
theorem Ec {Q:List Pl} {D:List (List Pl)} (s:dj Q) (nf:¬ Flat Q) (c:vo Q D) {g:List Pl→Int} (hg:∀ a b,g [b,a]= -g [a,b]):sz g D=sz g (SL Q):=by
 rw [Gh c.nd (fun d hd=>let ⟨a,b,e,_⟩:=c.lN d hd;⟨a,b,e⟩) hg]
 exact Az g (c.Hi s nf)
theorem AB {Q:List Pl} (s:dj Q) {a b c d:Pl} (h1:aY Q a b) (h2:aY Q c d) (ab:ay.f a < ay.f b) (cb:ay.f c < ay.f b) (cd:ay.f c < ay.f d) (ac:ay.f a≤ay.f c):a=c∧b=d:=by
 have q1:=(h1.2.2.2 c h2.1).1
 have q2:=(h1.2.2.2 d h2.2.1).1
 have q3:=(h2.2.2.2 a h1.1).1
 have q4:=(h2.2.2.2 b h1.2.1).1
 have e1:=qS ay d b a c
 have r1:tw c b a= -tw a b c:=by unfold tw;grind
 rw [r1] at e1
 have m1:0≤(ay.f b - ay.f c)*tw c d a:=Int.mul_nonneg (by omega) q3
 have m2:(ay.f d - ay.f c)* -tw a b c≤0:=Int.mul_nonpos_of_nonneg_of_nonpos (by omega) (by omega)
 have m3:(ay.f a - ay.f c)*tw c d b≤0:=Int.mul_nonpos_of_nonpos_of_nonneg (by omega) q4
 have z1:(ay.f d - ay.f c)* -tw a b c=0:=by omega
 have z2:tw a b c=0:=by
  rcases Int.mul_eq_zero.mp z1 with z | z <;> omega
 have R0:ay.f a=ay.f c:=by
  have:=c8 s h1 h2.1 z2
  omega
 obtain rfl:a=c:=s.inj h1.1 h2.1 R0
 refine ⟨rfl,?_⟩
 have r2:=ug a b d
 have z3:tw a b d=0:=by omega
 have b1:=c8 s h1 h2.2.1 z3
 have b2:=c8 s h2 h1.2.1 (by omega)
 exact s.inj h1.2.1 h2.2.1 (by omega)
theorem Jp {Q:List Pl} (s:dj Q) {x:Pt} {a b c d:Pl} (h1:aY Q a b) (h2:aY Q c d) (k1:vD ay a x≤0) (k2:0 < vD ay b x) (k3:vD ay c x≤0) (k4:0 < vD ay d x) (hN:0 < x.N):a=c∧b=d:=by
 have lt:∀ {u v:Pl},vD ay u x≤0→0 < vD ay v x→ay.f u < ay.f v:=fun {u v} i j=>by
  unfold vD at i j
  have:x.N*ay.f u < x.N*ay.f v:=by omega
  exact Int.lt_of_mul_lt_mul_left this (by omega)
 rcases Int.le_total (ay.f a) (ay.f c) with z | z
 ·exact AB s h1 h2 (lt k1 k2) (lt k3 k2) (lt k3 k4) z
 ·obtain ⟨e1,e2⟩:=AB s h2 h1 (lt k3 k4) (lt k1 k4) (lt k1 k2) z
  exact ⟨e1.symm,e2.symm⟩
theorem uA {g:List Pl→Int}:∀ {l:List (List Pl)},l.Nodup→(∀ d∈l,g d≤1)→(∀ d∈l,∀ e∈l,0 < g d→0 < g e→d=e)→sz g l≤1
 | [],_,_,_=>by simp [sz]
 | d :: r,n,h1,h2=>by
   obtain ⟨n1,n2⟩:=List.nodup_cons.mp n
   show g d+sz g r≤1
   by_cases z:0 < g d
   ·have k:∀ {l:List (List Pl)},(∀ e∈l,g e≤0)→sz g l≤0:=fun {l} hl=>by
     induction l with
     | nil=>simp [sz]
     | cons e l ih=>
       have:=ih fun x hx=>hl x (List.mem_cons_of_mem _ hx)
       have:=hl e (by simp)
       show g e+sz g l≤0
       omega
    have:=k (l:=r) fun e he=>by
     apply Classical.byContradiction
     intro y
     have:=h2 d (by simp) e (List.mem_cons_of_mem _ he) z (by omega)
     exact n1 (this▸he)
    have:=h1 d (by simp)
    omega
   ·have:=uA n2 (fun e he=>h1 e (List.mem_cons_of_mem _ he)) (fun e he u hu=>h2 e (List.mem_cons_of_mem _ he) u (List.mem_cons_of_mem _ hu))
    omega
theorem Ed (w:Way) (x:Pt) (a b:Pl):wn w x a b≤1∧(0 < wn w x a b→vD w a x≤0∧0 < vD w b x):=by
 unfold wn Mt
 split <;> rename_i h1 <;> split <;> rename_i h2
 ·exact ⟨by omega,fun _=>⟨h1.1,h1.2.1⟩⟩
 ·exact ⟨by omega,fun _=>⟨h1.1,h1.2.1⟩⟩
 ·exact ⟨by omega,fun z=>by omega⟩
 ·exact ⟨by omega,fun z=>by omega⟩
theorem Gi {Q:List Pl} (s:dj Q) {x:Pt} (hN:0 < x.N):sz (wL ay x) (SL Q)≤1:=by
 refine uA (kE s) (fun d hd=>?_) fun d hd e he k1 k2=>?_
 ·obtain ⟨a,b,rfl⟩:=mC hd
  exact (Ed ay x a b).1
 ·obtain ⟨a,b,rfl⟩:=mC hd
  obtain ⟨u,v,rfl⟩:=mC he
  obtain ⟨i1,i2⟩:=(Ed ay x a b).2 k1
  obtain ⟨j1,j2⟩:=(Ed ay x u v).2 k2
  obtain ⟨rfl,rfl⟩:=Jp s ((cN s).mp hd) ((cN s).mp he) i1 i2 j1 j2 hN
  rfl
def ins (x:Pt):List Pl→Int
 | [a,b,c]=>if 0 < hw a b x∧0 < hw b c x∧0 < hw c a x then 1 else 0
 | _=>0
def Gen (Q:List Pl) (x:Pt):Prop:=0 < x.N∧∀ a∈Q,∀ b∈Q,a≠b→hw a b x≠0
theorem nQ.parts {Q t:List Pl} (h:nQ Q t):∃ a b c,t= [a,b,c]∧0 < tw a b c∧a∈Q∧b∈Q∧c∈Q∧a≠b∧b≠c∧c≠a:=by
 obtain ⟨⟨a,b,c,rfl,l1,l2,p⟩,h2⟩:=h
 refine ⟨a,b,c,rfl,p,h2 a (by simp),h2 b (by simp),h2 c (by simp),fun z=>?_,fun z=>?_,fun z=>?_⟩
 ·rw [z] at p;unfold tw at p;exact absurd p (by grind)
 ·rw [z] at p;unfold tw at p;exact absurd p (by grind)
 ·rw [z] at p;unfold tw at p;exact absurd p (by grind)
theorem Gj {Q t:List Pl} {x:Pt} (s:dj Q) (g:Gen Q x) (h:nQ Q t):sz (wL ay x) (eZ t)=ins x t:=by
 obtain ⟨a,b,c,rfl,p,ha,hb,hc,n1,n2,n3⟩:=h.parts
 show wn ay x a b+(wn ay x b c+(wn ay x c a+0))=if 0 < hw a b x∧0 < hw b c x∧0 < hw c a x then 1 else 0
 have:=Jo (w:=ay) g.1 p (wj s ha hb n1) (g.2 a ha b hb n1) (g.2 b hb c hc n2) (g.2 c hc a ha n3)
 rw [← this]
 omega
theorem AD {Q:List Pl} {x:Pt} (s:dj Q) (g:Gen Q x):∀ {ts:List (List Pl)},(∀ t∈ts,nQ Q t)→sz (wL ay x) (bq ts)=sz (ins x) ts
 | [],_=>rfl
 | t :: r,h=>by
   have e:bq (t :: r)=eZ t ++ bq r:=by unfold bq;rw [List.flatMap_cons]
   rw [e,rz,Gj s g (h t (by simp)),AD s g fun u hu=>h u (List.mem_cons_of_mem _ hu)]
   rfl
structure jf (Q:List Pl) (ts:List (List Pl)):Prop where
 sO:dj Q
 JY:vo Q (bq ts)
 yt:∀ t∈ts,nQ Q t
theorem jf.Jq {Q:List Pl} {ts:List (List Pl)} (c:jf Q ts) (nf:¬ Flat Q) {x:Pt} (g:Gen Q x):sz (ins x) ts≤1:=by
 rw [← AD c.sO g c.yt,Ec c.sO nf c.JY fun a b=>Gg ay x a b]
 exact Gi c.sO g.1
theorem Ef {g:List Pl→Int} (h0:∀ t,0≤g t) {t u:List Pl} (ne:t≠u):∀ {ts:List (List Pl)},t∈ts→u∈ts→g t+g u≤sz g ts
 | v :: r,ht,hu=>by
   show _≤g v+sz g r
   have one:∀ {l:List (List Pl)} {z:List Pl},z∈l→g z≤sz g l:=fun {l z} hz=>by
    induction l with
    | nil=>cases hz
    | cons e l ih=>
      have n:0≤sz g l:=by
       clear ih hz
       induction l with
       | nil=>simp [sz]
       | cons a l ih=>have:=h0 a;show 0≤g a+sz g l;omega
      show g z≤g e+sz g l
      rcases List.mem_cons.mp hz with rfl | m
      ·omega
      ·have:=ih m;have:=h0 e;omega
   rcases List.mem_cons.mp ht with e1 | k1
   ·rcases List.mem_cons.mp hu with e2 | k2
    ·exact absurd (e1.trans e2.symm) ne
    ·have:=one k2;rw [e1];omega
   ·rcases List.mem_cons.mp hu with e2 | k2
    ·have:=one k1;rw [e2];omega
    ·have:=Ef h0 ne k1 k2;have:=h0 v;omega
theorem Jr (x:Pt) (t:List Pl):0≤ins x t:=by
 unfold ins
 split
 ·split <;> omega
 ·omega
theorem jf.one {Q:List Pl} {ts:List (List Pl)} (c:jf Q ts) (nf:¬ Flat Q) {x:Pt} (g:Gen Q x) {t u:List Pl} (ht:t∈ts) (hu:u∈ts) (it:ins x t=1) (iu:ins x u=1):t=u:=by
 apply Classical.byContradiction
 intro ne
 have:=Ef (Jr x) ne ht hu
 have:=c.Jq nf g
 omega
end L3
namespace L3
def AE (p q c d:Pl):Int:=(q.x - p.x)*(d.x - c.x)+(q.y - p.y)*(d.y - c.y)
theorem Js (g:Pl→Pl→Nat) (Q:List Pl):∃ B:Nat,∀ p∈Q,∀ q∈Q,g p q≤B:=by
 have one:∀ (h:Pl→Nat) (R:List Pl),∃ B:Nat,∀ p∈R,h p≤B:=fun h R=>by
  induction R with
  | nil=>exact ⟨0,fun p hp=>by cases hp⟩
  | cons a R ih=>
    obtain ⟨B,hB⟩:=ih
    refine ⟨B+h a,fun p hp=>?_⟩
    rcases List.mem_cons.mp hp with rfl | m
    ·omega
    ·have:=hB p m;omega
 have two:∀ (R:List Pl),∃ B:Nat,∀ p∈R,∀ q∈Q,g p q≤B:=fun R=>by
  induction R with
  | nil=>exact ⟨0,fun p hp=>by cases hp⟩
  | cons a R ih=>
    obtain ⟨B,hB⟩:=ih
    obtain ⟨C,hC⟩:=one (g a) Q
    refine ⟨B+C,fun p hp q hq=>?_⟩
    rcases List.mem_cons.mp hp with rfl | m
    ·have:=hC q hq;omega
    ·have:=hB p m q hq;omega
 exact two Q
theorem OZ {B t u v:Int} (h0:0≤B) (hu: -B≤u∧u≤B) (hv: -B≤v∧v≤B) (h:0 < t∨(t=0∧(0 < u∨(u=0∧0 < v)))):0 < (B+1)*(B+1)*t+(B+1)*u+v:=by
 rcases h with h | ⟨rfl,h | ⟨rfl,h⟩⟩
 ·have m1:0≤(B+1)*(B+1)*(t - 1):=Int.mul_nonneg (Int.mul_nonneg (by omega) (by omega)) (by omega)
  have m2:0≤(B+1)*(u+B):=Int.mul_nonneg (by omega) (by omega)
  have e1:(B+1)*(B+1)*(t - 1)=(B+1)*(B+1)*t - (B+1)*(B+1):=by rw [Int.mul_sub,Int.mul_one]
  have e2:(B+1)*(u+B)=(B+1)*u+(B+1)*B:=Int.mul_add _ _ _
  have e3:(B+1)*(B+1)=(B+1)*B+(B+1):=by rw [Int.mul_add,Int.mul_one]
  omega
 ·have m2:0≤(B+1)*(u - 1):=Int.mul_nonneg (by omega) (by omega)
  have e2:(B+1)*(u - 1)=(B+1)*u - (B+1):=by rw [Int.mul_sub,Int.mul_one]
  rw [Int.mul_zero]
  omega
 ·rw [Int.mul_zero,Int.mul_zero]
  omega
theorem uB {p q c d:Pl} (n1:p≠q) (n2:c≠d) (h:tw p q d - tw p q c=0):AE p q c d≠0:=fun z=>by
 have e:(tw p q d - tw p q c)*(tw p q d - tw p q c)+AE p q c d*AE p q c d=((q.x - p.x)*(q.x - p.x)+(q.y - p.y)*(q.y - p.y))*((d.x - c.x)*(d.x - c.x)+(d.y - c.y)*(d.y - c.y)):=by unfold tw AE;grind
 rw [h,z] at e
 have pos:∀ u v:Pl,u≠v→0 < (v.x - u.x)*(v.x - u.x)+(v.y - u.y)*(v.y - u.y):=fun u v n=>by
  have s1:0≤(v.x - u.x)*(v.x - u.x):=by
   rcases Int.le_total 0 (v.x - u.x) with k | k
   ·exact Int.mul_nonneg k k
   ·exact Int.mul_nonneg_of_nonpos_of_nonpos k k
  have s2:0≤(v.y - u.y)*(v.y - u.y):=by
   rcases Int.le_total 0 (v.y - u.y) with k | k
   ·exact Int.mul_nonneg k k
   ·exact Int.mul_nonneg_of_nonpos_of_nonpos k k
  apply Classical.byContradiction
  intro k
  have z1:(v.x - u.x)*(v.x - u.x)=0:=by omega
  have z2:(v.y - u.y)*(v.y - u.y)=0:=by omega
  have z1:v.x - u.x=0:=(Int.mul_eq_zero.mp z1).elim id id
  have z2:v.y - u.y=0:=(Int.mul_eq_zero.mp z2).elim id id
  exact n (by cases u;cases v;simp only [Pl.mk.injEq];dsimp only at z1 z2;omega)
 have:=Int.mul_pos (pos p q n1) (pos c d n2)
 omega
theorem O0 {Q:List Pl} {c d:Pl} (ne:c≠d):∃ x:Pt,Gen Q x∧∀ p∈Q,∀ q∈Q,(0 < tw p q c∨(tw p q c=0∧(0 < tw p q d∨(tw p q d=0∧0 < AE p q c d))))→0 < hw p q x:=by
 obtain ⟨B,hB⟩:=Js (fun p q=>(tw p q d - tw p q c).natAbs+(AE p q c d).natAbs) Q
 refine ⟨⟨((B:Int)+1)*(B+1)*c.x+(B+1)*(d.x - c.x) - (d.y - c.y),((B:Int)+1)*(B+1)*c.y+(B+1)*(d.y - c.y)+(d.x - c.x),((B:Int)+1)*(B+1)⟩,?_⟩
 have e:∀ p q,hw p q ⟨((B:Int)+1)*(B+1)*c.x+(B+1)*(d.x - c.x) - (d.y - c.y),((B:Int)+1)*(B+1)*c.y+(B+1)*(d.y - c.y)+(d.x - c.x),((B:Int)+1)*(B+1)⟩=((B:Int)+1)*(B+1)*tw p q c+(B+1)*(tw p q d - tw p q c)+AE p q c d:=fun p q=>by unfold hw tw AE;grind
 have key:∀ p∈Q,∀ q∈Q,(0 < tw p q c∨(tw p q c=0∧(0 < tw p q d∨(tw p q d=0∧0 < AE p q c d))))→0 < hw p q ⟨((B:Int)+1)*(B+1)*c.x+(B+1)*(d.x - c.x) - (d.y - c.y),((B:Int)+1)*(B+1)*c.y+(B+1)*(d.y - c.y)+(d.x - c.x),((B:Int)+1)*(B+1)⟩:=fun p hp q hq h=>by
  rw [e]
  have b:=hB p hp q hq
  exact OZ (by omega) (by omega) (by omega) (h.imp id fun ⟨z,h⟩=>⟨z,h.imp (fun _=>by omega) fun ⟨z',h⟩=>⟨by omega,h⟩⟩)
 refine ⟨⟨Int.mul_pos (by omega) (by omega),fun p hp q hq n z=>?_⟩,key⟩
 have fl:∀ r,tw q p r= -tw p q r:=fun r=>eV p q r
 have fd:AE q p c d= -AE p q c d:=by unfold AE;grind
 have fh:=qh p q ⟨((B:Int)+1)*(B+1)*c.x+(B+1)*(d.x - c.x) - (d.y - c.y),((B:Int)+1)*(B+1)*c.y+(B+1)*(d.y - c.y)+(d.x - c.x),((B:Int)+1)*(B+1)⟩
 have k1:=key p hp q hq
 have k2:=key q hq p hp
 rw [fl,fl,fd] at k2
 by_cases c0:tw p q c=0
 ·by_cases d0:tw p q d=0
  ·have:=uB n ne (by omega)
   rcases Int.lt_or_gt_of_ne this with y | y
   ·have:=k2 (by omega);omega
   ·have:=k1 (by omega);omega
  ·rcases Int.lt_or_gt_of_ne d0 with y | y
   ·have:=k2 (by omega);omega
   ·have:=k1 (by omega);omega
 ·rcases Int.lt_or_gt_of_ne c0 with y | y
  ·have:=k2 (by omega);omega
  ·have:=k1 (by omega);omega
def xX (t:List Pl) (a b c:Pl):Prop:=t= [a,b,c]∨t= [b,c,a]∨t= [c,a,b]
theorem xX.dir {t:List Pl} {a b c:Pl} (r:xX t a b c):(eZ t).Perm [[a,b],[b,c],[c,a]]:=by
 rcases r with rfl | rfl | rfl
 ·exact .refl _
 ·show [[b,c],[c,a],[a,b]].Perm _
  exact (List.perm_append_comm (l₁:=[[b,c],[c,a]]) (l₂:=[[a,b]]))
 ·show [[c,a],[a,b],[b,c]].Perm _
  exact (List.perm_append_comm (l₁:=[[c,a]]) (l₂:=[[a,b],[b,c]]))
theorem xX.ins {t:List Pl} {a b c:Pl} (r:xX t a b c) {x:Pt} (h1:0 < hw a b x) (h2:0 < hw b c x) (h3:0 < hw c a x):ins x t=1:=by
 rcases r with rfl | rfl | rfl
 ·exact if_pos ⟨h1,h2,h3⟩
 ·exact if_pos ⟨h2,h3,h1⟩
 ·exact if_pos ⟨h3,h1,h2⟩
theorem xX.mem {t:List Pl} {a b c:Pl} (r:xX t a b c) (q:Pl):q∈t↔q=a∨q=b∨q=c:=by
 rcases r with rfl | rfl | rfl <;> simp only [List.mem_cons,List.not_mem_nil,or_false]
 ·exact ⟨fun h=>by rcases h with h | h | h <;> simp [h],fun h=>by rcases h with h | h | h <;> simp [h]⟩
 ·exact ⟨fun h=>by rcases h with h | h | h <;> simp [h],fun h=>by rcases h with h | h | h <;> simp [h]⟩
theorem xX.tw {Q t:List Pl} {a b c:Pl} (r:xX t a b c) (h:nQ Q t):0 < tw a b c∧a∈Q∧b∈Q∧c∈Q:=by
 obtain ⟨u,v,w,rfl,p,hu,hv,hw,_⟩:=h.parts
 have e1:=yW u v w
 have e2:=FN u v w
 rcases r with e | e | e <;> injection e with x1 e <;> injection e with x2 e <;> injection e with x3 e <;> subst x1 x2 x3
 ·exact ⟨p,hu,hv,hw⟩
 ·exact ⟨by omega,hw,hu,hv⟩
 ·exact ⟨by omega,hv,hw,hu⟩
theorem Jt {Q t:List Pl} {a b:Pl} (h:nQ Q t) (m: [a,b]∈eZ t):∃ c,xX t a b c:=by
 obtain ⟨u,v,w,rfl,_⟩:=h.parts
 have m: [a,b]= [u,v]∨[a,b]= [v,w]∨[a,b]= [w,u]:=by simpa [eZ] using m
 rcases m with e | e | e <;> obtain ⟨rfl,rfl⟩:=aQ e
 ·exact ⟨w,.inl rfl⟩
 ·exact ⟨u,.inr (.inr rfl)⟩
 ·exact ⟨v,.inr (.inl rfl)⟩
theorem rA {ts:List (List Pl)} {w:List Pl}:w∈bq ts↔∃ t∈ts,w∈eZ t:=List.mem_flatMap
section
variable {Q:List Pl} {ts:List (List Pl)} {a b c d:Pl} {t1 t2:List Pl}
theorem rB (p1:0 < tw a b c) (p2:0 < tw b a d) (cv:tw c d a*tw c d b < 0):0 < tw c d b∧tw c d a < 0:=by
 have e:tw c d b - tw c d a=tw a b c+tw b a d:=by unfold tw;grind
 by_cases z:0 < tw c d b
 ·refine ⟨z,?_⟩
  apply Classical.byContradiction
  intro k
  have:=Int.mul_nonneg (a:=tw c d a) (b:=tw c d b) (by omega) (by omega)
  omega
 ·have:=Int.mul_nonneg_of_nonpos_of_nonpos (a:=tw c d a) (b:=tw c d b) (by omega) (by omega)
  omega
theorem eF (a b:Pl):tw a b a=0∧tw a b b=0∧tw a a b=0:=by unfold tw;grind
theorem jf.new_one (k:jf Q ts) (nf:¬ Flat Q) (h1:t1∈ts) (r1:xX t1 a b c) (p2:0 < tw b a d) (hd:d∈Q) (cv:tw c d a*tw c d b < 0): [c,d]∉bq ts:=fun m=>by
 obtain ⟨t,ht,m⟩:=rA.mp m
 obtain ⟨e,re⟩:=Jt (k.yt t ht) m
 obtain ⟨p1,ha,hb,hc⟩:=r1.tw (k.yt t1 h1)
 obtain ⟨p3,_,_,he⟩:=re.tw (k.yt t ht)
 obtain ⟨s1,s2⟩:=rB p1 p2 cv
 have ne:c≠d:=fun z=>by rw [z,(eF d b).2.2] at s1;omega
 obtain ⟨x,g,hx⟩:=O0 (Q:=Q) ne
 have i1:ins x t=1:=by
  refine re.ins (hx c hc d hd (.inr ⟨(eF c d).1,.inr ⟨(eF c d).2.1,?_⟩⟩)) (hx d hd e he (.inl (by have:=yW c d e;omega))) (hx e he c hc (.inr ⟨(eF e c).2.1,.inl (by have:=FN c d e;omega)⟩))
  have n:=uB (p:=c) (q:=d) (c:=c) (d:=d) ne ne (by rw [(eF c d).1,(eF c d).2.1];omega)
  have:0≤AE c d c d:=by
   unfold AE
   have q:∀ z:Int,0≤z*z:=fun z=>by
    rcases Int.le_total 0 z with k | k
    ·exact Int.mul_nonneg k k
    ·exact Int.mul_nonneg_of_nonpos_of_nonpos k k
   have:=q (d.x - c.x)
   have:=q (d.y - c.y)
   omega
  omega
 have i2:ins x t1=1:=by
  refine r1.ins (hx a ha b hb (.inl p1)) (hx b hb c hc (.inr ⟨(eF b c).2.1,.inl ?_⟩)) (hx c hc a ha (.inr ⟨(eF c a).1,.inl ?_⟩))
  ·have:=yW b c d;omega
  ·have:=ug c d a;omega
 have ee:=k.one nf g ht h1 i1 i2
 subst ee
 have hd':d∈t:=(re.mem d).mpr (.inr (.inl rfl))
 rcases (r1.mem d).mp hd' with z | z | z
 ·rw [z,(eF b a).2.1] at p2;omega
 ·rw [z,(eF b a).1] at p2;omega
 ·exact ne z.symm
theorem jf.Gk (k:jf Q ts) (nf:¬ Flat Q) (h1:t1∈ts) (r1:xX t1 a b c) (h2:t2∈ts) (r2:xX t2 b a d) (cv:tw c d a*tw c d b < 0): [c,d]∉bq ts∧[d,c]∉bq ts:=by
 obtain ⟨p1,ha,hb,hc⟩:=r1.tw (k.yt t1 h1)
 obtain ⟨p2,_,_,hd⟩:=r2.tw (k.yt t2 h2)
 refine ⟨k.new_one nf h1 r1 p2 hd cv,k.new_one nf h2 r2 p1 hc ?_⟩
 rw [eV c d b,eV c d a,Int.neg_mul_neg,Int.mul_comm]
 exact cv
theorem vo.swap {D D' E:List (List Pl)} (k:vo Q D) (p:D.Perm ([a,b] :: [b,a] :: E)) (p':D'.Perm ([c,d] :: [d,c] :: E)) (n1: [c,d]∉D) (n2: [d,c]∉D) (ne:c≠d) (hc:c∈Q) (hd:d∈Q)
 (s1:¬ aY Q a b) (s2:¬ aY Q b a) (s3:¬ aY Q c d) (s4:¬ aY Q d c):vo Q D':=by
 have m:∀ w,w∈D↔w= [a,b]∨w= [b,a]∨w∈E:=fun w=>by rw [p.mem_iff];simp only [List.mem_cons]
 have m':∀ w,w∈D'↔w= [c,d]∨w= [d,c]∨w∈E:=fun w=>by rw [p'.mem_iff];simp only [List.mem_cons]
 have nd:=p.nodup_iff.mp k.nd
 obtain ⟨e1,nd⟩:=List.nodup_cons.mp nd
 obtain ⟨e2,nd⟩:=List.nodup_cons.mp nd
 refine ⟨?_,?_,?_,?_,?_⟩
 ·refine p'.nodup_iff.mpr (List.nodup_cons.mpr ⟨fun z=>?_,List.nodup_cons.mpr ⟨fun z=>n2 ((m _).mpr (.inr (.inr z))),nd⟩⟩)
  rcases List.mem_cons.mp z with z | z
  ·exact ne (aQ z).1
  ·exact n1 ((m _).mpr (.inr (.inr z)))
 ·intro w hw
  rcases (m' w).mp hw with rfl | rfl | z
  ·exact ⟨c,d,rfl,hc,hd⟩
  ·exact ⟨d,c,rfl,hd,hc⟩
  ·exact k.lN w ((m w).mpr (.inr (.inr z)))
 ·intro u v h1 h2
  have hE: [u,v]∈E:=by
   rcases (m' _).mp h1 with z | z | z
   ·obtain ⟨rfl,rfl⟩:=aQ z
    exact absurd ((m' _).mpr (.inr (.inl rfl))) h2
   ·obtain ⟨rfl,rfl⟩:=aQ z
    exact absurd ((m' _).mpr (.inl rfl)) h2
   ·exact z
  refine k.bare u v ((m _).mpr (.inr (.inr hE))) fun z=>?_
  rcases (m _).mp z with z | z | z
  ·obtain ⟨rfl,rfl⟩:=aQ z
   exact e2 hE
  ·obtain ⟨rfl,rfl⟩:=aQ z
   exact e1 (List.mem_cons_of_mem _ hE)
  ·exact h2 ((m' _).mpr (.inr (.inr z)))
 ·intro u v h z
  rcases (m' _).mp z with z | z | z
  ·obtain ⟨rfl,rfl⟩:=aQ z
   exact s4 h
  ·obtain ⟨rfl,rfl⟩:=aQ z
   exact s3 h
  ·exact k.mE u v h ((m _).mpr (.inr (.inr z)))
 ·intro u v h
  refine (k.has u v h).imp id fun z=>?_
  rcases (m _).mp z with z | z | z
  ·obtain ⟨rfl,rfl⟩:=aQ z
   exact absurd h s1
  ·obtain ⟨rfl,rfl⟩:=aQ z
   exact absurd h s2
  ·exact (m' _).mpr (.inr (.inr z))
theorem jf.nodup (k:jf Q ts):ts.Nodup:=by
 have nd:=k.JY.nd
 have yt:=k.yt
 clear k
 induction ts with
 | nil=>exact .nil
 | cons t r ih=>
   have e:bq (t :: r)=eZ t ++ bq r:=by unfold bq;rw [List.flatMap_cons]
   rw [e] at nd
   obtain ⟨_,n2,n3⟩:=List.nodup_append.mp nd
   refine List.nodup_cons.mpr ⟨fun z=>?_,ih n2 fun u hu=>yt u (List.mem_cons_of_mem _ hu)⟩
   obtain ⟨u,v,w,e,_⟩:=(yt t (by simp)).parts
   have m: [u,v]∈eZ t:=by rw [e];simp [eZ]
   exact n3 _ m _ (rA.mpr ⟨t,z,m⟩) rfl
theorem jf.flip (k:jf Q ts) (nf:¬ Flat Q) {rest ts':List (List Pl)} {u1 u2:List Pl} (p:ts.Perm (t1 :: t2 :: rest)) (r1:xX t1 a b c) (r2:xX t2 b a d) (cv:tw c d a*tw c d b < 0)
 (p':ts'.Perm (u1 :: u2 :: rest)) (v1:xX u1 a d c) (v2:xX u2 b c d) (l1:kB u1) (l2:kB u2):jf Q ts':=by
 have h1:t1∈ts:=p.mem_iff.mpr (by simp)
 have h2:t2∈ts:=p.mem_iff.mpr (by simp)
 obtain ⟨p1,ha,hb,hc⟩:=r1.tw (k.yt t1 h1)
 obtain ⟨p2,_,_,hd⟩:=r2.tw (k.yt t2 h2)
 obtain ⟨s1,s2⟩:=rB p1 p2 cv
 obtain ⟨n1,n2⟩:=k.Gk nf h1 r1 h2 r2 cv
 have ne:c≠d:=fun z=>by rw [z,(eF d b).2.2] at s1;omega
 refine ⟨k.sO,?_,fun t ht=>?_⟩
 ·have e1:(bq ts).Perm ([a,b] :: [b,a] :: ([b,c] :: [c,a] :: [a,d] :: [d,b] :: bq rest)):=by
   have q1:(bq ts).Perm (eZ t1 ++ (eZ t2 ++ bq rest)):=by
    have:=p.flatMap_right (f:=eZ)
    unfold bq
    simpa only [List.flatMap_cons] using this
   refine q1.trans (((r1.dir.append_right _).trans ((r2.dir.append_right _).append_left _)).trans ?_)
   exact .cons _ (List.perm_middle (l₁:=[[b,c],[c,a]]))
  have e2:(bq ts').Perm ([c,d] :: [d,c] :: ([b,c] :: [c,a] :: [a,d] :: [d,b] :: bq rest)):=by
   have q1:(bq ts').Perm (eZ u1 ++ (eZ u2 ++ bq rest)):=by
    have:=p'.flatMap_right (f:=eZ)
    unfold bq
    simpa only [List.flatMap_cons] using this
   refine q1.trans (((v1.dir.append_right _).trans ((v2.dir.append_right _).append_left _)).trans ?_)
   show ([a,d] :: [d,c] :: [c,a] :: [b,c] :: [c,d] :: [d,b] :: bq rest).Perm _
   refine (List.perm_middle (l₁:=[[a,d],[d,c],[c,a],[b,c]])).trans (.cons _ ?_)
   refine (List.Perm.swap _ _ _).trans (.cons _ ?_)
   exact (List.reverse_perm [[b,c],[c,a],[a,d]]).append_right _
  refine k.JY.swap e1 e2 n1 n2 ne hc hd (fun h=>?_) (fun h=>?_) (fun h=>?_) (fun h=>?_)
  ·have:=(h.2.2.2 d hd).1;have:=eV a b d;omega
  ·have:=(h.2.2.2 c hc).1;have:=eV a b c;omega
  ·have:=(h.2.2.2 a ha).1;omega
  ·have:=(h.2.2.2 b hb).1;have:=eV c d b;omega
 ·rcases List.mem_cons.mp (p'.mem_iff.mp ht) with rfl | ht
  ·exact ⟨l1,fun q hq=>by rcases (v1.mem q).mp hq with rfl | rfl | rfl <;> assumption⟩
  ·rcases List.mem_cons.mp ht with rfl | ht
   ·exact ⟨l2,fun q hq=>by rcases (v2.mem q).mp hq with rfl | rfl | rfl <;> assumption⟩
   ·exact k.yt t (p.mem_iff.mpr (List.mem_cons_of_mem _ (List.mem_cons_of_mem _ ht)))
end
end L3
namespace L3
theorem zk {Q:List Pl} {p:Pl} (s:dj (Q ++ [p])) (h:Q≠[]):(SL (Q ++ [p])).length+(bZ Q p).length=(SL Q).length+2:=by
 have g:=Av s
 have so:=s.old
 have l2:2≤(Q ++ [p]).length:=by
  have:=List.length_pos_iff.mpr h
  rw [List.length_append,List.length_singleton];omega
 obtain ⟨u,hu⟩:=(oA s l2).2 p (by simp)
 obtain ⟨v,hv⟩:=qR s hu
 have sp:=split_len (yv p) (SL Q)
 have np:∀ a b,[a,b]∈SL Q→a≠p∧b≠p:=fun a b m=>by
  have:=(cN so).mp m
  exact ⟨fun z=>s.out (z▸this.1),fun z=>s.out (z▸this.2.1)⟩
 have:=sub_len (l:=[u,p] :: [p,v] :: (SL Q).filter (fun v=>!yv p v)) (m:=SL (Q ++ [p])) (by
  refine List.nodup_cons.mpr ⟨fun z=>?_,List.nodup_cons.mpr ⟨fun z=>?_,(kE so).filter _⟩⟩
  ·rcases List.mem_cons.mp z with z | z
   ·exact hu.2.2.1 (aQ z).1
   ·exact (np u p (List.mem_filter.mp z).1).2 rfl
  ·exact (np p v (List.mem_filter.mp z).1).1 rfl) (fun w hw=>by
  rcases List.mem_cons.mp hw with rfl | hw
  ·exact (cN s).mpr hu
  ·rcases List.mem_cons.mp hw with rfl | hw
   ·exact (cN s).mpr hv
   ·obtain ⟨m,k⟩:=List.mem_filter.mp hw
    obtain ⟨a,b,rfl⟩:=mC m
    have sd:=(cN so).mp m
    refine (cN s).mpr ((gJ s sd.1 sd.2.1).mpr ⟨sd,?_⟩)
    replace k:(!decide (tw a b p < 0))=true:=k
    rw [Bool.not_eq_true'] at k
    have:=of_decide_eq_false k
    omega)
 rw [List.length_cons,List.length_cons] at this
 unfold bZ at *
 omega
theorem rC {qs:List Pl} (s:dj qs):∀ k,k+1≤qs.length→(j5 qs (k+1)).length+(SL (qs.take (k+1))).length=2*k
 | 0,h=>by
   have e:SL (qs.take 0)= []:=kC (by simp)
   rw [kC (by simp;omega)]
   show (j5 qs 0 ++ (bZ (qs.take 0) (jc qs 0)).map (xD (jc qs 0))).length+0=0
   unfold bZ
   rw [e]
   rfl
 | k+1,h=>by
   have st:=s.take (k+2)
   have ih:=rC s k (by omega)
   rw [e9 (by omega)] at st ⊢
   have ne:qs.take (k+1)≠[]:=fun z=>by
    have:=congrArg List.length z
    rw [List.length_take,List.length_nil] at this
    omega
   have:=zk st ne
   show (j5 qs (k+1) ++ (bZ (qs.take (k+1)) (jc qs (k+1))).map (xD (jc qs (k+1)))).length+_=_
   rw [List.length_append,List.length_map]
   omega
theorem BQ {qs:List Pl} (s:dj qs) (h:2≤qs.length):(j5 qs qs.length).length+(aR qs).length+2=2*qs.length:=by
 obtain ⟨l2,e,_⟩:=qQ s h
 have:=rC s (qs.length - 1) (by omega)
 rw [show qs.length - 1+1=qs.length by omega,List.take_length,e,List.length_zipWith,List.length_append,List.length_drop,List.length_take] at this
 omega
theorem Eg (u:List Pl):bk (bk u)=u:=by
 match u with
 | []=>rfl
 | [_]=>rfl
 | [_,_]=>rfl
 | _ :: _ :: _ :: _=>rfl
def bS (w:List Pl):List Pl:=
 match w with
 | [a,b]=>[lo a b,hi a b]
 | w=>w
theorem vE {a b:Pl} (n:a≠b):(aZ a b∧bS [a,b]= [a,b])∨(aZ b a∧bS [a,b]= [b,a]):=by
 unfold bS lo hi
 rcases iG n with z | z
 ·exact .inl ⟨z,by simp only [if_neg (bH z),if_pos z]⟩
 ·exact .inr ⟨z,by simp only [if_neg (bH z),if_pos z]⟩
theorem qi {a b:Pl} (n:a≠b):bS [b,a]=bS [a,b]:=by
 rcases vE n with ⟨z,e⟩ | ⟨z,e⟩ <;> rcases vE (Ne.symm n) with ⟨y,f⟩ | ⟨y,f⟩
 ·exact absurd z (bH y)
 ·rw [e,f]
 ·rw [e,f]
 ·exact absurd z (bH y)
theorem xY {D qs:List (List Pl)} (nd:D.Nodup) (two:∀ d∈D,∃ a b,d= [a,b]∧a≠b) (nq:qs.Nodup) (mem:∀ s,s∈qs↔s∈D.map bS) :
 2*qs.length=D.length+(D.filter fun d=>!decide (bk d∈D)).length:=by
 have Mu:∀ d∈D,bS d=d∨(bS d=bk d∧bS d≠d):=fun d hd=>by
  obtain ⟨a,b,rfl,n⟩:=two d hd
  rcases vE n with ⟨_,e⟩ | ⟨_,e⟩
  ·exact .inl e
  ·exact .inr ⟨e,fun z=>n (aQ (z.symm.trans e)).1⟩
 have sb:∀ d∈D,bS (bk d)=bS d:=fun d hd=>by
  obtain ⟨a,b,rfl,n⟩:=two d hd
  exact qi n
 have nb:∀ d∈D,bk d≠d:=fun d hd z=>by
  obtain ⟨a,b,rfl,n⟩:=two d hd
  exact n (aQ z).2
 have eR:∀ d,d∈D.filter (fun d=>decide (bS d=d) || !decide (bk d∈D))↔d∈D∧(bS d=d∨bk d∉D):=fun d=>by
  rw [List.mem_filter,Bool.or_eq_true,Bool.not_eq_true',decide_eq_true_eq,decide_eq_false_iff_not]
 have p:qs.Perm ((D.filter fun d=>decide (bS d=d) || !decide (bk d∈D)).map bS):=by
  refine dR nq (gA (nd.filter _) fun d hd e he z=>?_) fun s=>?_
  ·obtain ⟨d1,d2⟩:=(eR d).mp hd
   obtain ⟨e1,e2⟩:=(eR e).mp he
   rcases Mu d d1 with x | ⟨x,x'⟩ <;> rcases Mu e e1 with y | ⟨y,y'⟩
   ·rw [← x,z,y]
   ·exfalso
    have:bk e=d:=by rw [← y,← z,x]
    exact (e2.resolve_left y') (this▸d1)
   ·exfalso
    have:bk d=e:=by rw [← x,z,y]
    exact (d2.resolve_left x') (this▸e1)
   ·exact zj (by rw [← x,z,y])
  ·rw [mem s,List.mem_map,List.mem_map]
   constructor
   ·rintro ⟨d,hd,rfl⟩
    by_cases k:bS d=d∨bk d∉D
    ·exact ⟨d,(eR d).mpr ⟨hd,k⟩,rfl⟩
    ·have k1:bS d≠d:=fun z=>k (.inl z)
     have k2:bk d∈D:=Classical.byContradiction fun z=>k (.inr z)
     have k3:bS d=bk d:=((Mu d hd).resolve_left k1).1
     exact ⟨bk d,(eR _).mpr ⟨k2,.inl ((sb d hd).trans k3)⟩,sb d hd⟩
   ·rintro ⟨d,hd,rfl⟩
    exact ⟨d,((eR d).mp hd).1,rfl⟩
 have lq:qs.length=(D.filter fun d=>decide (bS d=d) || !decide (bk d∈D)).length:=by rw [p.length_eq,List.length_map]
 have A:=split_len (fun d=>decide (bk d∈D)) D
 have B:=split_len (fun d=>decide (bS d=d)) (D.filter fun d=>decide (bk d∈D))
 have C:=split_len (fun d=>decide (bk d∈D)) (D.filter fun d=>decide (bS d=d) || !decide (bk d∈D))
 have q:(((D.filter fun d=>decide (bk d∈D)).filter fun d=>decide (bS d=d)).map bk).Perm ((D.filter fun d=>decide (bk d∈D)).filter fun d=>!decide (bS d=d)):=by
  refine dR (gA ((nd.filter _).filter _) fun u _ v _ e=>zj e) ((nd.filter _).filter _) fun d=>?_
  rw [List.mem_map,List.mem_filter,List.mem_filter]
  constructor
  ·rintro ⟨e,he,rfl⟩
   obtain ⟨h1,h2⟩:=List.mem_filter.mp he
   obtain ⟨h3,h4⟩:=List.mem_filter.mp h1
   have h4:=of_decide_eq_true h4
   have h2:=of_decide_eq_true h2
   refine ⟨⟨h4,decide_eq_true (by rw [Eg];exact h3)⟩,?_⟩
   rw [Bool.not_eq_true',decide_eq_false_iff_not,sb e h3,h2]
   exact fun z=>nb e h3 z.symm
  ·rintro ⟨⟨h3,h4⟩,h2⟩
   have h4:=of_decide_eq_true h4
   rw [Bool.not_eq_true',decide_eq_false_iff_not] at h2
   have h5:=((Mu d h3).resolve_left h2).1
   refine ⟨bk d,List.mem_filter.mpr ⟨List.mem_filter.mpr ⟨h4,decide_eq_true (by rw [Eg];exact h3)⟩,decide_eq_true ?_⟩,Eg d⟩
   rw [sb d h3,h5]
 have lQ:=q.length_eq
 rw [List.length_map] at lQ
 have e1:((D.filter fun d=>decide (bS d=d) || !decide (bk d∈D)).filter fun d=>decide (bk d∈D))=(D.filter fun d=>decide (bk d∈D)).filter fun d=>decide (bS d=d):=by
  rw [List.filter_filter,List.filter_filter]
  refine List.filter_congr fun d _=>?_
  cases decide (bk d∈D) <;> simp
 have e2:((D.filter fun d=>decide (bS d=d) || !decide (bk d∈D)).filter fun d=>!decide (bk d∈D))=D.filter fun d=>!decide (bk d∈D):=by
  rw [List.filter_filter]
  refine List.filter_congr fun d _=>?_
  cases decide (bk d∈D) <;> simp
 rw [e1,e2] at C
 omega
def cr:List Pl→Int
 | [a,b]=>a.x*b.y - a.y*b.x
 | _=>0
theorem Gm (a b:Pl):cr [b,a]= -cr [a,b]:=by unfold cr;grind
theorem LO (a b c:Pl):cr [a,b]+(cr [b,c]+(cr [c,a]+0))=tw a b c:=by unfold cr tw;grind
theorem AF {Q:List Pl}:∀ {ts:List (List Pl)},(∀ t∈ts,nQ Q t)→wY ts=sz cr (bq ts)
 | [],_=>rfl
 | t :: r,h=>by
   have ih:=AF (ts:=r) fun u hu=>h u (List.mem_cons_of_mem _ hu)
   obtain ⟨a,b,c,rfl,_⟩:=(h t (by simp)).parts
   have e:bq ([a,b,c] :: r)=eZ [a,b,c] ++ bq r:=by unfold bq;rw [List.flatMap_cons]
   rw [e,rz,← ih]
   unfold wY
   rw [List.map_cons,List.sum_cons]
   show tw a b c+_=cr [a,b]+(cr [b,c]+(cr [c,a]+0))+_
   rw [LO]
def zl (bd:List Pl) (k:Nat):Pl:=if k=0 then bd.getLastD ⟨0,0⟩ else jc bd (k - 1)
def lN (bd:List Pl):Nat→Int
 | 0=>0
 | k+1=>lN bd k+cr [zl bd k,jc bd k]
theorem xZ (x y:Pl):∀ l:List Pl,prs (l ++ [x,y])=prs (l ++ [x]) ++ [[x,y]]
 | l=>by
   rw [vc x [y] l]
   rfl
theorem AG {bd:List Pl}:∀ k,k+1≤bd.length→lN bd (k+1)=cr [bd.getLastD ⟨0,0⟩,jc bd 0]+sz cr (prs (bd.take (k+1)))
 | 0,h=>by
   have e:prs (bd.take 1)= []:=by
    cases bd with
    | nil=>rfl
    | cons a r=>rfl
   show lN bd 0+_=_
   rw [e]
   show 0+cr [zl bd 0,jc bd 0]=_+0
   unfold zl
   rw [if_pos rfl]
   omega
 | k+1,h=>by
   have ih:=AG (bd:=bd) k (by omega)
   show lN bd (k+1)+cr [zl bd (k+1),jc bd (k+1)]=_
   rw [ih]
   have e1:bd.take (k+1+1)=bd.take k ++ [jc bd k,jc bd (k+1)]:=by
    rw [e9 (qs:=bd) (k:=k+1) (by omega),e9 (qs:=bd) (k:=k) (by omega),List.append_assoc]
    rfl
   have e2:bd.take (k+1)=bd.take k ++ [jc bd k]:=e9 (by omega)
   rw [e1,e2,xZ,rz]
   show _+_+cr [zl bd (k+1),jc bd (k+1)]=_+(_+(cr [jc bd k,jc bd (k+1)]+0))
   unfold zl
   rw [if_neg (by omega),show k+1 - 1=k by omega]
   omega
theorem BR {bd:List Pl} (h:2≤bd.length):lN bd bd.length=sz cr (cy bd):=by
 have e:=AG (bd:=bd) (bd.length - 1) (by omega)
 rw [show bd.length - 1+1=bd.length by omega,List.take_length] at e
 rw [e]
 unfold cy
 rw [if_neg (by omega)]
 cases bd with
 | nil=>simp at h
 | cons x r=>
   show _=sz cr (List.zipWith (fun p q=>[p,q]) (x :: r) (r ++ [x]))
   rw [vd]
   have hr:r≠[]:=fun z=>by rw [z] at h;simp at h
   have e2:(x :: r) ++ [x]=(x :: r).dropLast ++ [(x :: r).getLast (by simp),x]:=by
    conv=>lhs;rw [← List.dropLast_concat_getLast (l:=x :: r) (by simp)]
    rw [List.append_assoc]
    rfl
   have e3:(x :: r)=(x :: r).dropLast ++ [(x :: r).getLast (by simp)]:=(List.dropLast_concat_getLast (by simp)).symm
   rw [show x :: r ++ [x]=(x :: r) ++ [x] from rfl,e2,xZ,← e3,rz]
   show cr [(x :: r).getLastD ⟨0,0⟩,x]+_=_+(cr [_,x]+0)
   rw [List.getLastD_eq_getLast?,List.getLast?_eq_some_getLast (by simp)]
   show cr [(x :: r).getLast _,x]+_=_
   omega
theorem jf.O1 {Q:List Pl} {ts:List (List Pl)} (c:jf Q ts) (nf:¬ Flat Q) (h:2≤(aR Q).length):wY ts=lN (aR Q) (aR Q).length:=by
 rw [AF c.yt,Ec c.sO nf c.JY Gm,BR h]
 rfl
theorem rD {Q:List Pl}:∀ {ts:List (List Pl)},(∀ t∈ts,nQ Q t)→(bq ts).length=3*ts.length
 | [],_=>rfl
 | t :: r,h=>by
   obtain ⟨a,b,c,rfl,_⟩:=(h t (by simp)).parts
   have e:bq ([a,b,c] :: r)=eZ [a,b,c] ++ bq r:=by unfold bq;rw [List.flatMap_cons]
   rw [e,List.length_append,rD fun u hu=>h u (List.mem_cons_of_mem _ hu)]
   show 3+_=3*(r.length+1)
   omega
theorem Gn {Q:List Pl} {ts:List (List Pl)} (h:∀ t∈ts,nQ Q t):∀ d∈bq ts,∃ a b,d= [a,b]∧a≠b:=fun d hd=>by
 obtain ⟨t,ht,m⟩:=rA.mp hd
 obtain ⟨a,b,c,rfl,_,_,_,_,n1,n2,n3⟩:=(h t ht).parts
 have m:d= [a,b]∨d= [b,c]∨d= [c,a]:=by simpa [eZ] using m
 rcases m with rfl | rfl | rfl
 ·exact ⟨a,b,rfl,n1⟩
 ·exact ⟨b,c,rfl,n2⟩
 ·exact ⟨c,a,rfl,n3⟩
theorem jf.LP {Q:List Pl} {ts qs:List (List Pl)} (c:jf Q ts) (nf:¬ Flat Q) (h2:2≤Q.length) (nq:qs.Nodup) (mem:∀ s,s∈qs↔s∈(bq ts).map bS):2*qs.length=3*ts.length+(aR Q).length:=by
 rw [xY c.JY.nd (Gn c.yt) nq mem,rD c.yt,(c.JY.Hi c.sO nf).length_eq]
 obtain ⟨l2,e,_⟩:=qQ c.sO h2
 rw [e,List.length_zipWith,List.length_append,List.length_drop,List.length_take]
 omega
end L3
namespace HD
open PySem PySem.W L2
theorem LQ:dA=k6:=funext fun s=>by cases s <;> rfl
theorem LR:dB=gc:=funext fun s=>by cases s <;> rfl
theorem LS:dS=az:=funext fun s=>by cases s <;> rfl
def yu (h:Heap):List Addr→Frag
 | []=>[]
 | a :: r=>match h.get? a with
   | some o=>(a,o) :: yu h r
   | none=>yu h r
theorem zm (h:Heap):∀ as:List Addr,(yu h as).In h
 | [],_,_,e=>nomatch e
 | b :: r,a,o,e=>by
   unfold yu at e
   cases q:h.get? b with
   | none=>rw [q] at e;exact zm h r a o e
   | some x=>
     rw [q] at e
     replace e:List.lookup a ((b,x) :: yu h r)=some o:=e
     rw [List.lookup_cons] at e
     cases z:a == b with
     | true=>
       rw [z] at e
       obtain rfl:a=b:=eq_of_beq z
       cases e;exact q
     | false=>rw [z] at e;exact zm h r a o e
theorem rE {h:Heap} {a:Addr} {o:Obj} (e:h.get? a=some o):∀ {as:List Addr},a∈as→(yu h as).lookup a=some o
 | b :: r,m=>by
   unfold yu
   by_cases z:a=b
   ·subst z
    rw [e]
    show List.lookup a ((a,o) :: yu h r)=some o
    rw [List.lookup_cons,beq_self_eq_true]
   ·have m':a∈r:=by
     rcases List.mem_cons.mp m with y | y
     ·exact absurd y z
     ·exact y
    cases q:h.get? b with
    | none=>exact rE e m'
    | some x=>
      show List.lookup a ((b,x) :: yu h r)=some o
      rw [List.lookup_cons,beq_eq_false_iff_ne.mpr z]
      exact rE e m'
theorem Gp {K:Frag} {o:Obj} (e:K.lookup mainGlobals=some o) (n:Str):nsIn K mainGlobals n=nsIn [(mainGlobals,o)] mainGlobals n:=by
 unfold nsIn
 rw [e]
 rfl
def adr (h:Heap) (n:Str):List Addr:=match fnAt h n with
 | some (f,fd)=>f :: (match fd.code with | .ref c=>[c] | _=>[])
 | none=>[]
def O2 (h:Heap) (fs:List (Str ×Stmt)):List Addr:=mainGlobals :: fs.flatMap fun p=>adr h p.1
def Qh (K:Frag) (p:Str ×Stmt):Prop:= ∃ f fd,nsIn K mainGlobals p.1=some (some (.ref f))∧j6 K p.1 p.1 p.2 f fd
def FJ (K:Frag):List (Str ×Stmt)→Prop
 | []=>True
 | p :: r=>Qh K p∧FJ K r
def AllB (K:Frag):List Str→Prop
 | []=>True
 | b :: r=>nsIn K mainGlobals b=some none∧AllB K r
def YP (fs:List (Str ×Stmt)) (bs:List Str) (h:Heap):Prop:= ∃ K:Frag,K.In h∧FJ K fs∧AllB K bs
theorem keeps {fs:List (Str ×Stmt)} {bs:List Str} {h h':Heap} (y:YP fs bs h) (k:∀ b o,h.get? b=some o→h'.get? b=some o):YP fs bs h':=
 let ⟨K,i,a,b⟩:=y
 ⟨K,i.keeps k,a,b⟩
theorem Eh {h:Heap} {as:List Addr} {n:Str} {r:Option Value} (m:mainGlobals∈as) (e:JN h n=some r):nsIn (yu h as) mainGlobals n=some r:=by
 unfold JN at e
 cases q:h.get? mainGlobals with
 | none=>rw [q] at e;cases e
 | some o=>rw [q] at e;rw [Gp (rE q m)];exact e
theorem Gq {h:Heap} {n:Str} {f:Addr} {fd:FuncData} (e:fnAt h n=some (f,fd)):JN h n=some (some (.ref f))∧∃ oc od sl,h.get? f=some ⟨oc,od,.func fd,sl⟩:=by
 unfold fnAt at e
 split at e
 ·rename_i g hg
  split at e
  ·rename_i oc od fd' sl hq
   cases e
   exact ⟨hg,oc,od,sl,hq⟩
  ·cases e
 ·cases e
theorem x6 {h:Heap} {v:Value} {q:Str} {as:List Addr} (e:j7 h v=some q) (m:∀ c,v= .ref c→c∈as):codeIn (yu h as) v q=true:=by
 unfold j7 at e
 split at e
 ·rename_i c
  split at e
  ·rename_i oc od vs sl hc
   split at e
   ·rename_i a q' tk r hv
    cases e
    unfold codeIn
    dsimp only
    rw [rE hc (m c rfl)]
    dsimp only
    rw [hv]
    dsimp only
    exact beq_self_eq_true _
   ·cases e
  ·cases e
 ·cases e
theorem Ju {h:Heap} {p:Str ×Stmt} {as:List Addr} (m0:mainGlobals∈as) (m:∀ a∈adr h p.1,a∈as)
 (e:(fnAt h p.1).map (fun x=>(blank x.2,j7 h x.2.code))=some (fnOf p.1 p.1 (k6 p.2) (gc p.2) (az p.2) .none .none .none .none none .none .none,some p.1)):Qh (yu h as) p:=by
 obtain ⟨⟨f,fd⟩,hf,hq⟩:=Option.map_eq_some_iff.mp e
 obtain ⟨h1,oc,od,sl,h2⟩:=Gq hf
 obtain ⟨e1,e2⟩:=Prod.mk.inj hq
 have hadr:adr h p.1=f :: (match fd.code with | .ref c=>[c] | _=>[]):=by unfold adr;rw [hf]
 have O3:f∈as:=m f (by rw [hadr];exact .head _)
 have lk:=rE h2 O3
 have hc:codeIn (yu h as) fd.code p.1=true:=x6 e2 fun c hc=>m c (by rw [hadr,hc];exact .tail _ (.head _))
 have hfd:fd=fnOf p.1 p.1 (k6 p.2) (gc p.2) (az p.2) .none fd.kwdefaults fd.doc fd.pyModule fd.annotations fd.code fd.closureTuple:=by
  cases fd
  unfold blank at e1
  simp only [FuncData.mk.injEq] at e1
  obtain ⟨a1,a2,a3,a4,a5,a6,a7,a8,a9⟩:=e1
  simp only [FuncData.mk.injEq]
  exact ⟨a1,a2,a3,a4,a5,a6,a7,a8,trivial,trivial,trivial,trivial,trivial,trivial,by simpa using a9⟩
 refine ⟨f,fd,Eh m0 h1,⟨oc,od,fd.kwdefaults,fd.doc,fd.pyModule,fd.annotations,fd.code,fd.closureTuple,sl,hfd,lk,hc⟩,?_⟩
 unfold keepIn
 dsimp only
 rw [lk]
theorem AH {h:Heap} {as:List Addr} (m0:mainGlobals∈as):∀ {fs:List (Str ×Stmt)},(∀ a∈fs.flatMap (fun p=>adr h p.1),a∈as)→
 fs.map (fun p=>(fnAt h p.1).map fun x=>(blank x.2,j7 h x.2.code))=fs.map (fun p=>some (fnOf p.1 p.1 (k6 p.2) (gc p.2) (az p.2) .none .none .none .none none .none .none,some p.1))→FJ (yu h as) fs
 | [],_,_=>trivial
 | p :: r,m,e=>by
   rw [List.map_cons,List.map_cons] at e
   obtain ⟨e1,e2⟩:=List.cons.inj e
   rw [List.flatMap_cons] at m
   exact ⟨Ju m0 (fun a ha=>m a (List.mem_append.mpr (.inl ha))) e1,AH m0 (fun a ha=>m a (List.mem_append.mpr (.inr ha))) e2⟩
theorem allB_of {h:Heap} {as:List Addr} (m0:mainGlobals∈as):∀ {bs:List Str},bs.map (fun b=>JN h b)=bs.map (fun _=>some none)→AllB (yu h as) bs
 | [],_=>trivial
 | b :: r,e=>by
   rw [List.map_cons,List.map_cons] at e
   obtain ⟨e1,e2⟩:=List.cons.inj e
   exact ⟨Eh m0 e1,allB_of m0 e2⟩
theorem Jv {fs:List (Str ×Stmt)} {bs:List Str} {s:Shared} (e:yv fs bs s=good fs bs):YP fs bs s.heap:=
 let ⟨e1,e2⟩:=Prod.mk.inj (by rw [good,LQ,LR,LS] at e;exact e)
 ⟨yu s.heap (O2 s.heap fs),zm _ _,AH (.head _) (fun _ ha=> .tail _ ha) e1,allB_of (.head _) e2⟩
theorem Ei {l:OpenLaw} {n k:Nat} {q:Program} {loose:List Str} {XP:(Str→Option Value)→Heap→Prop} {YP:World→Heap→Prop} {d:DefRec} {CX:Ci} {sp:Frag→Sp} {x:Str}
 (hn:l.most=some n) (hn2:n≤sizeLine) (hdf:d.params.defaults= []) (hr:iE k callerA)
 (F:∀ (w:World) (mg:Str→Option Value) (fa:Addr) (h:Heap),YP w h→h.Ns mainGlobals mg→mg d.name=some (.ref fa)→
  ∃ (K:Frag) (fd:FuncData),K.In h∧(∀ (s:Shared) (u:Value),BindsTo s fd ⟨[u],[]⟩ [(x,u)])∧
    ∀ base:Heap,K.In base→base.Ns mainGlobals mg→b8 l.prog w K mg base CX k fa fd [x] (sp K))
 (GO:∀ (K:Frag) (H:Hp) (a:Addr) (ns:List Int),ns.length≤n→(∀ z∈ns,Att.Bh z)→EY H→iD K H a (ns.map V.int)→sp K [.ref a] H (fun v _=>v= .bl true) fun _ _ _=>False)
 (Nt:∀ (H:Hp) (s:Shared) (e:Value) (s':Shared),CX [] H s (fun _ _ _=>False) e s'→False) :
 WalkO q loose XP YP l.row.toRowW d [] (fun f vs=>PySem.call f vs):=by
 refine Att.uU hn hdf fun w s₀ s₁ mg mb fa o pm cd doc a vs ns G Y ho hd hcd hmg hobj hints hlen hbig hg=>?_
 obtain ⟨K,fd,KX,hb,hF⟩:=F w mg fa _ Y G.T.g hmg
 exact Co (CX:=CX) (sp:=sp K) KX G.T.g G.T.b G.T.builtins G.T.nolimit hg hobj hints (Nat.le_trans hlen hn2) hr hF hb (fun H hO hS=>GO K H a ns hlen hbig hO hS) fun H e s'=>Nt H s₁ e s'
end HD
namespace Pf
open PySem L2 L3
set_option genInjectivity false in
set_option genSizeOf false in
structure Ad where
 kH:Addr
 jE:FuncData
 iL:Addr
 gO:FuncData
 jF:Addr
 iM:FuncData
 jG:Addr
 iN:FuncData
 jH:Addr
 iO:FuncData
 iP:Addr
 gP:FuncData
 mG:Addr
 kI:FuncData
 kJ:Addr
 jI:FuncData
 jJ:Addr
 iQ:FuncData
 gQ:Addr
 fN:FuncData
 jK:Addr
 iR:FuncData
 gR:Addr
 fO:FuncData
 rF:Addr
 oG:FuncData
 ff:Addr
 eK:FuncData
 mH:Addr
 kK:FuncData
 zo:Addr
 vF:FuncData
 vG:Addr
 rG:FuncData
 zp:Addr
 vH:FuncData
 fR:Addr
 fk:FuncData
 zq:Addr
 vI:FuncData
 zu:Addr
 vJ:FuncData
 gS:Addr
 fS:FuncData
 oH:Addr
 mJ:FuncData
 cB:Addr
 bV:FuncData
 fT:Addr
 fm:FuncData
 iS:Addr
 gT:FuncData
 vK:Addr
 rH:FuncData
 jL:Addr
 iT:FuncData
 Ej:Addr
 zx:FuncData
structure Txt (K:PySem.W.Frag) (mg:Str→Option Value) (t:Ad):Prop where
 dU:j6 K "_law_cell" "_law_cell" j8 t.kH t.jE
 iw:mg "_law_cell" =some (.ref t.kH)
 fE:j6 K "_law_ringed" "_law_ringed" iz t.iL t.gO
 lR:mg "_law_ringed" =some (.ref t.iL)
 jM:j6 K "_law_lined" "_law_lined" jk t.jF t.iM
 vL:mg "_law_lined" =some (.ref t.jF)
 jN:j6 K "_law_great" "_law_great" jl t.jG t.iN
 vM:mg "_law_great" =some (.ref t.jG)
 jO:j6 K "_law_place" "_law_place" jm t.jH t.iO
 vN:mg "_law_place" =some (.ref t.jH)
 iU:j6 K "_law_places" "_law_places" iA t.iP t.gP
 sP:mg "_law_places" =some (.ref t.iP)
 jP:j6 K "_law_far" "_law_far" lW t.mG t.kI
 rJ:mg "_law_far" =some (.ref t.mG)
 dW:j6 K "_law_laid" "_law_laid" j9 t.kJ t.jI
 iy:mg "_law_laid" =some (.ref t.kJ)
 eL:j6 K "_law_twice" "_law_twice" jn t.jJ t.iQ
 jQ:mg "_law_twice" =some (.ref t.jJ)
 gU:j6 K "_law_flipped" "_law_flipped" dY t.gQ t.fN
 rK:mg "_law_flipped" =some (.ref t.gQ)
 jR:j6 K "_law_cover" "_law_cover" jo t.jK t.iR
 vO:mg "_law_cover" =some (.ref t.jK)
 gW:j6 K "side_between" "side_between" gB t.gR t.fO
 rL:mg "side_between" =some (.ref t.gR)
 nI:j6 K "rounds" "rounds" ql t.rF t.oG
 x8:mg "rounds" =some (.ref t.rF)
 fy:j6 K "directed_sides" "directed_sides" cE t.ff t.eK
 oJ:mg "directed_sides" =some (.ref t.ff)
 jS:j6 K "sides_of" "sides_of" jq t.mH t.kK
 rM:mg "sides_of" =some (.ref t.mH)
 zy:j6 K "ties" "ties" yw t.zo t.vF
 Jw:mg "ties" =some (.ref t.zo)
 qj:j6 K "twice" "twice" uF t.vG t.rG
 AI:mg "twice" =some (.ref t.vG)
 zz:j6 K "area" "area" uG t.zp t.vH
 Jx:mg "area" =some (.ref t.zp)
 fW:j6 K "_law_straight" "_law_straight" dH t.fR t.fk
 pP:mg "_law_straight" =some (.ref t.fR)
 zA:j6 K "sign" "sign" yx t.zq t.vI
 Jy:mg "sign" =some (.ref t.zq)
 rN:j6 K "turn" "turn" yy t.zu t.vJ
 zB:mg "turn" =some (.ref t.zu)
 eO:j6 K "without_bays" "without_bays" gC t.gS t.fS
 kL:mg "without_bays" =some (.ref t.gS)
 lB:j6 K "outline" "outline" nR t.oH t.mJ
 uC:mg "outline" =some (.ref t.oH)
 aU:j6 K "_law_alike" "_law_alike" jr t.cB t.bV
 bU:mg "_law_alike" =some (.ref t.cB)
 fX:j6 K "outline_sides" "outline_sides" fL t.fT t.fm
 pQ:mg "outline_sides" =some (.ref t.fT)
 fF:j6 K "triangle_of" "triangle_of" iB t.iS t.gT
 lV:mg "triangle_of" =some (.ref t.iS)
 vP:j6 K "swept" "swept" kX t.vK t.rH
 Gr:mg "swept" =some (.ref t.vK)
 jT:j6 K "_law_sides" "_law_sides" jt t.jL t.iT
 vQ:mg "_law_sides" =some (.ref t.jL)
 Hj:j6 K "law" "law" zK t.Ej t.zx
 Qi:mg "law" =some (.ref t.Ej)
 bM:mg "len" =none
 cO:mg "range" =none
 zC:mg "min" =none
 cP:mg "sorted" =none
 Ek:mg "max" =none
 Jz:mg "set" =none
 cD:mg "list" =none
 El:mg "zip" =none
 JA:mg "sum" =none
 x9:mg "reversed" =none
 av:mg "isinstance" =none
 kM:mg "int" =none
 kN:mg "str" =none
 fK:mg "tuple" =none
 qk:mg "bool" =none
theorem nJ:aO ["_law_script","_law_k","_law_number"] ["_law_script","_law_k"] (az j8):=⟨rfl,rfl,rfl,by decide +kernel,rfl,by decide +kernel,by decide +kernel⟩
theorem bQ:aO ["_law_cell_here","_law_far_here","_law_x","_law_y","_law_spot","_law_across","_law_up","_law_k"] ["_law_cell_here","_law_far_here","_law_x","_law_y"] (az iz):=⟨rfl,rfl,rfl,by decide +kernel,rfl,by decide +kernel,by decide +kernel⟩
theorem fG:aO ["_law_cell_here","_law_frame","_law_spanned","_law_x","_law_y"] ["_law_cell_here","_law_frame"] (az jk):=⟨rfl,rfl,rfl,by decide +kernel,rfl,by decide +kernel,by decide +kernel⟩
theorem iV:aO ["_law_cell_here","_law_x","_law_y"] ["_law_cell_here"] (az jl):=⟨rfl,rfl,rfl,by decide +kernel,rfl,by decide +kernel,by decide +kernel⟩
theorem sQ:aO ["_law_kind","_law_cell_here","_law_frame","_law_k"] ["_law_kind","_law_cell_here","_law_frame","_law_k"] (az jm):=⟨rfl,rfl,rfl,by decide +kernel,rfl,by decide +kernel,by decide +kernel⟩
theorem cH:aO ["_law_script","_law_most","_law_head","_law_frame","_law_places_here","_law_k","_law_p"] ["_law_script","_law_most"] (az iA):=⟨rfl,rfl,rfl,by decide +kernel,rfl,by decide +kernel,by decide +kernel⟩
theorem kO:aO ["_law_cover_here","_law_a","_law_b","_law_t","_law_k"] ["_law_cover_here","_law_a","_law_b"] (az lW):=⟨rfl,rfl,rfl,by decide +kernel,rfl,by decide +kernel,by decide +kernel⟩
theorem vR:aO ["_law_a","_law_b","_law_c"] ["_law_a","_law_b","_law_c"] (az j9):=⟨rfl,rfl,rfl,by decide +kernel,rfl,by decide +kernel,by decide +kernel⟩
theorem sR:aO ["_law_a","_law_b","_law_c"] ["_law_a","_law_b","_law_c"] (az jn):=⟨rfl,rfl,rfl,by decide +kernel,rfl,by decide +kernel,by decide +kernel⟩
theorem dI:aO ["_law_cover_here","_law_a","_law_b","_law_c","_law_d","_law_gone"] ["_law_cover_here","_law_a","_law_b"] (az dY):=⟨rfl,rfl,rfl,by decide +kernel,rfl,by decide +kernel,by decide +kernel⟩
theorem dD:aO ["_law_script","_law_start","_law_cover_here","_law_k","_law_number","_law_t"] ["_law_script","_law_start","_law_cover_here"] (az jo):=⟨rfl,rfl,rfl,by decide +kernel,rfl,by decide +kernel,by decide +kernel⟩
theorem pR:aO ["a","b"] ["a","b"] (az gB):=⟨rfl,rfl,rfl,by decide +kernel,rfl,by decide +kernel,by decide +kernel⟩
theorem BS:aO ["t"] ["t"] (az ql):=⟨rfl,rfl,rfl,by decide +kernel,rfl,by decide +kernel,by decide +kernel⟩
theorem eS:aO ["cover","ways","t"] ["cover"] (az cE):=⟨rfl,rfl,rfl,by decide +kernel,rfl,by decide +kernel,by decide +kernel⟩
theorem ya:aO ["cover"] ["cover"] (az jq):=⟨rfl,rfl,rfl,by decide +kernel,rfl,by decide +kernel,by decide +kernel⟩
theorem AJ:aO ["places","cover","line"] ["places","cover"] (az yw):=⟨rfl,rfl,rfl,by decide +kernel,rfl,by decide +kernel,by decide +kernel⟩
theorem Em:aO ["a","b","c"] ["a","b","c"] (az uF):=⟨rfl,rfl,rfl,by decide +kernel,rfl,by decide +kernel,by decide +kernel⟩
theorem Gs:aO ["cover"] ["cover"] (az uG):=⟨rfl,rfl,rfl,by decide +kernel,rfl,by decide +kernel,by decide +kernel⟩
theorem jg:aO ["_law_places_here","_law_row"] ["_law_places_here"] (az dH):=⟨rfl,rfl,rfl,by decide +kernel,rfl,by decide +kernel,by decide +kernel⟩
theorem Gu:aO ["number"] ["number"] (az yx):=⟨rfl,rfl,rfl,by decide +kernel,rfl,by decide +kernel,by decide +kernel⟩
theorem Gv:aO ["a","b","c"] ["a","b","c"] (az yy):=⟨rfl,rfl,rfl,by decide +kernel,rfl,by decide +kernel,by decide +kernel⟩
theorem fY:aO ["line","chain","p"] ["line"] (az gC):=⟨rfl,rfl,rfl,by decide +kernel,rfl,by decide +kernel,by decide +kernel⟩
theorem jU:aO ["places","line","there","home"] ["places"] (az nR):=⟨rfl,rfl,rfl,by decide +kernel,rfl,by decide +kernel,by decide +kernel⟩
theorem bW:aO ["_law_found","_law_due","_law_k"] ["_law_found","_law_due"] (az jr):=⟨rfl,rfl,rfl,by decide +kernel,rfl,by decide +kernel,by decide +kernel⟩
theorem jh:aO ["places","border"] ["places"] (az fL):=⟨rfl,rfl,rfl,by decide +kernel,rfl,by decide +kernel,by decide +kernel⟩
theorem kP:aO ["a","b","c","three"] ["a","b","c"] (az iB):=⟨rfl,rfl,rfl,by decide +kernel,rfl,by decide +kernel,by decide +kernel⟩
theorem ji:aO ["places","line","cover","k","p","seen"] ["places"] (az kX):=⟨rfl,rfl,rfl,by decide +kernel,rfl,by decide +kernel,by decide +kernel⟩
theorem dF:aO ["_law_cover_here","_law_found","_law_t","_law_k","_law_one"] ["_law_cover_here"] (az jt):=⟨rfl,rfl,rfl,by decide +kernel,rfl,by decide +kernel,by decide +kernel⟩
theorem dM:aO ["_law_script","_law_places_here","_law_cover_here","_law_handed","_law_sides_here","_law_told","_law_size","_law_row","_law_due","_law_border","_law_inner","_law_k","_law_one","_law_other"] ["_law_script"] (az zK):=⟨rfl,rfl,rfl,by decide +kernel,rfl,by decide +kernel,by decide +kernel⟩
section
variable {P:Program} {w:World} {K:PySem.W.Frag} {mg:Str→Option Value} {base:Heap} {t:Ad}
theorem gj (T:Txt K mg t):Binds K t.jE ["_law_script","_law_k"] []:=T.dU.binds fun _ _ _ _ _ _ us hl=>match us,hl with | [_,_],_=>rfl
def yb:wK:=fun ds Q=> ∃ (ns:List Int) (k:Int),ds= [.wG (ns.map L3.D.int),.int k]∧(∀ z∈ns,Att.Bh z)∧ns.length≤63∧0≤k∧k≤1000∧∀ z:Int,Att.Bh z→Q (.int z)
theorem gm (T:Txt K mg t):b8 P w K mg base fZ 1 t.kH t.jE ["_law_script","_law_k"] (wg K yb):=by
 refine A4 T.dU nJ (fun ds Q h=>by (first | (obtain ⟨_,rfl,_⟩:=h;rfl) | (obtain ⟨_,_,rfl,_⟩:=h;rfl) | (obtain ⟨_,_,_,rfl,_⟩:=h;rfl) | (obtain ⟨_,_,_,_,rfl,_⟩:=h;rfl) | (obtain ⟨_,_,_,_,_,rfl,_⟩:=h;rfl) | (obtain ⟨_,_,_,_,_,_,rfl,_⟩:=h;rfl) | (obtain ⟨_,_,_,_,_,_,_,rfl,_⟩:=h;rfl))) (fun cdv A outer s H hr=>?_)
 have hu:=hr.units
 refine ⟨_,(au (bT (aN (oY hu) (af 1) (aD cF (by rfl) T.bM aI (aa (af 0) ak)) (aC _)) (aB (aE (aM (af 0) (af 1)))) aT)
  (au (bT (aN (CY hu) (af 0) (cR ak) (aC _)) (aB (aE (aq bD (aq iH (aq iH (af 1) (af 1)) ai) ai))) aT)
  (au (aX (i:=2) nJ.nd rfl (Or.inl rfl) (aq bD (aq iH (aq fJ (aq bD (aM (af 0) (aq bD (af 1) (aD cF (by rfl) T.bM aI (aa (af 0) ak)))) ai) (aq iH (aq iH (af 1) (af 1)) ai)) ai) ai))
  (aB (aE (aq bD (aq iH (af 2) (af 2)) ai)))))),fun ds Q h=>?_⟩
 obtain ⟨ns,k,rfl,hb,hlen,hk,hk2,h⟩:=h
 have sk:Sm 11 k:=by
  show k.natAbs < 2 ^ 11
  omega
 walk_at "rd"
 refine ⟨_,_,rfl,.inr (.inl rfl),?_⟩
 walk_at "rd"
 refine bB (fun c=>?_) (fun c=>?_)
 ·have c:k < ((ns.map L3.D.int).length:Int):=of_decide_eq_true c
  rw [List.length_map] at c
  obtain ⟨z,mz,hz⟩:=jz hk c
  walk_at "rd"
  exact ⟨_,k,.int z,.inr (.inl rfl),rfl,hz,h z (hb z mz)⟩
 ·walk_at "rd"
  intro p hp
  refine ⟨_,_,.inl rfl,.of ah,yL ns,rfl,?_⟩
  walk_at "rd"
  refine bB (fun c=>?_) (fun c=>?_)
  ·walk_at "rd"
   exact h _ (Dp (n:=31) (by walk_at "smle") (by decide))
  ·have hne:ns≠[]:=fun z=>c (by rw [z];rfl)
   have hpos:0 < ns.length:=List.length_pos_iff.mpr hne
   walk_at "rd"
   refine ⟨_,_,rfl,.inr (.inl rfl),?_⟩
   walk_at "rd"
   refine ⟨by rw [List.length_map];omega,?_⟩
   rw [List.length_map]
   obtain ⟨z,_,hz⟩:=jz (ns:=ns) (k:=k % (ns.length:Int)) (Int.emod_nonneg _ (by omega)) (Int.emod_lt_of_pos _ (by omega))
   refine ⟨_,_,.int z,.inr (.inl rfl),rfl,hz,?_⟩
   walk_at "rd"
   exact h _ (Dp (n:=31) (by walk_at "smle") (by decide))
theorem kQ (T:Txt K mg t):Binds K t.gO ["_law_cell_here","_law_far_here","_law_x","_law_y"] []:=T.fE.binds fun _ _ _ _ _ _ us hl=>match us,hl with | [_,_,_,_],_=>rfl
def sS:wK:=fun ds Q=> ∃ c f x y:Int,ds= [.int c,.int f,.int x,.int y]∧Sm 40 f∧Sm 70 x∧Sm 70 y∧∀ p:Pl,p.Ok 136→Q p.d
theorem kR (T:Txt K mg t):b8 P w K mg base fZ 1 t.iL t.gO ["_law_cell_here","_law_far_here","_law_x","_law_y"] (wg K sS):=by
 refine A4 T.fE bQ (fun ds Q h=>by (first | (obtain ⟨_,rfl,_⟩:=h;rfl) | (obtain ⟨_,_,rfl,_⟩:=h;rfl) | (obtain ⟨_,_,_,rfl,_⟩:=h;rfl) | (obtain ⟨_,_,_,_,rfl,_⟩:=h;rfl) | (obtain ⟨_,_,_,_,_,rfl,_⟩:=h;rfl) | (obtain ⟨_,_,_,_,_,_,rfl,_⟩:=h;rfl) | (obtain ⟨_,_,_,_,_,_,_,rfl,_⟩:=h;rfl))) (fun cdv A outer s H hr=>?_)
 have hu:=hr.units
 refine ⟨_,(au (aX (i:=4) bQ.nd rfl (Or.inl rfl) (aq bD (af 0) ai))
  (au (aX (i:=5) bQ.nd rfl (Or.inl rfl) (aM (cR (aa ai (aa ai (aa ai ak)))) (aq bD (af 4) ai)))
  (au (aX (i:=6) bQ.nd rfl (Or.inl rfl) (aM (cR (aa ai (aa ai (aa ai ak)))) (aq bD (af 4) ai)))
  (au (gG PassesOwn.never rfl (by rfl) T.cO (aa (aq cQ (af 4) ai) ak) (cT (i:=7) bQ.nd rfl (Or.inl rfl)) (aB (K6 (i:=5) (j:=6) rfl bQ.nd rfl rfl (by decide) rfl rfl (aa (jV (af 6)) (aa (af 5) ak)))))
  (au (bT (aN (fM hu) (af 4) ai (aC _)) (au (aX (i:=5) bQ.nd rfl (Or.inl rfl) ai)
  (aB (aX (i:=6) bQ.nd rfl (Or.inl rfl) ai))) aT)
  (aB (aE (dg (aa (aq fJ (af 2) (aq gF (af 1) (af 5))) (aa (aq fJ (af 3) (aq gF (af 1) (af 6))) ak)))))))))),fun ds Q h=>?_⟩
 obtain ⟨c,f,x,y,rfl,sf,sx,sy,h⟩:=h
 walk_at "rd"
 intro p hp
 walk_at "rd"
 obtain ⟨z1,m1,e1⟩:=jz (ns:=[5,4,3]) (k:=c % 13 % 3) (Int.emod_nonneg _ (by decide)) (Int.emod_lt_of_pos _ (by decide))
 have s1:Sm 3 z1:=l9 (ns:=[5,4,3]) (by decide) m1
 refine ⟨_,_,_,.inr (.inr ⟨p,rfl,ah⟩),rfl,e1,?_⟩
 walk_at "rd"
 intro q hq
 walk_at "rd"
 obtain ⟨z2,m2,e2⟩:=jz (ns:=[0,3,4]) (k:=c % 13 % 3) (Int.emod_nonneg _ (by decide)) (Int.emod_lt_of_pos _ (by decide))
 have s2:Sm 3 z2:=l9 (ns:=[0,3,4]) (by decide) m2
 refine ⟨_,_,_,.inr (.inr ⟨q,rfl,ah⟩),rfl,e2,?_⟩
 walk_at "rd"
 have Tq:c % 13 < 13:=Int.emod_lt_of_pos _ (by decide)
 have R4:0≤c % 13:=Int.emod_nonneg _ (by decide)
 refine ⟨by dsimp only;omega,by dsimp only;omega,?_⟩
 refine aS (fun i ρ M'=> ∃ (u v:Int) (y1:Option L3.D),ρ= [some (.int c),some (.int f),some (.int x),some (.int y),some (.int (c % 13)),some (.int u),some (.int v),y1]∧Sm 3 u∧Sm 3 v) _ ?_ ?_ ⟨_,_,_,rfl,s1,s2⟩
 ·rintro i d ρ M' N hx ⟨u,v,y1,rfl,su,sv⟩ hN
  obtain ⟨hi,rfl⟩:=bL hx
  refine ⟨trivial,?_⟩
  walk_at "rd"
  exact hN _ _ ⟨_,_,_,rfl,sv.neg,su⟩
 ·rintro ρ M' ⟨u,v,y1,rfl,su,sv⟩
  refine ⟨trivial,?_⟩
  walk_at "rd"
  refine bB (fun _=>?_) (fun _=>?_)
  ·walk_at "rd"
   exact h ⟨_,_⟩ ⟨by walk_at "smle",by walk_at "smle"⟩
  ·walk_at "rd"
   exact h ⟨_,_⟩ ⟨by walk_at "smle",by walk_at "smle"⟩
theorem sU (T:Txt K mg t):Binds K t.iM ["_law_cell_here","_law_frame"] []:=T.jM.binds fun _ _ _ _ _ _ us hl=>match us,hl with | [_,_],_=>rfl
def vS:wK:=fun ds Q=> ∃ c f:Int,ds= [.int c,.int f]∧∀ p:Pl,p.Ok 136→Q p.d
theorem sV (T:Txt K mg t):b8 P w K mg base fZ 1 t.jF t.iM ["_law_cell_here","_law_frame"] (wg K vS):=by
 refine A4 T.jM fG (fun ds Q h=>by (first | (obtain ⟨_,rfl,_⟩:=h;rfl) | (obtain ⟨_,_,rfl,_⟩:=h;rfl) | (obtain ⟨_,_,_,rfl,_⟩:=h;rfl) | (obtain ⟨_,_,_,_,rfl,_⟩:=h;rfl) | (obtain ⟨_,_,_,_,_,rfl,_⟩:=h;rfl) | (obtain ⟨_,_,_,_,_,_,rfl,_⟩:=h;rfl) | (obtain ⟨_,_,_,_,_,_,_,rfl,_⟩:=h;rfl))) (fun cdv A outer s H hr=>?_)
 have hu:=hr.units
 refine ⟨_,(au (aX (i:=2) fG.nd rfl (Or.inl rfl) (aq gF (aq bX (aq bD (aq cQ (af 0) ai) ai) ai) (aM (cR (aa ai (aa (aq lK ai ai) ak))) (aq bD (aq cQ (af 1) ai) ai))))
  (au (aX (i:=3) fG.nd rfl (Or.inl rfl) (aq fJ (aq gF (af 2) (aM (cR (aa ai (aa ai (aa ai (aa ai ak))))) (aq bD (af 1) ai))) (aq bD (aq cQ (af 1) ai) ai)))
  (au (aX (i:=4) fG.nd rfl (Or.inl rfl) (aq bX (aq gF (af 2) (aM (cR (aa ai (aa ai (aa ai (aa (jV ai) ak))))) (aq bD (af 1) ai))) ai))
  (au (bT (oX.pt (tT (aN (fM hu) (aq bD (aq cQ (af 1) ai) ai) ai (aC _)) (nU (aN (fM hu) (aq bD (af 0) ai) ai (aC _))))) (aB (aE (dg (aa (aq fJ (af 3) (aq bD (aq cQ (af 0) ai) ai)) (aa (aq fJ (aq fJ (af 4) ai) (aq bD (aq cQ (af 0) ai) ai)) ak))))) aT)
  (aB (aE (dg (aa (af 3) (aa (af 4) ak))))))))),fun ds Q h=>?_⟩
 obtain ⟨c,f,rfl,h⟩:=h
 walk_at "rd"
 intro p hp
 walk_at "rd"
 obtain ⟨z0,m0,e0⟩:=jz (ns:=[1,10 ^ 30]) (k:=f / 4 % 2) (Int.emod_nonneg _ (by decide)) (Int.emod_lt_of_pos _ (by decide))
 have s0:Sm 100 z0:=l9 (ns:=[1,10 ^ 30]) (by decide) m0
 refine ⟨_,_,_,.inr (.inr ⟨p,rfl,ah⟩),rfl,e0,?_⟩
 walk_at "rd"
 intro q hq
 walk_at "rd"
 obtain ⟨z1,m1,e1⟩:=jz (ns:=[1,0,1,3]) (k:=f % 4) (Int.emod_nonneg _ (by decide)) (Int.emod_lt_of_pos _ (by decide))
 have s1:Sm 3 z1:=l9 (ns:=[1,0,1,3]) (by decide) m1
 refine ⟨_,_,_,.inr (.inr ⟨q,rfl,ah⟩),rfl,e1,?_⟩
 walk_at "rd"
 intro r hr
 walk_at "rd"
 obtain ⟨z2,m2,e2⟩:=jz (ns:=[0,1,2, -2]) (k:=f % 4) (Int.emod_nonneg _ (by decide)) (Int.emod_lt_of_pos _ (by decide))
 have s2:Sm 3 z2:=l9 (ns:=[0,1,2, -2]) (by decide) m2
 refine ⟨_,_,_,.inr (.inr ⟨r,rfl,ah⟩),rfl,e2,?_⟩
 walk_at "rd"
 have fin:∀ x y,Sm 136 x→Sm 136 y→Q (.tup [.int x,.int y]):=fun x y a b=>h ⟨x,y⟩ ⟨a,b⟩
 refine bB (fun _=>?_) (fun _=>?_)
 ·walk_at "rd"
  refine bB (fun _=>?_) (fun _=>?_)
  ·walk_at "rd"
   exact fin _ _ (by walk_at "smle") (by walk_at "smle")
  ·walk_at "rd"
   exact fin _ _ (by walk_at "smle") (by walk_at "smle")
 ·walk_at "rd"
  exact fin _ _ (by walk_at "smle") (by walk_at "smle")
theorem sW (T:Txt K mg t):Binds K t.iN ["_law_cell_here"] []:=T.jN.binds fun _ _ _ _ _ _ us hl=>match us,hl with | [_],_=>rfl
def vU:wK:=fun ds Q=> ∃ c:Int,ds= [.int c]∧Att.Bh c∧∀ p:Pl,p.Ok 136→Q p.d
theorem sX (T:Txt K mg t):b8 P w K mg base fZ 1 t.jG t.iN ["_law_cell_here"] (wg K vU):=by
 refine A4 T.jN iV (fun ds Q h=>by (first | (obtain ⟨_,rfl,_⟩:=h;rfl) | (obtain ⟨_,_,rfl,_⟩:=h;rfl) | (obtain ⟨_,_,_,rfl,_⟩:=h;rfl) | (obtain ⟨_,_,_,_,rfl,_⟩:=h;rfl) | (obtain ⟨_,_,_,_,_,rfl,_⟩:=h;rfl) | (obtain ⟨_,_,_,_,_,_,rfl,_⟩:=h;rfl) | (obtain ⟨_,_,_,_,_,_,_,rfl,_⟩:=h;rfl))) (fun cdv A outer s H hr=>?_)
 have hu:=hr.units
 refine ⟨_,(au (aX (i:=1) iV.nd rfl (Or.inl rfl) (aq bD (aq iH (af 0) ai) (aq lK ai ai)))
  (au (aX (i:=2) iV.nd rfl (Or.inl rfl) (aq bD (aq iH (af 0) ai) (aq fJ (aq lK ai ai) ai)))
  (aB (aE (dg (aa (aq bX (af 1) (aq iH ai (aq lK ai ai))) (aa (aq bX (af 2) (aq iH ai (aq lK ai ai))) ak))))))),fun ds Q h=>?_⟩
 obtain ⟨c,rfl,bc,h⟩:=h
 walk_at "rd"
 refine ⟨Or.inr (Or.inr ⟨bc,200,by decide +kernel,by decide⟩),?_⟩
 walk_at "rd"
 refine ⟨Or.inr (Or.inr ⟨bc,200,by decide +kernel,by decide⟩),?_⟩
 walk_at "rd"
 exact h ⟨_,_⟩ ⟨by walk_at "smle",by walk_at "smle"⟩
theorem sY (T:Txt K mg t):Binds K t.iO ["_law_kind","_law_cell_here","_law_frame","_law_k"] []:=T.jO.binds fun _ _ _ _ _ _ us hl=>match us,hl with | [_,_,_,_],_=>rfl
def vV:wK:=fun ds Q=> ∃ k c f i:Int,ds= [.int k,.int c,.int f,.int i]∧Att.Bh c∧∀ p:Pl,p.Ok 136→Q p.d
theorem sZ (T:Txt K mg t):b8 P w K mg base fZ 2 t.jH t.iO ["_law_kind","_law_cell_here","_law_frame","_law_k"] (wg K vV):=by
 refine A4 T.jO sQ (fun ds Q h=>by (first | (obtain ⟨_,rfl,_⟩:=h;rfl) | (obtain ⟨_,_,rfl,_⟩:=h;rfl) | (obtain ⟨_,_,_,rfl,_⟩:=h;rfl) | (obtain ⟨_,_,_,_,rfl,_⟩:=h;rfl) | (obtain ⟨_,_,_,_,_,rfl,_⟩:=h;rfl) | (obtain ⟨_,_,_,_,_,_,rfl,_⟩:=h;rfl) | (obtain ⟨_,_,_,_,_,_,_,rfl,_⟩:=h;rfl))) (fun cdv A outer s H hr=>?_)
 have hu:=hr.units
 refine ⟨_,(au (bT (aN (fM hu) (af 0) ai (aC _)) (aB (aE (dg (aa (aq fJ (aq lK ai ai) (aq bD (af 1) ai)) (aa (aq bX (aq bD (aq cQ (af 1) ai) ai) (aq gF ai (aq lK ai ai))) ak))))) aT)
  (au (bT (aN (fM hu) (af 0) ai (aC _)) (aB (aE (bg (kR T) (hr.mono (by decide)) (by rfl) T.lR T.fE.kp (kQ T) (aa (af 1) (aa (aq fJ ai (aq bD (af 2) (aq lK ai ai))) (aa (aq bX (aq bD (aq cQ (af 2) ai) ai) ai) (aa (jV (aq bD (aq cQ (af 2) ai) (aq lK ai ai))) ak))))))) aT)
  (au (bT (aN (fM hu) (af 0) ai (aC _)) (aB (aE (bg (sV T) (hr.mono (by decide)) (by rfl) T.vL T.jM.kp (sU T) (aa (af 1) (aa (af 2) ak))))) aT)
  (au (bT (aN (fM hu) (af 0) ai (aC _)) (aB (aE (bg (sX T) (hr.mono (by decide)) (by rfl) T.vM T.jN.kp (sW T) (aa (af 1) ak)))) aT)
  (au (bT (aN (fM hu) (af 0) ai (aC _)) (aB (aE (dg (aa (aq bX (aq bD (af 1) ai) ai) (aa (aq bX (aq bD (aq cQ (af 1) ai) ai) ai) ak))))) aT)
  (au (bT (oX.pt (tT (aN (fM hu) (af 0) ai (aC _)) (nU (aN (fM hu) (aq bD (af 3) ai) ai (aC _))))) (aB (aE (bg (kR T) (hr.mono (by decide)) (by rfl) T.lR T.fE.kp (kQ T) (aa (af 1) (aa ai (aa ai (aa (jV ai) ak))))))) aT)
  (au (bT (aN (fM hu) (af 0) ai (aC _)) (aB (aE (dg (aa (aq bX (aq bD (af 1) ai) ai) (aa (aq bX (aq bD (aq cQ (af 1) ai) ai) ai) ak))))) aT)
  (au (bT (aN (fM hu) (af 0) ai (aC _)) (aB (aE (dg (aa (aq fJ (aq bD (af 1) ai) (aM (cR (aa ai (aa (aq lK ai ai) ak))) (aq bD (aq cQ (af 1) ai) ai))) (aa (aq bD (aq cQ (af 1) ai) ai) ak))))) aT)
  (aB (aE (dg (aa (aq bD (af 1) ai) (aa (aq bD (aq cQ (af 1) ai) ai) ak))))))))))))),fun ds Q h=>?_⟩
 obtain ⟨k,c,f,i,rfl,bc,h⟩:=h
 have fin:∀ x y,Sm 136 x→Sm 136 y→Q (.tup [.int x,.int y]):=fun x y a b=>h ⟨x,y⟩ ⟨a,b⟩
 walk_at "rd"
 refine bB (fun _=>?_) (fun _=>?_)
 ·walk_at "rd"
  exact fin _ _ (by walk_at "smle") (by walk_at "smle")
 walk_at "rd"
 refine bB (fun _=>?_) (fun _=>?_)
 ·walk_at "rd"
  have n1:Sm 40 (1+f % 10 ^ 9):=by walk_at "smle"
  have n2:Sm 70 (f / 7 % 2001 - 1000):=by walk_at "smle"
  have n3:Sm 70 (-(f / 11 % 10 ^ 20)):=by walk_at "smle"
  exact ⟨n1,n2,n3,fun p hp=>h p hp⟩
 walk_at "rd"
 refine bB (fun _=>?_) (fun _=>?_)
 ·walk_at "rd"
  exact fun p hp=>h p hp
 walk_at "rd"
 refine bB (fun _=>?_) (fun _=>?_)
 ·walk_at "rd"
  exact ⟨bc,fun p hp=>h p hp⟩
 walk_at "rd"
 refine bB (fun _=>?_) (fun _=>?_)
 ·walk_at "rd"
  exact fin _ _ (by walk_at "smle") (by walk_at "smle")
 walk_at "rd"
 refine bB (fun _=>?_) (fun _=>?_)
 ·walk_at "rd"
  refine bB (fun _=>?_) (fun _=>?_)
  ·walk_at "rd"
   exact fun p hp=>h p hp
  walk_at "rd"
  refine bB (fun _=>?_) (fun _=>?_)
  ·walk_at "rd"
   exact fin _ _ (by walk_at "smle") (by walk_at "smle")
  walk_at "rd"
  refine bB (fun _=>?_) (fun _=>?_)
  ·walk_at "rd"
   intro p hp
   walk_at "rd"
   obtain ⟨z1,m1,e1⟩:=jz (ns:=[0,10 ^ 38]) (k:=c / 9 % 2) (Int.emod_nonneg _ (by decide)) (Int.emod_lt_of_pos _ (by decide))
   have s1:Sm 128 z1:=l9 (ns:=[0,10 ^ 38]) (by decide) m1
   refine ⟨_,_,_,.inr (.inr ⟨p,rfl,ah⟩),rfl,e1,?_⟩
   walk_at "rd"
   exact fin _ _ (by walk_at "smle") (by walk_at "smle")
  walk_at "rd"
  exact fin _ _ (by walk_at "smle") (by walk_at "smle")
 ·walk_at "rd"
  refine bB (fun _=>?_) (fun _=>?_)
  ·walk_at "rd"
   exact fin _ _ (by walk_at "smle") (by walk_at "smle")
  walk_at "rd"
  refine bB (fun _=>?_) (fun _=>?_)
  ·walk_at "rd"
   intro p hp
   walk_at "rd"
   obtain ⟨z1,m1,e1⟩:=jz (ns:=[0,10 ^ 38]) (k:=c / 9 % 2) (Int.emod_nonneg _ (by decide)) (Int.emod_lt_of_pos _ (by decide))
   have s1:Sm 128 z1:=l9 (ns:=[0,10 ^ 38]) (by decide) m1
   refine ⟨_,_,_,.inr (.inr ⟨p,rfl,ah⟩),rfl,e1,?_⟩
   walk_at "rd"
   exact fin _ _ (by walk_at "smle") (by walk_at "smle")
  walk_at "rd"
  exact fin _ _ (by walk_at "smle") (by walk_at "smle")
theorem rO (T:Txt K mg t):Binds K t.gP ["_law_script","_law_most"] []:=T.iU.binds fun _ _ _ _ _ _ us hl=>match us,hl with | [_,_],_=>rfl
def tu:pI:=fun ds M Q=> ∃ (ns:List Int) (m:Int),ds= [.wG (ns.map L3.D.int),.int m]∧(∀ z∈ns,Att.Bh z)∧ns.length≤63∧0≤m∧m≤40∧∀ (p:Addr) (ps:List Pl),M p=none→ps.Nodup→(∀ q∈ps,q.Ok 136)→(ps.length:Int)≤m→Q (.ref p) (aA M p (.lst (ps.map Pl.d)))
theorem rP (T:Txt K mg t):b8 P w K mg base fZ 3 t.iP t.gP ["_law_script","_law_most"] (qc K tu):=by
 refine uQ T.iU cH (fun ds M Q h=>by (first | (obtain ⟨_,rfl,_⟩:=h;rfl) | (obtain ⟨_,_,rfl,_⟩:=h;rfl) | (obtain ⟨_,_,_,rfl,_⟩:=h;rfl) | (obtain ⟨_,_,_,_,rfl,_⟩:=h;rfl) | (obtain ⟨_,_,_,_,_,rfl,_⟩:=h;rfl) | (obtain ⟨_,_,_,_,_,_,rfl,_⟩:=h;rfl) | (obtain ⟨_,_,_,_,_,_,_,rfl,_⟩:=h;rfl))) (fun cdv A outer s H hr=>?_)
 have hu:=hr.units
 refine ⟨_,(au (aX (i:=2) cH.nd rfl (Or.inl rfl) (bg (gm T) (hr.mono (by decide)) (by rfl) T.iw T.dU.kp (gj T) (aa (af 0) (aa ai ak))))
  (au (aX (i:=3) cH.nd rfl (Or.inl rfl) (bg (gm T) (hr.mono (by decide)) (by rfl) T.iw T.dU.kp (gj T) (aa (af 0) (aa ai ak))))
  (au (aX (i:=4) cH.nd rfl (Or.inl rfl) (cR ak))
  (au (gG PassesOwn.never rfl (by rfl) T.cO (aa (aD (Iv rfl) (by rfl) T.zC nX (aa (af 1) (aa (aq bD (aq cQ (af 2) ai) (aq fJ (af 1) ai)) ak))) ak) (cT (i:=5) cH.nd rfl (Or.inl rfl)) (au (aX (i:=6) cH.nd rfl (Or.inl rfl) (bg (sZ T) (hr.mono (by decide)) (by rfl) T.vN T.jO.kp (sY T) (aa (aq bD (af 2) ai) (aa (bg (gm T) (hr.mono (by decide)) (by rfl) T.iw T.dU.kp (gj T) (aa (af 0) (aa (aq fJ (af 5) ai) ak))) (aa (af 3) (aa (af 5) ak))))))
  (aB (bT (aN (uO hu) (af 6) (af 4) (by with_unfolding_all rfl)) (aB (nW (CD (af 4) (af 6) (wF PySem.F.plainAttrs_list PySem.F.slot_list_append PySem.F.type_list_append kZ (cM.dn (af 4)) (kY (cM.dn (af 6)) nS))))) aT))))
  (aB (aE (af 4))))))),fun ds M Q h=>?_⟩
 obtain ⟨ns,m,rfl,hb,hlen,hm0,hm1,h⟩:=h
 walk_at "rd"
 refine ⟨hb,hlen,by decide,by decide,fun hd _=>?_⟩
 walk_at "rd"
 refine ⟨hb,hlen,by decide,by decide,fun fr _=>?_⟩
 walk_at "rd"
 intro p hp
 walk_at "rd"
 have e0:0≤hd / 8 % (m+3):=Int.emod_nonneg _ (by omega)
 refine ⟨by dsimp only;omega,by dsimp only;omega,?_⟩
 refine aS (fun i ρ M'=> ∃ (ps:List Pl) (y1 y2:Option L3.D),ρ= [some (.wG (ns.map L3.D.int)),some (.int m),some (.int hd),some (.int fr),some (.ref p),y1,y2]∧ps.length≤i∧ps.Nodup∧(∀ q∈ps,q.Ok 136)∧M'=aA M p (.lst (ps.map Pl.d))) _ ?_ ?_ ⟨[],_,_,rfl,Nat.le_refl _,List.nodup_nil,(fun q hq=>by cases hq),rfl⟩
 ·rintro i x ρ M' N hx ⟨ps,y1,y2,rfl,hl,nd,ho,rfl⟩ hN
  obtain ⟨hi,rfl⟩:=bL hx
  have hi:i < 41:=by dsimp only at hi;omega
  refine ⟨trivial,?_⟩
  walk_at "rd"
  refine ⟨hb,hlen,by dsimp only;omega,by dsimp only;omega,fun z1 bz=>?_⟩
  walk_at "rd"
  refine ⟨bz,fun q hq=>?_⟩
  walk_at "rd"
  refine ⟨_,.inr ⟨p,rfl,ah⟩,rfl,dO ps,?_⟩
  walk_at "rd"
  rw [if_pos rfl,Fv]
  refine bB (fun k=>?_) (fun k=>?_)
  ·have k:q∉ps:=fun z=>by rw [decide_eq_true z] at k;cases k
   walk_at "rd"
   refine ⟨⟨p,_,rfl,ah⟩,?_⟩
   walk_at "rd"
   refine ⟨p,_,rfl,ah,?_,?_⟩
   ·rw [List.length_map]
    have:(1000:Nat) < sizeLine:=by decide
    omega
   ·rw [kj]
    refine hN _ _ ⟨ps ++ [q],_,_,rfl,by simp;omega,?_,?_,by simp⟩
    ·rw [List.nodup_append]
     exact ⟨nd,by simp,fun a ha b hb e=>by rw [List.mem_singleton.mp hb] at e;subst e;exact k ha⟩
    ·intro z hz
     rcases List.mem_append.mp hz with hz | hz
     ·exact ho z hz
     ·rw [List.mem_singleton.mp hz];exact hq
  ·exact hN _ _ ⟨ps,_,_,rfl,by omega,nd,ho,rfl⟩
 ·rintro ρ M' ⟨ps,y1,y2,rfl,hl,nd,ho,rfl⟩
  refine ⟨trivial,?_⟩
  walk_at "rd"
  refine bf.mk ⟨_,Le.refl _,h p ps hp nd ho ?_⟩
  simp at hl
  omega
theorem o9 (T:Txt K mg t):Binds K t.kI ["_law_cover_here","_law_a","_law_b"] []:=T.jP.binds fun _ _ _ _ _ _ us hl=>match us,hl with | [_,_,_],_=>rfl
def LU (ts:List (List Pl)) (a b:Pl):Option Pl→Prop
 | none=>True
 | some c=> ∃ t∈ts,t= [c,a,b]∨t= [b,c,a]∨t= [a,b,c]
def zD:pI:=fun ds M Q=> ∃ (l:Addr) (a b:Pl),ds= [.ref l,a.d,b.d]∧∃ ts:List (List Pl),M l=some (.lst (ts.map tD))∧(∀ t∈ts,Tr t)∧∀ r:Option Pl,LU ts a b r→Q (oP r) M
theorem pq (T:Txt K mg t):b8 P w K mg base fZ 1 t.mG t.kI ["_law_cover_here","_law_a","_law_b"] (qc K zD):=by
 refine uQ T.jP kO (fun ds M Q h=>by (first | (obtain ⟨_,rfl,_⟩:=h;rfl) | (obtain ⟨_,_,rfl,_⟩:=h;rfl) | (obtain ⟨_,_,_,rfl,_⟩:=h;rfl) | (obtain ⟨_,_,_,_,rfl,_⟩:=h;rfl) | (obtain ⟨_,_,_,_,_,rfl,_⟩:=h;rfl) | (obtain ⟨_,_,_,_,_,_,rfl,_⟩:=h;rfl) | (obtain ⟨_,_,_,_,_,_,_,rfl,_⟩:=h;rfl))) (fun cdv A outer s H hr=>?_)
 have hu:=hr.units
 refine ⟨_,(au (uP PassesOwn.never rfl (af 0) (cT (i:=3) kO.nd rfl (Or.inl rfl)) (aB (gG PassesOwn.never rfl (by rfl) T.cO (aa ai ak) (cT (i:=4) kO.nd rfl (Or.inl rfl)) (aB (bT (oX.pt (tT (aN (fM hu) (aM (af 3) (aq bX (af 4) ai)) (af 1) (aC _)) (nU (aN (fM hu) (aM (af 3) (aq bX (af 4) ai)) (af 2) (aC _))))) (aB (aE (aM (af 3) (af 4)))) aT)))))
  (aB (aE gD))),fun ds M Q h=>?_⟩
 obtain ⟨l,a,b,rfl,ts,hM,hts,h⟩:=h
 walk_at "rd"
 refine ⟨l,_,rfl,hM,?_⟩
 refine aS (fun i ρ M'=>M'=M∧∃ y1 y2:Option L3.D,ρ= [some (.ref l),some a.d,some b.d,y1,y2]) _ ?_ ?_ ⟨rfl,_,_,rfl⟩
 ·rintro i x ρ M' N hx ⟨rfl,y1,y2,rfl⟩ hN
  obtain ⟨t,ht,rfl⟩:=jA hx
  have mt:=List.mem_of_getElem? ht
  obtain ⟨u,v,w',rfl,_⟩:=hts t mt
  refine ⟨hM,?_⟩
  walk_at "rd"
  rw [cU]
  refine bB (fun k1=>?_) (fun k1=>?_)
  ·walk_at "rd"
   rw [cU]
   refine bB (fun k2=>?_) (fun k2=>?_)
   ·have k1:=of_decide_eq_true k1
    have k2:=of_decide_eq_true k2
    subst k1 k2
    walk_at "rd"
    exact bf.mk ⟨_,Le.refl _,h (some u) ⟨_,mt,.inl rfl⟩⟩
   ·walk_at "rd"
    rw [cU]
    refine bB (fun k1=>?_) (fun k1=>?_)
    ·walk_at "rd"
     rw [cU]
     refine bB (fun k2=>?_) (fun k2=>?_)
     ·have k1:=of_decide_eq_true k1
      have k2:=of_decide_eq_true k2
      subst k1 k2
      walk_at "rd"
      exact bf.mk ⟨_,Le.refl _,h (some v) ⟨_,mt,.inr (.inl rfl)⟩⟩
     ·walk_at "rd"
      rw [cU]
      refine bB (fun k1=>?_) (fun k1=>?_)
      ·walk_at "rd"
       rw [cU]
       refine bB (fun k2=>?_) (fun k2=>?_)
       ·have k1:=of_decide_eq_true k1
        have k2:=of_decide_eq_true k2
        subst k1 k2
        walk_at "rd"
        exact bf.mk ⟨_,Le.refl _,h (some w') ⟨_,mt,.inr (.inr rfl)⟩⟩
       ·walk_at "rd"
        exact hN _ _ ⟨rfl,_,_,rfl⟩
      ·walk_at "rd"
       exact hN _ _ ⟨rfl,_,_,rfl⟩
    ·walk_at "rd"
     rw [cU]
     refine bB (fun k1=>?_) (fun k1=>?_)
     ·walk_at "rd"
      rw [cU]
      refine bB (fun k2=>?_) (fun k2=>?_)
      ·have k1:=of_decide_eq_true k1
       have k2:=of_decide_eq_true k2
       subst k1 k2
       walk_at "rd"
       exact bf.mk ⟨_,Le.refl _,h (some w') ⟨_,mt,.inr (.inr rfl)⟩⟩
      ·walk_at "rd"
       exact hN _ _ ⟨rfl,_,_,rfl⟩
     ·walk_at "rd"
      exact hN _ _ ⟨rfl,_,_,rfl⟩
  ·walk_at "rd"
   rw [cU]
   refine bB (fun k1=>?_) (fun k1=>?_)
   ·walk_at "rd"
    rw [cU]
    refine bB (fun k2=>?_) (fun k2=>?_)
    ·have k1:=of_decide_eq_true k1
     have k2:=of_decide_eq_true k2
     subst k1 k2
     walk_at "rd"
     exact bf.mk ⟨_,Le.refl _,h (some v) ⟨_,mt,.inr (.inl rfl)⟩⟩
    ·walk_at "rd"
     rw [cU]
     refine bB (fun k1=>?_) (fun k1=>?_)
     ·walk_at "rd"
      rw [cU]
      refine bB (fun k2=>?_) (fun k2=>?_)
      ·have k1:=of_decide_eq_true k1
       have k2:=of_decide_eq_true k2
       subst k1 k2
       walk_at "rd"
       exact bf.mk ⟨_,Le.refl _,h (some w') ⟨_,mt,.inr (.inr rfl)⟩⟩
      ·walk_at "rd"
       exact hN _ _ ⟨rfl,_,_,rfl⟩
     ·walk_at "rd"
      exact hN _ _ ⟨rfl,_,_,rfl⟩
   ·walk_at "rd"
    rw [cU]
    refine bB (fun k1=>?_) (fun k1=>?_)
    ·walk_at "rd"
     rw [cU]
     refine bB (fun k2=>?_) (fun k2=>?_)
     ·have k1:=of_decide_eq_true k1
      have k2:=of_decide_eq_true k2
      subst k1 k2
      walk_at "rd"
      exact bf.mk ⟨_,Le.refl _,h (some w') ⟨_,mt,.inr (.inr rfl)⟩⟩
     ·walk_at "rd"
      exact hN _ _ ⟨rfl,_,_,rfl⟩
    ·walk_at "rd"
     exact hN _ _ ⟨rfl,_,_,rfl⟩
 ·rintro ρ M' ⟨rfl,y1,y2,rfl⟩
  refine ⟨hM,?_⟩
  walk_at "rd"
  exact bf.mk ⟨_,Le.refl _,h none trivial⟩
theorem gn (T:Txt K mg t):Binds K t.jI ["_law_a","_law_b","_law_c"] []:=T.dW.binds fun _ _ _ _ _ _ us hl=>match us,hl with | [_,_,_],_=>rfl
def laid (a b c:Pl):List Pl:=if aZ b a∧aZ b c then [b,c,a] else if aZ c a∧aZ c b then [c,a,b] else [a,b,c]
def yc:wK:=fun ds Q=> ∃ a b c:Pl,ds= [a.d,b.d,c.d]∧Q (tD (laid a b c))
theorem gp (T:Txt K mg t):b8 P w K mg base fZ 1 t.kJ t.jI ["_law_a","_law_b","_law_c"] (wg K yc):=by
 refine A4 T.dW vR (fun ds Q h=>by (first | (obtain ⟨_,rfl,_⟩:=h;rfl) | (obtain ⟨_,_,rfl,_⟩:=h;rfl) | (obtain ⟨_,_,_,rfl,_⟩:=h;rfl) | (obtain ⟨_,_,_,_,rfl,_⟩:=h;rfl) | (obtain ⟨_,_,_,_,_,rfl,_⟩:=h;rfl) | (obtain ⟨_,_,_,_,_,_,rfl,_⟩:=h;rfl) | (obtain ⟨_,_,_,_,_,_,_,rfl,_⟩:=h;rfl))) (fun cdv A outer s H hr=>?_)
 have hu:=hr.units
 refine ⟨_,(au (bT (oX.pt (tT (aN (oY hu) (af 1) (af 0) (aC _)) (nU (aN (oY hu) (af 1) (af 2) (aC _))))) (aB (aE (dg (aa (af 1) (aa (af 2) (aa (af 0) ak)))))) aT)
  (au (bT (oX.pt (tT (aN (oY hu) (af 2) (af 0) (aC _)) (nU (aN (oY hu) (af 2) (af 1) (aC _))))) (aB (aE (dg (aa (af 2) (aa (af 0) (aa (af 1) ak)))))) aT)
  (aB (aE (dg (aa (af 0) (aa (af 1) (aa (af 2) ak)))))))),fun ds Q h=>?_⟩
 obtain ⟨a,b,c,rfl,h⟩:=h
 unfold laid at h
 walk_at "rd"
 rw [gg]
 refine bB (fun k1=>?_) (fun k1=>?_)
 ·walk_at "rd"
  rw [gg]
  refine bB (fun k2=>?_) (fun k2=>?_)
  ·rw [if_pos ⟨of_decide_eq_true k1,of_decide_eq_true k2⟩] at h
   walk_at "rd"
   exact h
  ·rw [if_neg (fun z=>k2 (decide_eq_true z.2))] at h
   walk_at "rd"
   rw [gg]
   refine bB (fun k3=>?_) (fun k3=>?_)
   ·walk_at "rd"
    rw [gg]
    refine bB (fun k4=>?_) (fun k4=>?_)
    ·rw [if_pos ⟨of_decide_eq_true k3,of_decide_eq_true k4⟩] at h
     walk_at "rd"
     exact h
    ·rw [if_neg (fun z=>k4 (decide_eq_true z.2))] at h
     walk_at "rd"
     exact h
   ·rw [if_neg (fun z=>k3 (decide_eq_true z.1))] at h
    walk_at "rd"
    exact h
 ·rw [if_neg (fun z=>k1 (decide_eq_true z.1))] at h
  walk_at "rd"
  rw [gg]
  refine bB (fun k3=>?_) (fun k3=>?_)
  ·walk_at "rd"
   rw [gg]
   refine bB (fun k4=>?_) (fun k4=>?_)
   ·rw [if_pos ⟨of_decide_eq_true k3,of_decide_eq_true k4⟩] at h
    walk_at "rd"
    exact h
   ·rw [if_neg (fun z=>k4 (decide_eq_true z.2))] at h
    walk_at "rd"
    exact h
  ·rw [if_neg (fun z=>k3 (decide_eq_true z.1))] at h
   walk_at "rd"
   exact h
theorem iW (T:Txt K mg t):Binds K t.iQ ["_law_a","_law_b","_law_c"] []:=T.eL.binds fun _ _ _ _ _ _ us hl=>match us,hl with | [_,_,_],_=>rfl
def vW:wK:=fun ds Q=> ∃ a b c:Pl,ds= [a.d,b.d,c.d]∧a.Ok 140∧b.Ok 140∧c.Ok 140∧Q (.int (tw a b c))
theorem iX (T:Txt K mg t):b8 P w K mg base fZ 1 t.jJ t.iQ ["_law_a","_law_b","_law_c"] (wg K vW):=by
 refine A4 T.eL sR (fun ds Q h=>by (first | (obtain ⟨_,rfl,_⟩:=h;rfl) | (obtain ⟨_,_,rfl,_⟩:=h;rfl) | (obtain ⟨_,_,_,rfl,_⟩:=h;rfl) | (obtain ⟨_,_,_,_,rfl,_⟩:=h;rfl) | (obtain ⟨_,_,_,_,_,rfl,_⟩:=h;rfl) | (obtain ⟨_,_,_,_,_,_,rfl,_⟩:=h;rfl) | (obtain ⟨_,_,_,_,_,_,_,rfl,_⟩:=h;rfl))) (fun cdv A outer s H hr=>?_)
 have hu:=hr.units
 refine ⟨_,(aB (aE (aq bX (aq gF (aq bX (aM (af 1) ai) (aM (af 0) ai)) (aq bX (aM (af 2) ai) (aM (af 0) ai))) (aq gF (aq bX (aM (af 1) ai) (aM (af 0) ai)) (aq bX (aM (af 2) ai) (aM (af 0) ai)))))),fun ds Q h=>?_⟩
 obtain ⟨a,b,c,rfl,⟨a1,a2⟩,⟨b1,b2⟩,⟨c1,c2⟩,h⟩:=h
 unfold tw at h
 walk_at "rd"
 exact h
theorem pS (T:Txt K mg t):Binds K t.fN ["_law_cover_here","_law_a","_law_b"] []:=T.gU.binds fun _ _ _ _ _ _ us hl=>match us,hl with | [_,_,_],_=>rfl
theorem gq {a b c:Pl} (h:0 < tw a b c):kB (laid a b c)∧(laid a b c).Perm [a,b,c]:=by
 obtain ⟨n1,n2,n3⟩:=Ak (show tw a b c≠0 by omega)
 unfold laid
 by_cases k:aZ b a∧aZ b c
 ·rw [if_pos k]
  exact ⟨⟨b,c,a,rfl,k.2,k.1,by rw [jy];exact h⟩,(List.perm_append_comm (l₁:=[b,c]) (l₂:=[a]))⟩
 ·rw [if_neg k]
  by_cases k2:aZ c a∧aZ c b
  ·rw [if_pos k2]
   exact ⟨⟨c,a,b,rfl,k2.1,k2.2,by rw [← jy c a b];exact h⟩,(List.perm_append_comm (l₁:=[c]) (l₂:=[a,b]))⟩
  ·rw [if_neg k2]
   have ab:aZ a b:=by
    rcases iG n1 with z | z
    ·exact z
    ·rcases iG n3 with y | y
     ·exact absurd ⟨z,y⟩ k
     ·exact absurd ⟨c6 y z,y⟩ k2
   have ac:aZ a c:=by
    rcases iG n2 with z | z
    ·exact z
    ·exact absurd ⟨z,c6 z ab⟩ k2
   exact ⟨⟨a,b,c,rfl,ab,ac,h⟩,.refl _⟩
theorem vX {a b c:Pl} (h:kB [a,b,c]):0 < tw a b c:=by
 obtain ⟨u,v,w,e,_,_,p⟩:=h
 injection e with e1 e
 injection e with e2 e
 injection e with e3 e
 rw [e1,e2,e3]
 exact p
theorem yd {ps:List Pl} {ts:List (List Pl)} {a b c:Pl} (h:LU ts a b (some c)) (hT:∀ t∈ts,nQ ps t):0 < tw a b c∧laid a b c∈ts∧a∈ps∧b∈ps∧c∈ps:=by
 obtain ⟨t,ht,e⟩:=h
 obtain ⟨h1,h2⟩:=hT t ht
 have r1:=jy a b c
 have r2:=jy b c a
 rcases e with rfl | rfl | rfl
 ·have p:0 < tw a b c:=by have:=vX h1;omega
  obtain ⟨k1,k2⟩:=gq p
  refine ⟨p,?_,h2 a (by simp),h2 b (by simp),h2 c (by simp)⟩
  rw [k1.uniq h1 (k2.trans (List.perm_append_comm (l₁:=[a,b]) (l₂:=[c])))]
  exact ht
 ·have p:0 < tw a b c:=by have:=vX h1;omega
  obtain ⟨k1,k2⟩:=gq p
  refine ⟨p,?_,h2 a (by simp),h2 b (by simp),h2 c (by simp)⟩
  rw [k1.uniq h1 (k2.trans (List.perm_append_comm (l₁:=[a]) (l₂:=[b,c])))]
  exact ht
 ·have p:0 < tw a b c:=vX h1
  obtain ⟨k1,k2⟩:=gq p
  refine ⟨p,?_,h2 a (by simp),h2 b (by simp),h2 c (by simp)⟩
  rw [k1.uniq h1 k2]
  exact ht
theorem ye {a b c d:Pl} (h1:0 < tw a b c) (h2:0 < tw b a d):laid a b c≠laid b a d:=fun e=>by
 obtain ⟨_,k1⟩:=gq h1
 obtain ⟨_,k2⟩:=gq h2
 rw [e] at k1
 have k:=k1.symm.trans k2
 have m:c∈[b,a,d]:=k.mem_iff.mp (by simp)
 obtain ⟨_,n2,n3⟩:=Ak (show tw a b c≠0 by omega)
 simp only [List.mem_cons,List.not_mem_nil,or_false] at m
 rcases m with m | m | m
 ·exact n3 m.symm
 ·exact n2 m.symm
 ·rw [m] at h1
  have:=uR a b d
  omega
theorem yf {a b c d:Pl} (h1:0 < tw a b c) (h2:0 < tw b a d) (h:tw c d a*tw c d b < 0):0 < tw a d c∧0 < tw b c d:=by
 have e1:tw a d c= - tw c d a:=by unfold tw;grind
 have e2:tw b c d=tw c d b:=by unfold tw;grind
 have e3:tw c d b - tw c d a=tw a b c+tw b a d:=by unfold tw;grind
 rw [e1,e2]
 generalize tw c d a=A at *
 generalize tw c d b=B at *
 rcases Int.lt_trichotomy A 0 with z | z | z
 ·refine ⟨by omega,?_⟩
  apply Classical.byContradiction
  intro w
  have:=Int.mul_nonneg_of_nonpos_of_nonpos (a:=A) (b:=B) (by omega) (by omega)
  omega
 ·rw [z,Int.zero_mul] at h;omega
 ·have:=Int.mul_nonneg (a:=A) (b:=B) (by omega) (by omega)
  omega
theorem lG {f:List Pl→Bool} {g:List Pl}:∀ {ts:List (List Pl)},g∈ts→f g=false→(ts.filter f).length+1≤ts.length
 | [],h,_=>by cases h
 | t :: ts,h,hf=>by
   rw [List.filter_cons,List.length_cons]
   have l:=List.length_filter_le f ts
   by_cases e:t=g
   ·rw [e,if_neg (by rw [hf];simp)]
    omega
   ·rcases List.mem_cons.mp h with h | h
    ·exact absurd h.symm e
    ·have:=lG h hf
     split
     ·rw [List.length_cons];omega
     ·omega
theorem GW {f:List Pl→Bool} {g1 g2:List Pl} (n:g1≠g2) (f1:f g1=false) (f2:f g2=false):∀ {ts:List (List Pl)},g1∈ts→g2∈ts→(ts.filter f).length+2≤ts.length
 | [],h,_=>by cases h
 | t :: ts,h1,h2=>by
   rw [List.filter_cons,List.length_cons]
   by_cases e:t=g1
   ·rw [e,if_neg (by rw [f1];simp)]
    rcases List.mem_cons.mp h2 with h | h
    ·rw [e] at h;exact absurd h.symm n
    ·have:=lG h f2;omega
   ·by_cases e2:t=g2
    ·rw [e2,if_neg (by rw [f2];simp)]
     rcases List.mem_cons.mp h1 with h | h
     ·exact absurd h.symm e
     ·have:=lG h f1;omega
    ·rcases List.mem_cons.mp h1 with h | h
     ·exact absurd h.symm e
     ·rcases List.mem_cons.mp h2 with h' | h'
      ·exact absurd h'.symm e2
      ·have:=GW n f1 f2 h h'
       split
       ·rw [List.length_cons];omega
       ·omega
theorem nK (a b c:Pl):xX (laid a b c) a b c:=by
 unfold laid
 split
 ·exact .inr (.inl rfl)
 ·split
  ·exact .inr (.inr rfl)
  ·exact .inl rfl
/-- as it was,or a side turned over -/
def yg (ts us:List (List Pl)):Prop:=us=ts∨∃ a b c d:Pl,0 < tw a b c∧0 < tw b a d∧laid a b c∈ts∧laid b a d∈ts∧tw c d a*tw c d b < 0∧us.Perm (ts.filter (fun t=>decide (t∉[laid a b c,laid b a d])) ++ [laid a d c,laid b c d])
theorem BU {ts:List (List Pl)} {t1 t2:List Pl} (nd:ts.Nodup) (n:t1≠t2) (h1:t1∈ts) (h2:t2∈ts):ts.Perm (t1 :: t2 :: ts.filter (fun t=>decide (t∉[t1,t2]))):=by
 refine dR nd (List.nodup_cons.mpr ⟨fun z=>?_,List.nodup_cons.mpr ⟨fun z=>?_,nd.filter _⟩⟩) fun t=>?_
 ·rcases List.mem_cons.mp z with z | z
  ·exact n z
  ·exact of_decide_eq_true (List.mem_filter.mp z).2 (by simp)
 ·exact of_decide_eq_true (List.mem_filter.mp z).2 (by simp)
 ·rw [List.mem_cons,List.mem_cons,List.mem_filter]
  constructor
  ·intro h
   by_cases e1:t=t1
   ·exact .inl e1
   ·by_cases e2:t=t2
    ·exact .inr (.inl e2)
    ·exact .inr (.inr ⟨h,decide_eq_true (by simp [e1,e2])⟩)
  ·rintro (rfl | rfl | h)
   ·exact h1
   ·exact h2
   ·exact h.1
theorem yh {Q:List Pl} {ts us:List (List Pl)} (k:jf Q ts) (nf:¬ Flat Q) (h:yg ts us):jf Q us∧us.length=ts.length:=by
 rcases h with rfl | ⟨a,b,c,d,p1,p2,m1,m2,cv,hp⟩
 ·exact ⟨k,rfl⟩
 ·have O4:=ye p1 p2
  obtain ⟨q1,q2⟩:=yf p1 p2 cv
  have e:=BU k.nodup O4 m1 m2
  have G8:us.Perm (laid a d c :: laid b c d :: ts.filter (fun t=>decide (t∉[laid a b c,laid b a d]))):=hp.trans (List.perm_append_comm (l₂:=[laid a d c,laid b c d]))
  refine ⟨k.flip nf e (nK a b c) (nK b a d) cv G8 (nK a d c) (nK b c d) (gq q1).1 (gq q2).1,?_⟩
  rw [G8.length_eq,e.length_eq]
  rfl
def rQ:pI:=fun ds M Q=> ∃ (l:Addr) (a b:Pl),ds= [.ref l,a.d,b.d]∧∃ (ps:List Pl) (ts:List (List Pl)),M l=some (.lst (ts.map tD))∧(∀ t∈ts,nQ ps t)∧ts.length≤20∧(∀ q∈ps,q.Ok 140)∧∀ (p:Addr) (us:List (List Pl)) (M':Mp),Le M M'→M' p=some (.lst (us.map tD))→(∀ t∈us,nQ ps t)→us.length≤20→yg ts us→Q (.ref p) M'
theorem pT (T:Txt K mg t):b8 P w K mg base fZ 2 t.gQ t.fN ["_law_cover_here","_law_a","_law_b"] (qc K rQ):=by
 refine uQ T.gU dI (fun ds M Q h=>by (first | (obtain ⟨_,rfl,_⟩:=h;rfl) | (obtain ⟨_,_,rfl,_⟩:=h;rfl) | (obtain ⟨_,_,_,rfl,_⟩:=h;rfl) | (obtain ⟨_,_,_,_,rfl,_⟩:=h;rfl) | (obtain ⟨_,_,_,_,_,rfl,_⟩:=h;rfl) | (obtain ⟨_,_,_,_,_,_,rfl,_⟩:=h;rfl) | (obtain ⟨_,_,_,_,_,_,_,rfl,_⟩:=h;rfl))) (fun cdv A outer s H hr=>?_)
 have hu:=hr.units
 refine ⟨_,(au (aX (i:=3) dI.nd rfl (Or.inl rfl) (bE (pq T) (hr.mono (by decide)) (by rfl) T.rJ T.jP.kp (o9 T) (aa (af 0) (aa (af 1) (aa (af 2) ak)))))
  (au (aX (i:=4) dI.nd rfl (Or.inl rfl) (bE (pq T) (hr.mono (by decide)) (by rfl) T.rJ T.jP.kp (o9 T) (aa (af 0) (aa (af 2) (aa (af 1) ak)))))
  (au (bT (oX.pt (qo (aN g9 (af 3) gD (aC _)) (qo (aN g9 (af 4) gD (aC _)) (lH (aN NJ (aq gF (bg (iX T) (hr.mono (by decide)) (by rfl) T.jQ T.eL.kp (iW T) (aa (af 3) (aa (af 4) (aa (af 1) ak)))) (bg (iX T) (hr.mono (by decide)) (by rfl) T.jQ T.eL.kp (iW T) (aa (af 3) (aa (af 4) (aa (af 2) ak))))) ai (aC _)))))) (aB (aE (af 0))) aT)
  (au (aX (i:=5) dI.nd rfl (Or.inr rfl) (cR (aa (bg (gp T) (hr.mono (by decide)) (by rfl) T.iy T.dW.kp (gn T) (aa (af 1) (aa (af 2) (aa (af 3) ak)))) (aa (bg (gp T) (hr.mono (by decide)) (by rfl) T.iy T.dW.kp (gn T) (aa (af 2) (aa (af 1) (aa (af 4) ak)))) ak))))
  (aB (aE (aD (n8 (n:=3) (.inr rfl) hu) (by rfl) T.cP bO (aa (aq CW (wU (m5 (ys:=["_law_gone"]) (fs:=[5]) rfl (by show cK (az dY) ["_law_cover_here","_law_a","_law_b","_law_c","_law_d","_law_gone"] _ _ _ _=true;decide +kernel) (af 0) (fun cl C s0 H0 ex=>CT (aN (uO hu) (af 0) (af 1) (by with_unfolding_all rfl))) (fun cl C s0 H0 ex=>(af 0)))) (cR (aa (bg (gp T) (hr.mono (by decide)) (by rfl) T.iy T.dW.kp (gn T) (aa (af 1) (aa (af 4) (aa (af 3) ak)))) (aa (bg (gp T) (hr.mono (by decide)) (by rfl) T.iy T.dW.kp (gn T) (aa (af 2) (aa (af 3) (aa (af 4) ak)))) ak)))) ak)))))))),fun ds M Q h=>?_⟩
 obtain ⟨l,a,b,rfl,ps,ts,hM,hT,lt,ho,h⟩:=h
 have sl:(1000:Nat) < sizeLine:=by decide
 have JZ:∀ t∈ts,Tr t:=fun t ht=>(hT t ht).tr ho
 have same:bf (∃ M0,Le M0 M∧Q (.ref l) M0):=bf.mk ⟨M,Le.refl _,h l ts M (Le.refl _) hM hT lt (.inl rfl)⟩
 walk_at "rd"
 refine ⟨ts,hM,JZ,fun r1 hr1=>?_⟩
 walk_at "rd"
 refine ⟨ts,hM,JZ,fun r2 hr2=>?_⟩
 cases r1 with
 | none=>
   walk_at "rd"
   exact same
 | some c=>
   cases r2 with
   | none=>
     walk_at "rd"
     exact same
   | some d=>
     obtain ⟨p1,m1,ma,mb,mc⟩:=yd hr1 hT
     obtain ⟨p2,m2,_,_,md⟩:=yd hr2 hT
     have t1:=GZ (ho c mc) (ho d md) (ho a ma)
     have t2:=GZ (ho c mc) (ho d md) (ho b mb)
     walk_at "rd"
     refine ⟨ho c mc,ho d md,ho a ma,?_⟩
     walk_at "rd"
     refine ⟨ho c mc,ho d md,ho b mb,?_⟩
     walk_at "rd"
     refine bB (fun k=>?_) (fun k=>?_)
     ·walk_at "rd"
      exact same
     have k:tw c d a*tw c d b < 0:=by
      apply Classical.byContradiction
      intro z
      exact k (decide_eq_true (Int.not_lt.mp z))
     obtain ⟨q1,q2⟩:=yf p1 p2 k
     have O4:=ye p1 p2
     obtain ⟨i1,j1⟩:=gq q1
     obtain ⟨i2,j2⟩:=gq q2
     have in1:nQ ps (laid a d c):=⟨i1,fun q hq=>by
      have:=j1.mem_iff.mp hq
      simp only [List.mem_cons,List.not_mem_nil,or_false] at this
      rcases this with rfl | rfl | rfl <;> assumption⟩
     have R5:nQ ps (laid b c d):=⟨i2,fun q hq=>by
      have:=j2.mem_iff.mp hq
      simp only [List.mem_cons,List.not_mem_nil,or_false] at this
      rcases this with rfl | rfl | rfl <;> assumption⟩
     walk_at "rd"
     intro g hg
     have eG: [tD (laid a b c),tD (laid b a d)]= [laid a b c,laid b a d].map tD:=rfl
     have eN: [tD (laid a d c),tD (laid b c d)]= [laid a d c,laid b c d].map tD:=rfl
     have hfe:∀ f:List Pl→Bool,(∀ t,f t=decide (t∉[laid a b c,laid b a d]))→(ts.filter f).length+2≤ts.length:=fun f hf=>GW O4 (by rw [hf];simp) (by rw [hf];simp) m1 m2
     have hfe:=hfe (fun t=>decide (t∉[laid a b c,laid b a d])) fun t=>rfl
     have Mv:∀ us:List (List Pl),us.Perm (ts.filter (fun t=>decide (t∉[laid a b c,laid b a d])) ++ [laid a d c,laid b c d])→yg ts us:=fun us hp=> .inr ⟨a,b,c,d,p1,p2,m1,m2,k,hp⟩
     try rw [eG]
     generalize [laid a b c,laid b a d]=gs at hfe Mv ⊢
     have hM:=aj (u:=MO.lst (gs.map tD)) hM hg
     have le:=Le.new (o:=MO.lst (gs.map tD)) hg
     have hG:aA M g (.lst (gs.map tD)) g=some (.lst (gs.map tD)):=ah
     generalize aA M g (.lst (gs.map tD))=M1 at hM hG le ⊢
     walk_at "rd"
     refine ⟨l,_,rfl,hM,by rw [List.length_map];omega,bf.mk (dP (fun j acc M5=>M5=M1∧acc=((ts.take j).filter (fun t=>decide (t∉gs))).map tD) _ ?_ ?_ ⟨rfl,rfl⟩)⟩
     ·rintro j v acc M5 N2 nL ⟨rfl,rfl⟩ wk
      obtain ⟨t',ht,rfl⟩:=jA nL
      refine ⟨hM,?_⟩
      walk_at "rd"
      refine ⟨_,.inr ⟨g,rfl,hG⟩,uf t',cW gs,?_⟩
      walk_at "rd"
      rw [Ar,if_pos rfl]
      refine bB (fun k=>?_) (fun k=>?_)
      ·have k:t'∉gs:=fun z=>by rw [decide_eq_true z] at k;cases k
       walk_at "rd"
       refine wk _ _ ⟨rfl,?_⟩
       rw [ia ht,if_pos (decide_eq_true k),List.map_append]
       rfl
      ·have k:t'∈gs:=Classical.byContradiction fun z=>k (by rw [decide_eq_false z];rfl)
       refine wk _ _ ⟨rfl,?_⟩
       rw [ia ht,if_neg (fun z=>of_decide_eq_true (p:=t'∉gs) z k),List.append_nil]
     ·rintro acc M5 ⟨rfl,rfl⟩
      refine ⟨hM,fun f hf=>?_⟩
      rw [List.length_map,List.take_length]
      have hT2:∀ t∈ts.filter (fun t=>decide (t∉gs)),nQ ps t:=fun t ht=>hT t (List.mem_filter.mp ht).1
      generalize ts.filter (fun t=>decide (t∉gs))=fs at hfe hT2 Mv ⊢
      have le:=le.trans (Le.new (o:=MO.lst (fs.map tD)) hf)
      have hF:aA M5 f (.lst (fs.map tD)) f=some (.lst (fs.map tD)):=ah
      generalize aA M5 f (.lst (fs.map tD))=M6 at hF le ⊢
      walk_at "rd"
      intro e he
      have lf:([laid a d c,laid b c d]:List (List Pl)).length=2:=rfl
      have Mw:∀ t∈[laid a d c,laid b c d],nQ ps t:=fun t ht=>by
       simp only [List.mem_cons,List.not_mem_nil,or_false] at ht
       rcases ht with rfl | rfl
       ·exact in1
       ·exact R5
      try rw [eN]
      clear eN eG
      generalize [laid a d c,laid b c d]=ns at *
      have hF:=aj (u:=MO.lst (ns.map tD)) hF he
      have le:=le.trans (Le.new (o:=MO.lst (ns.map tD)) he)
      have hE:aA M6 e (.lst (ns.map tD)) e=some (.lst (ns.map tD)):=ah
      generalize aA M6 e (.lst (ns.map tD))=M7 at hF hE le ⊢
      refine ⟨f,e,_,_,rfl,rfl,hF,hE,by rw [List.length_map,List.length_map];omega,fun u sM=>?_⟩
      rw [← List.map_append]
      have O5:∀ t∈fs ++ ns,nQ ps t:=fun t ht=>by
       rcases List.mem_append.mp ht with ht | ht
       ·exact hT2 t ht
       ·exact Mw t ht
      have l4:(fs ++ ns).length≤20:=by rw [List.length_append];omega
      generalize fs ++ ns=rs at O5 l4 Mv ⊢
      have le:=le.trans (Le.new (o:=MO.lst (rs.map tD)) sM)
      have hU:aA M7 u (.lst (rs.map tD)) u=some (.lst (rs.map tD)):=ah
      generalize aA M7 u (.lst (rs.map tD))=M8 at hU le ⊢
      walk_at "rd"
      refine ⟨u,rs,rfl,hU,fun t ht=>?_,by omega,fun x vs hx bI _=>?_⟩
      ·obtain ⟨⟨u,v,w,e,_⟩,_⟩:=O5 t ht
       rw [e]
       rfl
      exact bf.mk ⟨_,Le.refl _,h x vs _ (le.trans (Le.new hx)) ah (fun t ht=>O5 t (bI.mem_iff.mp ht)) (by rw [bI.length_eq];exact l4) (Mv vs bI)⟩
theorem tE (T:Txt K mg t):Binds K t.iR ["_law_script","_law_start","_law_cover_here"] []:=T.jR.binds fun _ _ _ _ _ _ us hl=>match us,hl with | [_,_,_],_=>rfl
theorem Qj (x y w:Pl) {i:Int} (h0:0≤i) (h3:i < 3):∃ p:Pl,oV [x.d,y.d,w.d] i=some p.d:=by
 have:i=0∨i=1∨i=2:=by omega
 rcases this with rfl | rfl | rfl
 ·exact ⟨x,rfl⟩
 ·exact ⟨y,rfl⟩
 ·exact ⟨w,rfl⟩
def vY:pI:=fun ds M Q=> ∃ (ns:List Int) (k:Int) (l:Addr),ds= [.wG (ns.map L3.D.int),.int k,.ref l]∧(∀ z∈ns,Att.Bh z)∧ns.length≤63∧0≤k∧k≤900∧∃ (ps:List Pl) (ts:List (List Pl)),M l=some (.lst (ts.map tD))∧(∀ t∈ts,nQ ps t)∧ts.length≤20∧(∀ q∈ps,q.Ok 140)∧∃ I:List (List Pl)→Prop,I ts∧(∀ us vs,I us→yg us vs→I vs)∧∀ (p:Addr) (us:List (List Pl)) (M':Mp),Le M M'→M' p=some (.lst (us.map tD))→(∀ t∈us,nQ ps t)→us.length≤20→I us→Q (.ref p) M'
theorem tF (T:Txt K mg t):b8 P w K mg base fZ 3 t.jK t.iR ["_law_script","_law_start","_law_cover_here"] (qc K vY):=by
 refine uQ T.jR dD (fun ds M Q h=>by (first | (obtain ⟨_,rfl,_⟩:=h;rfl) | (obtain ⟨_,_,rfl,_⟩:=h;rfl) | (obtain ⟨_,_,_,rfl,_⟩:=h;rfl) | (obtain ⟨_,_,_,_,rfl,_⟩:=h;rfl) | (obtain ⟨_,_,_,_,_,rfl,_⟩:=h;rfl) | (obtain ⟨_,_,_,_,_,_,rfl,_⟩:=h;rfl) | (obtain ⟨_,_,_,_,_,_,_,rfl,_⟩:=h;rfl))) (fun cdv A outer s H hr=>?_)
 have hu:=hr.units
 refine ⟨_,(au (gG PassesOwn.never rfl (by rfl) T.cO (aa ai ak) (cT (i:=3) dD.nd rfl (Or.inl rfl)) (au (aX (i:=4) dD.nd rfl (Or.inl rfl) (bg (gm T) (hr.mono (by decide)) (by rfl) T.iw T.dU.kp (gj T) (aa (af 0) (aa (aq fJ (af 1) (af 3)) ak))))
  (aB (bT (aN (CZ hu) (af 2) (cR ak) (aC _)) (au (aX (i:=5) dD.nd rfl (Or.inl rfl) (aM (af 2) (aq bD (aq cQ (af 4) ai) (aD cF (by rfl) T.bM aI (aa (af 2) ak)))))
  (aB (aX (i:=2) dD.nd rfl (Or.inl rfl) (bE (pT T) (hr.mono (by decide)) (by rfl) T.rK T.gU.kp (pS T) (aa (af 2) (aa (aM (af 5) (aq bD (af 4) ai)) (aa (aM (af 5) (aq bD (aq fJ (af 4) ai) ai)) ak))))))) aT))))
  (aB (aE (af 2)))),fun ds M Q h=>?_⟩
 obtain ⟨ns,k,l,rfl,hb,hlen,k0,k1,ps,ts,hM,hT,lt,ho,I,hI,hS,h⟩:=h
 generalize h6:(6:Int)=n6
 walk_at "rd"
 refine ⟨by omega,by omega,?_⟩
 refine aS (fun i ρ M'=> ∃ (q:Addr) (us:List (List Pl)) (y1 y2 y3:Option L3.D),ρ= [some (.wG (ns.map L3.D.int)),some (.int k),some (.ref q),y1,y2,y3]∧Le M M'∧M' q=some (.lst (us.map tD))∧(∀ t∈us,nQ ps t)∧us.length≤20∧I us) _ ?_ ?_ ⟨l,ts,_,_,_,rfl,Le.refl _,hM,hT,lt,hI⟩
 ·rintro i v ρ M' N vZ ⟨q,us,y1,y2,y3,rfl,le,hU,hT,lt,hI⟩ hN
  obtain ⟨hi,rfl⟩:=bL vZ
  have hi:i < 6:=by omega
  refine ⟨trivial,?_⟩
  walk_at "rd"
  refine ⟨hb,hlen,by dsimp only;omega,by dsimp only;omega,fun z bz=>?_⟩
  walk_at "rd"
  intro e he
  refine ⟨_,_,.of (aj hU he),.of ah,cW _,rfl,?_⟩
  rw [qH]
  have le:=le.trans (Le.new (o:=MO.lst []) he)
  have hU:=aj (u:=MO.lst []) hU he
  generalize aA M' e (.lst [])=M1 at hU le ⊢
  cases es:us with
  | nil=>
    subst es
    walk_at "rd"
    exact hN _ _ ⟨q,[],_,_,_,rfl,le,hU,hT,lt,hI⟩
  | cons u0 ur=>
    rw [← es]
    have en:(us.map tD).isEmpty=false:=by rw [es];rfl
    have lu:0 < us.length:=by rw [es];simp
    rw [en]
    walk_at "rd"
    refine ⟨_,_,rfl,.inr (.inr ⟨q,rfl,hU⟩),?_⟩
    rw [List.length_map]
    walk_at "rd"
    have j0:0≤z / 3 % (us.length:Int):=Int.emod_nonneg _ (by omega)
    have j1:z / 3 % (us.length:Int) < (us.length:Int):=Int.emod_lt_of_pos _ (by omega)
    obtain ⟨j,hj⟩:∃ j:Nat,z / 3 % (us.length:Int)=(j:Int):=⟨(z / 3 % (us.length:Int)).toNat,by omega⟩
    have lj:j < us.length:=by omega
    obtain ⟨t',ht⟩:∃ t',us[j]?=some t':=⟨us[j],List.getElem?_eq_getElem lj⟩
    obtain ⟨⟨x,y,v,et,_⟩,_⟩:=hT t' (List.mem_of_getElem? ht)
    subst et
    refine ⟨_,_,_,.inr (.inr ⟨q,rfl,hU⟩),rfl,(show oV (us.map tD) (z / 3 % (us.length:Int))=some (tD [x,y,v]) from by rw [hj];exact bJ (by rw [List.getElem?_map,ht];rfl)),?_⟩
    obtain ⟨a,ha⟩:=Qj x y v (i:=z % 3) (by omega) (by omega)
    obtain ⟨b,hb'⟩:=Qj x y v (i:=(z+1) % 3) (by omega) (by omega)
    walk_at "rd"
    refine ⟨_,_,_,Or.inl rfl,rfl,ha,?_⟩
    walk_at "rd"
    refine ⟨_,_,_,Or.inl rfl,rfl,hb',?_⟩
    walk_at "rd"
    refine ⟨ps,us,hU,hT,lt,ho,fun p' us' M2 JB hU' R6 lt' R7=>?_⟩
    walk_at "rd"
    exact hN _ _ ⟨p',us',_,_,_,rfl,le.trans JB,hU',R6,lt',hS _ _ hI R7⟩
 ·rintro ρ M' ⟨q,us,y1,y2,y3,rfl,le,hU,hT,lt,hI⟩
  refine ⟨trivial,?_⟩
  walk_at "rd"
  exact bf.mk ⟨_,Le.refl _,h q us M' le hU hT lt hI⟩
theorem pU (T:Txt K mg t):Binds K t.fO ["a","b"] []:=T.gW.binds fun _ _ _ _ _ _ us hl=>match us,hl with | [_,_],_=>rfl
def rR:wK:=fun ds Q=> ∃ a b:Pl,ds= [a.d,b.d]∧Q (tD [lo a b,hi a b])
theorem pV (T:Txt K mg t):b8 P w K mg base fZ 1 t.gR t.fO ["a","b"] (wg K rR):=by
 refine A4 T.gW pR (fun ds Q h=>by (first | (obtain ⟨_,rfl,_⟩:=h;rfl) | (obtain ⟨_,_,rfl,_⟩:=h;rfl) | (obtain ⟨_,_,_,rfl,_⟩:=h;rfl) | (obtain ⟨_,_,_,_,rfl,_⟩:=h;rfl) | (obtain ⟨_,_,_,_,_,rfl,_⟩:=h;rfl) | (obtain ⟨_,_,_,_,_,_,rfl,_⟩:=h;rfl) | (obtain ⟨_,_,_,_,_,_,_,rfl,_⟩:=h;rfl))) (fun cdv A outer s H hr=>?_)
 have hu:=hr.units
 refine ⟨_,(aB (aE (dg (aa (aD (Lc hu rfl) (by rfl) T.zC nX (aa (af 0) (aa (af 1) ak))) (aa (aD (Ld hu rfl) (by rfl) T.Ek tW (aa (af 0) (aa (af 1) ak))) ak))))),fun ds Q h=>?_⟩
 obtain ⟨a,b,rfl,h⟩:=h
 walk_at "rd"
 exact h
theorem uD (T:Txt K mg t):Binds K t.oG ["t"] []:=T.nI.binds fun _ _ _ _ _ _ us hl=>match us,hl with | [_],_=>rfl
def Eo:pI:=fun ds M Q=> ∃ a b c:Pl,ds= [tD [a,b,c]]∧∀ p,M p=none→Q (.ref p) (aA M p (.lst ([[a,b,c],[b,c,a],[c,a,b]].map tD)))
theorem uE (T:Txt K mg t):b8 P w K mg base fZ 1 t.rF t.oG ["t"] (qc K Eo):=by
 refine uQ T.nI BS (fun ds M Q h=>by (first | (obtain ⟨_,rfl,_⟩:=h;rfl) | (obtain ⟨_,_,rfl,_⟩:=h;rfl) | (obtain ⟨_,_,_,rfl,_⟩:=h;rfl) | (obtain ⟨_,_,_,_,rfl,_⟩:=h;rfl) | (obtain ⟨_,_,_,_,_,rfl,_⟩:=h;rfl) | (obtain ⟨_,_,_,_,_,_,rfl,_⟩:=h;rfl) | (obtain ⟨_,_,_,_,_,_,_,rfl,_⟩:=h;rfl))) (fun cdv A outer s H hr=>?_)
 have hu:=hr.units
 refine ⟨_,(aB (aE (cR (aa (dg (aa (aM (af 0) ai) (aa (aM (af 0) ai) (aa (aM (af 0) ai) ak)))) (aa (dg (aa (aM (af 0) ai) (aa (aM (af 0) ai) (aa (aM (af 0) ai) ak)))) (aa (dg (aa (aM (af 0) ai) (aa (aM (af 0) ai) (aa (aM (af 0) ai) ak)))) ak)))))),fun ds M Q h=>?_⟩
 obtain ⟨a,b,c,rfl,h⟩:=h
 walk_at "rd"
 intro p hp
 exact bf.mk ⟨_,Le.refl _,h p hp⟩
theorem nM (T:Txt K mg t):Binds K t.eK ["cover"] []:=T.fy.binds fun _ _ _ _ _ _ us hl=>match us,hl with | [_],_=>rfl
def oK:pI:=fun ds M Q=> ∃ l:Addr,ds= [.ref l]∧∃ ts:List (List Pl),M l=some (.lst (ts.map tD))∧(∀ t∈ts,Tr t)∧ts.length≤200∧∀ p,M p=none→Q (.ref p) (aA M p (.lst ((bq ts).map tD)))
theorem nN (T:Txt K mg t):b8 P w K mg base fZ 2 t.ff t.eK ["cover"] (qc K oK):=by
 refine uQ T.fy eS (fun ds M Q h=>by (first | (obtain ⟨_,rfl,_⟩:=h;rfl) | (obtain ⟨_,_,rfl,_⟩:=h;rfl) | (obtain ⟨_,_,_,rfl,_⟩:=h;rfl) | (obtain ⟨_,_,_,_,rfl,_⟩:=h;rfl) | (obtain ⟨_,_,_,_,_,rfl,_⟩:=h;rfl) | (obtain ⟨_,_,_,_,_,_,rfl,_⟩:=h;rfl) | (obtain ⟨_,_,_,_,_,_,_,rfl,_⟩:=h;rfl))) (fun cdv A outer s H hr=>?_)
 have hu:=hr.units
 refine ⟨_,(au (aX (i:=1) eS.nd rfl (Or.inl rfl) (cR ak))
  (au (uP PassesOwn.never rfl (af 0) (cT (i:=2) eS.nd rfl (Or.inl rfl)) (aB (nW (G7 (af 1) (wU (m5 (ys:=[]) (fs:=[]) rfl (by show cK (az cE) ["cover","ways","t"] _ _ _ _=true;decide +kernel) (bE (uE T) (hr.mono (by decide)) (by rfl) T.x8 T.nI.kp (uD T) (aa (af 2) ak)) (fun cl C s0 H0 ex=>qE) (fun cl C s0 H0 ex=>(dg (aa (aM (af 0) ai) (aa (aM (af 0) ai) ak)))))) (wF PySem.F.plainAttrs_list PySem.F.slot_list_extend PySem.F.type_list_extend tR (cM.dn (af 1)) (kY (cM.dn (wU (m5 (ys:=[]) (fs:=[]) rfl (by show cK (az cE) ["cover","ways","t"] _ _ _ _=true;decide +kernel) (bE (uE T) (hr.mono (by decide)) (by rfl) T.x8 T.nI.kp (uD T) (aa (af 2) ak)) (fun cl C s0 H0 ex=>qE) (fun cl C s0 H0 ex=>(dg (aa (aM (af 0) ai) (aa (aM (af 0) ai) ak))))))) nS))))))
  (aB (aE (af 1))))),fun ds M Q h=>?_⟩
 obtain ⟨l,rfl,ts,hM,hts,Mx,h⟩:=h
 have sl:(1000:Nat) < sizeLine:=by decide
 walk_at "rd"
 intro p hp
 have My:l≠p:=fun z=>by rw [← z,hM] at hp;cases hp
 walk_at "rd"
 refine ⟨l,_,rfl,aj hM hp,?_⟩
 refine aS (fun i ρ M'=>(∃ y:Option L3.D,ρ= [some (.ref l),some (.ref p),y])∧M' l=some (.lst (ts.map tD))∧M' p=some (.lst ((bq (ts.take i)).map tD))∧Le M M') _ ?_ ?_ ⟨⟨_,rfl⟩,aj hM hp,ah,Le.new hp⟩
 ·rintro i x ρ M' N hx ⟨⟨y,rfl⟩,hM,hP,le⟩ hN
  obtain ⟨t,ht,rfl⟩:=jA hx
  obtain ⟨a,b,c,rfl,oa,ob,oc⟩:=hts t (List.mem_of_getElem? ht)
  refine ⟨hM,?_⟩
  walk_at "rd"
  refine ⟨⟨p,_,rfl,hP⟩,?_⟩
  refine ⟨_,rfl,?_⟩
  refine ⟨a,b,c,rfl,fun q hq=>?_⟩
  have hM:=aj (u:=MO.lst ([[a,b,c],[b,c,a],[c,a,b]].map tD)) hM hq
  have hP:=aj (u:=MO.lst ([[a,b,c],[b,c,a],[c,a,b]].map tD)) hP hq
  have le:=le.trans (Le.new (o:=MO.lst ([[a,b,c],[b,c,a],[c,a,b]].map tD)) hq)
  have hQ:aA M' q (.lst ([[a,b,c],[b,c,a],[c,a,b]].map tD)) q=some (.lst ([[a,b,c],[b,c,a],[c,a,b]].map tD)):=ah
  generalize aA M' q (.lst ([[a,b,c],[b,c,a],[c,a,b]].map tD))=M2 at hM hP hQ le ⊢
  refine ⟨q,_,rfl,hQ,by show 3 < sizeLine;omega,bf.mk (dP (fun j acc M4=>M4=M2∧acc=(([[a,b],[b,c],[c,a]].take j)).map tD) _ ?_ ?_ ⟨rfl,rfl⟩)⟩
  ·rintro j d acc M4 N2 nL ⟨rfl,rfl⟩ wk
   obtain ⟨u,sM,rfl⟩:=jA nL
   have hj:j < 3:=(List.getElem?_eq_some_iff.mp sM).1
   have hj:j=0∨j=1∨j=2:=by omega
   refine ⟨hQ,?_⟩
   rcases hj with rfl | rfl | rfl
   ·cases sM
    walk_at "rd"
    exact wk _ _ ⟨rfl,rfl⟩
   ·cases sM
    walk_at "rd"
    exact wk _ _ ⟨rfl,rfl⟩
   ·cases sM
    walk_at "rd"
    exact wk _ _ ⟨rfl,rfl⟩
  ·rintro acc M4 ⟨rfl,hacc⟩
   have hacc:acc= [[a,b],[b,c],[c,a]].map tD:=hacc
   subst hacc
   refine ⟨hQ,fun u sM=>?_⟩
   have ld:=nt (ts.take i)
   rw [List.length_take] at ld
   have Tt:u≠p:=fun z=>by rw [z,hP] at sM;cases sM
   refine ⟨p,u,_,_,rfl,rfl,aj hP sM,ah,by rw [List.length_map];show _+3≤sizeLine;omega,?_⟩
   refine hN _ _ ⟨⟨_,rfl⟩,?_,?_,fun x o e=>?_⟩
   ·rw [bC My]
    exact aj hM sM
   ·rw [ah,Bs ht,List.map_append]
    rfl
   ·rw [bC (fun z=>by rw [z,hp] at e;cases e)]
    exact aj (le _ _ e) sM
 ·rintro ρ M' ⟨⟨y,rfl⟩,hM,hP,le⟩
  refine ⟨hM,?_⟩
  walk_at "rd"
  rw [List.length_map,List.take_length] at hP
  refine bf.mk ⟨aA M p (.lst ((bq ts).map tD)),fun b o e=>?_,h p hp⟩
  by_cases hb:b=p
  ·subst hb
   rw [ah] at e
   rw [hP]
   exact e
  ·rw [bC hb] at e
   exact le _ _ e
theorem pA (T:Txt K mg t):Binds K t.kK ["cover"] []:=T.jS.binds fun _ _ _ _ _ _ us hl=>match us,hl with | [_],_=>rfl
def zE:pI:=fun ds M Q=> ∃ l:Addr,ds= [.ref l]∧∃ ts:List (List Pl),M l=some (.lst (ts.map tD))∧(∀ t∈ts,Tr t)∧ts.length≤20∧∀ (p:Addr) (qs:List (List Pl)),M p=none→qs.Nodup→(∀ s,s∈qs↔s∈(bq ts).map bS)→qs.Pairwise (fun p q=>dX q p=false)→Q (.ref p) (aA M p (.lst (qs.map tD)))
theorem pB (T:Txt K mg t):b8 P w K mg base fZ 3 t.mH t.kK ["cover"] (qc K zE):=by
 refine uQ T.jS ya (fun ds M Q h=>by (first | (obtain ⟨_,rfl,_⟩:=h;rfl) | (obtain ⟨_,_,rfl,_⟩:=h;rfl) | (obtain ⟨_,_,_,rfl,_⟩:=h;rfl) | (obtain ⟨_,_,_,_,rfl,_⟩:=h;rfl) | (obtain ⟨_,_,_,_,_,rfl,_⟩:=h;rfl) | (obtain ⟨_,_,_,_,_,_,rfl,_⟩:=h;rfl) | (obtain ⟨_,_,_,_,_,_,_,rfl,_⟩:=h;rfl))) (fun cdv A outer s H hr=>?_)
 have hu:=hr.units
 refine ⟨_,(aB (aE (BP (n:=2) (.inl rfl) hu (by rfl) (by rfl) T.cP (by rfl) T.Jz (wU (m5 (ys:=[]) (fs:=[]) rfl (by show cK (az jq) ["cover"] _ _ _ _=true;decide +kernel) (bE (nN T) (hr.mono (by decide)) (by rfl) T.oJ T.fy.kp (nM T) (aa (af 0) ak)) (fun cl C s0 H0 ex=>qE) (fun cl C s0 H0 ex=>(bg (pV T) (hr.mono (by decide)) (by rfl) T.rL T.gW.kp (pU T) (aa (aM (af 0) ai) (aa (aM (af 0) ai) ak))))))))),fun ds M Q h=>?_⟩
 obtain ⟨l,rfl,ts,hM,hts,Mx,h⟩:=h
 have sl:(1000:Nat) < sizeLine:=by decide
 walk_at "rd"
 refine ⟨ts,hM,hts,by omega,fun p hp=>?_⟩
 have ld:=nt ts
 refine ⟨p,_,rfl,ah,by rw [List.length_map];omega,bf.mk (dP (fun j acc M4=>M4=aA M p (.lst ((bq ts).map tD))∧acc=(((bq ts).take j).map bS).map tD) _ ?_ ?_ ⟨rfl,rfl⟩)⟩
 ·rintro j d acc M4 N2 nL ⟨rfl,rfl⟩ wk
  obtain ⟨w,hw,rfl⟩:=jA nL
  obtain ⟨a,b,rfl,_⟩:=nu w (List.mem_of_getElem? hw)
  refine ⟨ah,?_⟩
  walk_at "rd"
  refine wk _ _ ⟨rfl,?_⟩
  rw [List.take_succ,hw,List.map_append,List.map_append]
  rfl
 ·rintro acc M4 ⟨rfl,hacc⟩
  refine ⟨ah,fun u sM=>?_⟩
  rw [List.length_map,List.take_length] at hacc
  subst hacc
  refine ⟨(bq ts).map bS,.of ah,fun s hs=>?_,by rw [List.length_map];omega,fun q qs hq nd mem hso=>?_⟩
  ·obtain ⟨w,hw,rfl⟩:=List.mem_map.mp hs
   obtain ⟨a,b,rfl,_⟩:=nu w hw
   rfl
  ·have hp2:M q=none:=by
    cases e:M q with
    | none=>rfl
    | some o=>
      have:=aj (u:=MO.lst (((bq ts).map bS).map tD)) (aj (u:=MO.lst ((bq ts).map tD)) e hp) sM
      rw [hq] at this
      cases this
   exact bf.mk ⟨aA M q (.lst (qs.map tD)),Le.put ((Le.new hp).trans (Le.new sM)),h q qs hp2 nd mem hso⟩
theorem Gw (T:Txt K mg t):Binds K t.vF ["places","cover"] []:=T.zy.binds fun _ _ _ _ _ _ us hl=>match us,hl with | [_,_],_=>rfl
theorem yi:∀ l:List Pl,List.zipWith (fun p q=>[p,q]) l (l.drop 1)=prs l
 | []=>rfl
 | [_]=>rfl
 | a :: b :: r=>by
   show [a,b] :: List.zipWith (fun p q=>[p,q]) (b :: r) r= [a,b] :: prs (b :: r)
   rw [← yi (b :: r)]
   rfl
def JC:pI:=fun ds M Q=> ∃ l c:Addr,ds= [.ref l,.ref c]∧∃ (ps:List Pl) (ts:List (List Pl)),M l=some (.lst (ps.map Pl.d))∧M c=some (.lst (ts.map tD))∧(∀ t∈ts,Tr t)∧ts.length≤20∧ps.length < 64∧
 (∀ (p:Addr) (qs:List (List Pl)),M p=none→ts≠[]→qs.Nodup→(∀ s,s∈qs↔s∈(bq ts).map bS)→qs.Pairwise (fun p q=>dX q p=false)→Q (.ref p) (aA M p (.lst (qs.map tD))))∧
 (∀ (p:Addr) (rs:List Pl),M p=none→ts= []→rs.Perm ps→rs.Pairwise (fun p q=> ¬ aZ q p)→Q (.ref p) (aA M p (.lst ((prs rs).map tD))))
theorem Gx (T:Txt K mg t):b8 P w K mg base fZ 4 t.zo t.vF ["places","cover"] (qc K JC):=by
 refine uQ T.zy AJ (fun ds M Q h=>by (first | (obtain ⟨_,rfl,_⟩:=h;rfl) | (obtain ⟨_,_,rfl,_⟩:=h;rfl) | (obtain ⟨_,_,_,rfl,_⟩:=h;rfl) | (obtain ⟨_,_,_,_,rfl,_⟩:=h;rfl) | (obtain ⟨_,_,_,_,_,rfl,_⟩:=h;rfl) | (obtain ⟨_,_,_,_,_,_,rfl,_⟩:=h;rfl) | (obtain ⟨_,_,_,_,_,_,_,rfl,_⟩:=h;rfl))) (fun cdv A outer s H hr=>?_)
 have hu:=hr.units
 refine ⟨_,(au (bT (aN (CZ hu) (af 1) (cR ak) (aC _)) (aB (aE (bE (pB T) (hr.mono (by decide)) (by rfl) T.rM T.jS.kp (pA T) (aa (af 1) ak)))) aT)
  (au (aX (i:=2) AJ.nd rfl (Or.inl rfl) (aD i9 (by rfl) T.cP bO (aa (af 0) ak)))
  (aB (aE (ua (by rfl) (by rfl) T.cD (by rfl) T.El (aa (af 2) (aa (ja (af 2) (nY ai) Be) ak))))))),fun ds M Q h=>?_⟩
 obtain ⟨l,c,rfl,ps,ts,hM,hC,hts,Mx,h64,h1,h2⟩:=h
 have sl:(1000:Nat) < sizeLine:=by decide
 walk_at "rd"
 intro e he
 refine ⟨_,_,.of (aj hC he),.of ah,cW _,rfl,?_⟩
 rw [qH]
 have le:=Le.new (o:=MO.lst []) he
 have hC:=aj (u:=MO.lst []) hC he
 have hM:=aj (u:=MO.lst []) hM he
 generalize aA M e (.lst [])=M1 at hC hM le ⊢
 cases es:ts with
 | nil=>
   walk_at "rd"
   refine ⟨l,ps,rfl,hM,h64,fun p rs hp bI jj=>?_⟩
   have lr:rs.length=ps.length:=bI.length_eq
   have le:=le.trans (Le.new (o:=MO.lst (rs.map Pl.d)) hp)
   have hR:aA M1 p (.lst (rs.map Pl.d)) p=some (.lst (rs.map Pl.d)):=ah
   generalize aA M1 p (.lst (rs.map Pl.d))=M2 at hR le ⊢
   walk_at "rd"
   refine ⟨_,.of hR,fun p1 hp1=>?_⟩
   have O6:cutD (rs.map Pl.d) (some 1) none=(rs.drop 1).map Pl.d:=by
    cases rs with
    | nil=>rfl
    | cons x r=>exact wV Pl.d (x :: r) 1 (by simp)
   rw [O6]
   have hR:=aj (u:=MO.lst ((rs.drop 1).map Pl.d)) hR hp1
   have le:=le.trans (Le.new (o:=MO.lst ((rs.drop 1).map Pl.d)) hp1)
   have hA:aA M2 p1 (.lst ((rs.drop 1).map Pl.d)) p1=some (.lst ((rs.drop 1).map Pl.d)):=ah
   generalize aA M2 p1 (.lst ((rs.drop 1).map Pl.d))=M3 at hR hA le ⊢
   refine ⟨p,p1,_,_,rfl,hR,hA,fun p2 hp2=>?_⟩
   rw [← oj,yi]
   exact bf.mk ⟨_,le.put,h2 p2 rs (le.free hp2) es bI jj⟩
 | cons t0 tr=>
   rw [← es]
   have en:(ts.map tD).isEmpty=false:=by rw [es];rfl
   rw [en]
   walk_at "rd"
   refine ⟨ts,hC,hts,Mx,fun p qs hp nd mem hso=>?_⟩
   exact bf.mk ⟨_,le.put,h1 p qs (le.free hp) (by rw [es];simp) nd mem hso⟩
theorem yj (T:Txt K mg t):Binds K t.rG ["a","b","c"] []:=T.qj.binds fun _ _ _ _ _ _ us hl=>match us,hl with | [_,_,_],_=>rfl
def Gy:wK:=fun ds Q=> ∃ a b c:Pl,ds= [a.d,b.d,c.d]∧a.Ok 140∧b.Ok 140∧c.Ok 140∧Q (.int (tw a b c))
theorem yk (T:Txt K mg t):b8 P w K mg base fZ 1 t.vG t.rG ["a","b","c"] (wg K Gy):=by
 refine A4 T.qj Em (fun ds Q h=>by (first | (obtain ⟨_,rfl,_⟩:=h;rfl) | (obtain ⟨_,_,rfl,_⟩:=h;rfl) | (obtain ⟨_,_,_,rfl,_⟩:=h;rfl) | (obtain ⟨_,_,_,_,rfl,_⟩:=h;rfl) | (obtain ⟨_,_,_,_,_,rfl,_⟩:=h;rfl) | (obtain ⟨_,_,_,_,_,_,rfl,_⟩:=h;rfl) | (obtain ⟨_,_,_,_,_,_,_,rfl,_⟩:=h;rfl))) (fun cdv A outer s H hr=>?_)
 have hu:=hr.units
 refine ⟨_,(aB (aE (aq bX (aq gF (aq bX (aM (af 1) ai) (aM (af 0) ai)) (aq bX (aM (af 2) ai) (aM (af 0) ai))) (aq gF (aq bX (aM (af 1) ai) (aM (af 0) ai)) (aq bX (aM (af 2) ai) (aM (af 0) ai)))))),fun ds Q h=>?_⟩
 obtain ⟨a,b,c,rfl,⟨a1,a2⟩,⟨b1,b2⟩,⟨c1,c2⟩,h⟩:=h
 unfold tw at h
 walk_at "rd"
 exact h
theorem Gz (T:Txt K mg t):Binds K t.vH ["cover"] []:=T.zz.binds fun _ _ _ _ _ _ us hl=>match us,hl with | [_],_=>rfl
def JD:pI:=fun ds M Q=> ∃ (l:Addr) (ts:List (List Pl)),ds= [.ref l]∧M l=some (.lst (ts.map tD))∧(∀ t∈ts,G2 t)∧ts.length≤1000∧Q (.int (wY ts)) M
theorem GA (T:Txt K mg t):b8 P w K mg base fZ 2 t.zp t.vH ["cover"] (qc K JD):=by
 refine uQ T.zz Gs (fun ds M Q h=>by (first | (obtain ⟨_,rfl,_⟩:=h;rfl) | (obtain ⟨_,_,rfl,_⟩:=h;rfl) | (obtain ⟨_,_,_,rfl,_⟩:=h;rfl) | (obtain ⟨_,_,_,_,rfl,_⟩:=h;rfl) | (obtain ⟨_,_,_,_,_,rfl,_⟩:=h;rfl) | (obtain ⟨_,_,_,_,_,_,rfl,_⟩:=h;rfl) | (obtain ⟨_,_,_,_,_,_,_,rfl,_⟩:=h;rfl))) (fun cdv A outer s H hr=>?_)
 have hu:=hr.units
 refine ⟨_,(aB (aE (aD (Lu rfl) (by rfl) T.JA Bg (aa (wU (m5 (ys:=[]) (fs:=[]) rfl (by show cK (az uG) ["cover"] _ _ _ _=true;decide +kernel) (af 0) (fun cl C s0 H0 ex=>qE) (fun cl C s0 H0 ex=>(bg (yk T) (hr.mono (by decide)) (by rfl) T.AI T.qj.kp (yj T) (aa (aM (af 0) ai) (aa (aM (af 0) ai) (aa (aM (af 0) ai) ak))))))) ak)))),fun ds M Q h=>?_⟩
 obtain ⟨l,ts,rfl,hM,ho,hlen,h⟩:=h
 walk_at "rd"
 refine ⟨l,_,rfl,hM,by rw [List.length_map];have:(1000:Nat) < sizeLine:=by decide
                       omega,bf.mk (dP (fun i acc M4=>M4=M∧acc=((ts.take i).map PY).map L3.D.int) _ ?_ ?_ ⟨rfl,rfl⟩)⟩
 ·rintro i d acc M4 N hx ⟨rfl,rfl⟩ hN
  obtain ⟨t,ht,rfl⟩:=jA hx
  obtain ⟨a,b,c,rfl,ha,hb,hc⟩:=ho t (List.mem_of_getElem? ht)
  refine ⟨hM,?_⟩
  walk_at "rd"
  refine ⟨ha,hb,hc,?_⟩
  walk_at "rd"
  refine hN _ _ ⟨rfl,?_⟩
  rw [map_take ht,List.map_append]
  rfl
 ·rintro acc M4 ⟨rfl,rfl⟩
  refine ⟨hM,fun r hr=>?_⟩
  rw [List.length_map,List.take_length]
  refine ⟨r,_,rfl,ah,?_⟩
  exact bf.mk ⟨_,Le.new hr,h⟩
theorem oM (T:Txt K mg t):Binds K t.fk ["_law_places_here"] []:=T.fW.binds fun _ _ _ _ _ _ us hl=>match us,hl with | [_],_=>rfl
def pW:pI:=fun ds M Q=> ∃ (l:Addr) (ps:List Pl),ds= [.ref l]∧M l=some (.lst (ps.map Pl.d))∧ps.length < 64∧(∀ q∈ps,q.Ok 140)∧∀ b:Bool,(b=true↔Flat ps)→Q (.bl b) M
theorem oN (T:Txt K mg t):b8 P w K mg base fZ 2 t.fR t.fk ["_law_places_here"] (qc K pW):=by
 refine uQ T.fW jg (fun ds M Q h=>by (first | (obtain ⟨_,rfl,_⟩:=h;rfl) | (obtain ⟨_,_,rfl,_⟩:=h;rfl) | (obtain ⟨_,_,_,rfl,_⟩:=h;rfl) | (obtain ⟨_,_,_,_,rfl,_⟩:=h;rfl) | (obtain ⟨_,_,_,_,_,rfl,_⟩:=h;rfl) | (obtain ⟨_,_,_,_,_,_,rfl,_⟩:=h;rfl) | (obtain ⟨_,_,_,_,_,_,_,rfl,_⟩:=h;rfl))) (fun cdv A outer s H hr=>?_)
 have hu:=hr.units
 refine ⟨_,(au (aX (i:=1) jg.nd rfl (Or.inr rfl) (aD i9 (by rfl) T.cP bO (aa (af 0) ak)))
  (aB (aE (gX (Lo hu) (wU (m5 (ys:=["_law_row"]) (fs:=[1]) rfl (by show cK (az dH) ["_law_places_here","_law_row"] _ _ _ _=true;decide +kernel) (af 1) (fun cl C s0 H0 ex=>CT (aN (l0 hu) (bg (iX T) (hr.mono (by decide)) (by rfl) T.jQ T.eL.kp (iW T) (aa (aM (af 1) ai) (aa (aM (af 1) (jV ai)) (aa (af 0) ak)))) ai (aC _))) (fun cl C s0 H0 ex=>(af 0)))) (cR ak) (aC _))))),fun ds M Q h=>?_⟩
 obtain ⟨l,ps,rfl,hM,h64,ho,h⟩:=h
 walk_at "rd"
 refine ⟨l,ps,rfl,hM,h64,fun p qs hp bI jj=>?_⟩
 have oq:∀ q∈qs,q.Ok 140:=fun q hq=>ho q (bI.mem_iff.mp hq)
 have lq:qs.length < 64:=by rw [bI.length_eq];exact h64
 walk_at "rd"
 refine ⟨p,_,rfl,ah,by rw [List.length_map];have:(1000:Nat) < sizeLine:=by decide
                       omega,bf.mk (dP (fun i acc M4=>M4=aA M p (.lst (qs.map Pl.d))∧acc=((qs.take i).filter (fun q=>decide (tw (hz qs) (lz qs) q≠0))).map Pl.d) _ ?_ ?_ ⟨rfl,rfl⟩)⟩
 ·rintro i d acc M4 N hx ⟨rfl,rfl⟩ hN
  obtain ⟨q,hq,rfl⟩:=C3 hx
  have mq:=List.mem_of_getElem? hq
  have hne:qs≠[]:=fun z=>by rw [z] at mq;cases mq
  refine ⟨ah,?_⟩
  walk_at "rd"
  refine ⟨_,_,_,.inr (.inr ⟨p,rfl,ah⟩),rfl,LB hne,?_⟩
  walk_at "rd"
  refine ⟨_,_,_,.inr (.inr ⟨p,rfl,ah⟩),rfl,G6 hne,?_⟩
  walk_at "rd"
  refine ⟨oq _ (Dq hne),oq _ (yS hne),oq q mq,?_⟩
  walk_at "rd"
  rw [gH]
  refine bB (fun k=>?_) (fun k=>?_)
  ·walk_at "rd"
   refine hN _ _ ⟨rfl,?_⟩
   rw [m8 hq,if_pos k,List.map_append]
   rfl
  ·refine hN _ _ ⟨rfl,?_⟩
   rw [m8 hq,if_neg k,List.append_nil]
 ·rintro acc M4 ⟨rfl,rfl⟩
  refine ⟨ah,fun r hr=>?_⟩
  rw [List.length_map,List.take_length]
  walk_at "rd"
  intro e he
  refine ⟨r,e,_,_,rfl,rfl,aj ah he,ah,dO _,rfl,?_⟩
  rw [qH]
  refine bf.mk ⟨M,((Le.new hp).trans (Le.new hr)).trans (Le.new he),h _ ?_⟩
  rw [← oi bI,← Dr jj,List.isEmpty_iff,List.map_eq_nil_iff,List.filter_eq_nil_iff]
  exact ⟨fun z q hq=>Classical.byContradiction fun w=>z q hq (decide_eq_true w),fun z q hq w=>of_decide_eq_true w (z q hq)⟩
theorem GB (T:Txt K mg t):Binds K t.vI ["number"] []:=T.zA.binds fun _ _ _ _ _ _ us hl=>match us,hl with | [_],_=>rfl
def JE:wK:=fun ds Q=> ∃ i:Int,ds= [.int i]∧Q (.int i.sign)
theorem GC (T:Txt K mg t):b8 P w K mg base fZ 1 t.zq t.vI ["number"] (wg K JE):=by
 refine A4 T.zA Gu (fun ds Q h=>by (first | (obtain ⟨_,rfl,_⟩:=h;rfl) | (obtain ⟨_,_,rfl,_⟩:=h;rfl) | (obtain ⟨_,_,_,rfl,_⟩:=h;rfl) | (obtain ⟨_,_,_,_,rfl,_⟩:=h;rfl) | (obtain ⟨_,_,_,_,_,rfl,_⟩:=h;rfl) | (obtain ⟨_,_,_,_,_,_,rfl,_⟩:=h;rfl) | (obtain ⟨_,_,_,_,_,_,_,rfl,_⟩:=h;rfl))) (fun cdv A outer s H hr=>?_)
 have hu:=hr.units
 refine ⟨_,(au (bT (aN KP (af 0) ai (aC _)) (aB (aE ai)) aT)
  (au (bT (aN (oY hu) (af 0) ai (aC _)) (aB (aE (jV ai))) aT)
  (aB (aE ai)))),fun ds Q h=>?_⟩
 obtain ⟨i,rfl,h⟩:=h
 walk_at "rd"
 refine bB (fun c=>?_) (fun c=>?_)
 ·have c:0 < i:=of_decide_eq_true c
  rw [Int.sign_eq_one_of_pos c] at h
  exact h
 ·have c:¬ 0 < i:=fun z=>c (decide_eq_true z)
  walk_at "rd"
  refine bB (fun e=>?_) (fun e=>?_)
  ·have e:i < 0:=of_decide_eq_true e
   rw [Int.sign_eq_neg_one_of_neg e] at h
   walk_at "rd"
   exact h
  ·have e:¬ i < 0:=fun z=>e (decide_eq_true z)
   have z:i=0:=by omega
   subst z
   exact h
theorem v5 (T:Txt K mg t):Binds K t.vJ ["a","b","c"] []:=T.rN.binds fun _ _ _ _ _ _ us hl=>match us,hl with | [_,_,_],_=>rfl
def JF:wK:=fun ds Q=> ∃ a b c:Pl,ds= [a.d,b.d,c.d]∧a.Ok 140∧b.Ok 140∧c.Ok 140∧Q (.int (tw a b c).sign)
theorem v7 (T:Txt K mg t):b8 P w K mg base fZ 2 t.zu t.vJ ["a","b","c"] (wg K JF):=by
 refine A4 T.rN Gv (fun ds Q h=>by (first | (obtain ⟨_,rfl,_⟩:=h;rfl) | (obtain ⟨_,_,rfl,_⟩:=h;rfl) | (obtain ⟨_,_,_,rfl,_⟩:=h;rfl) | (obtain ⟨_,_,_,_,rfl,_⟩:=h;rfl) | (obtain ⟨_,_,_,_,_,rfl,_⟩:=h;rfl) | (obtain ⟨_,_,_,_,_,_,rfl,_⟩:=h;rfl) | (obtain ⟨_,_,_,_,_,_,_,rfl,_⟩:=h;rfl))) (fun cdv A outer s H hr=>?_)
 have hu:=hr.units
 refine ⟨_,(aB (aE (bg (GC T) (hr.mono (by decide)) (by rfl) T.Jy T.zA.kp (GB T) (aa (bg (yk T) (hr.mono (by decide)) (by rfl) T.AI T.qj.kp (yj T) (aa (af 0) (aa (af 1) (aa (af 2) ak)))) ak)))),fun ds Q h=>?_⟩
 obtain ⟨a,b,c,rfl,ha,hb,hc,h⟩:=h
 walk_at "rd"
 refine ⟨ha,hb,hc,?_⟩
 walk_at "rd"
 exact h
theorem jY (T:Txt K mg t):Binds K t.fS ["line"] []:=T.eO.binds fun _ _ _ _ _ _ us hl=>match us,hl with | [_],_=>rfl
def rS:pI:=fun ds M Q=> ∃ (l:Addr) (ps:List Pl),ds= [.ref l]∧M l=some (.lst (ps.map Pl.d))∧ps.length≤1000∧(∀ q∈ps,q.Ok 140)∧∀ p,M p=none→Q (.ref p) (aA M p (.lst ((ps.foldl aP []).reverse.map Pl.d)))
theorem jZ (T:Txt K mg t):b8 P w K mg base fZ 3 t.gS t.fS ["line"] (qc K rS):=by
 refine uQ T.eO fY (fun ds M Q h=>by (first | (obtain ⟨_,rfl,_⟩:=h;rfl) | (obtain ⟨_,_,rfl,_⟩:=h;rfl) | (obtain ⟨_,_,_,rfl,_⟩:=h;rfl) | (obtain ⟨_,_,_,_,rfl,_⟩:=h;rfl) | (obtain ⟨_,_,_,_,_,rfl,_⟩:=h;rfl) | (obtain ⟨_,_,_,_,_,_,rfl,_⟩:=h;rfl) | (obtain ⟨_,_,_,_,_,_,_,rfl,_⟩:=h;rfl))) (fun cdv A outer s H hr=>?_)
 have hu:=hr.units
 refine ⟨_,(au (aX (i:=1) fY.nd rfl (Or.inl rfl) (cR ak))
  (au (uP PassesOwn.never rfl (af 0) (cT (i:=2) fY.nd rfl (Or.inl rfl)) (au (E6 PassesOwn.never (oX.pt (tT (aN KP (aD cF (by rfl) T.bM aI (aa (af 1) ak)) ai (aC _)) (nU (aN (fM hu) (bg (v7 T) (hr.mono (by decide)) (by rfl) T.zB T.rN.kp (v5 T) (aa (aM (af 1) (jV ai)) (aa (aM (af 1) (jV ai)) (aa (af 2) ak)))) (jV ai) (aC _))))) (aB (nW (Lx (af 1) (Ii PySem.F.plainAttrs_list PySem.F.slot_list_pop PySem.F.type_list_pop Ik (cM.dn (af 1)))))))
  (aB (nW (CD (af 1) (af 2) (wF PySem.F.plainAttrs_list PySem.F.slot_list_append PySem.F.type_list_append kZ (cM.dn (af 1)) (kY (cM.dn (af 2)) nS)))))))
  (aB (aE (af 1))))),fun ds M Q h=>?_⟩
 obtain ⟨l,ps,rfl,hM,hlen,ho,h⟩:=h
 walk_at "rd"
 intro p hp
 have hl:∀ o,aA M p o l=some (.lst (ps.map Pl.d)):=fun o=>aj hM hp
 walk_at "rd"
 refine ⟨l,_,rfl,hl _,?_⟩
 refine aS (fun i ρ M'=>M'=aA M p (.lst (((ps.take i).foldl aP []).reverse.map Pl.d))∧∃ y:Option L3.D,ρ= [some (.ref l),some (.ref p),y]) _ ?_ ?_ ⟨rfl,_,rfl⟩
 ·rintro i x ρ M' N hx ⟨rfl,y,rfl⟩ hN
  obtain ⟨d,hd,rfl⟩:=C3 hx
  have od:=ho d (List.mem_of_getElem? hd)
  have R8:∀ q∈(ps.take i).foldl aP [],q.Ok 140:=fun q hq=>ho q (List.mem_of_mem_take (oh _ q hq))
  have lst:=eY (ps.take i)
  have eN:=yR hd
  have lt:(ps.take i).length≤1000:=by rw [List.length_take];omega
  generalize hst:(ps.take i).foldl aP []=st at *
  refine ⟨hl _,?_⟩
  walk_at "rd"
  refine ⟨fun m ρ M'=> ∃ st':List Pl,M'=aA M p (.lst (st'.reverse.map Pl.d))∧ρ= [some (.ref l),some (.ref p),some d.d]∧m=st'.length∧jb st' d=jb st d∧(∀ q∈st',q.Ok 140)∧st'.length≤1000,⟨_,st,rfl,rfl,rfl,rfl,R8,by omega⟩,?_⟩
  rintro m ρ M' ⟨st',rfl,rfl,rfl,ep,os,ls⟩
  walk_at "rd"
  refine ⟨_,_,rfl,.inr (.inr ⟨p,rfl,ah⟩),?_⟩
  walk_at "rd"
  rw [List.length_map,List.length_reverse]
  refine bB (fun c=>?_) (fun c=>?_)
  ·have c:(1:Int) < (st'.length:Int):=of_decide_eq_true c
   obtain ⟨b,a,r,rfl⟩:∃ b a r,st'=b :: a :: r:=by
    match st',c with
    | b :: a :: r,_=>exact ⟨b,a,r,rfl⟩
    | [x],c=>exact absurd c (by show ¬ (1:Int) < 1;decide)
    | [],c=>exact absurd c (by decide)
   walk_at "rd"
   refine ⟨_,_,a.d,.inr (.inr ⟨p,rfl,ah⟩),rfl,Bp b a r,?_⟩
   walk_at "rd"
   refine ⟨_,_,b.d,.inr (.inr ⟨p,rfl,ah⟩),rfl,Bo b _,?_⟩
   walk_at "rd"
   refine ⟨os a (by simp),os b (by simp),od,?_⟩
   walk_at "rd"
   rw [eB]
   refine bB (fun k=>?_) (fun k=>?_)
   ·have k:=eq_of_beq k
    have k:tw a b d < 0:=Int.sign_eq_neg_one_iff_neg.mp k
    walk_at "rd"
    refine ⟨p,_,b.d,rfl,by rw [List.reverse_cons,List.map_append];exact ah,?_⟩
    rw [kj]
    exact bf.mk ⟨_,Nat.lt_succ_self _,a :: r,rfl,rfl,rfl,by rw [← ep,Dm k],fun q hq=>os q (List.mem_cons_of_mem _ hq),by simp only [List.length_cons] at ls ⊢;omega⟩
   ·have k:¬ tw a b d < 0:=fun z=>k (by rw [Int.sign_eq_neg_one_of_neg z];rfl)
    have ez:=Dn (r:=r) k
    generalize b :: a :: r=st' at *
    walk_at "rd"
    refine ⟨⟨p,_,rfl,ah⟩,?_⟩
    walk_at "rd"
    refine ⟨p,_,rfl,ah,?_,?_⟩
    ·rw [List.length_map,List.length_reverse]
     have:(1000:Nat) < sizeLine:=by decide
     omega
    ·rw [kj]
     refine hN _ _ ⟨?_,_,rfl⟩
     have e:aP st d=d :: st':=by
      show d :: jb st d=_
      rw [← ep,ez]
     rw [eN,e,List.reverse_cons,List.map_append]
     rfl
  ·have c:¬ (1:Int) < (st'.length:Int):=fun z=>c (decide_eq_true z)
   have ez:jb st' d=st':=by
    match st',c with
    | [],_=>rfl
    | [_],_=>rfl
    | b :: a :: r,c=>exact absurd (show (1:Int) < ((b :: a :: r).length:Int) by simp only [List.length_cons];omega) c
   walk_at "rd"
   refine ⟨⟨p,_,rfl,ah⟩,?_⟩
   walk_at "rd"
   refine ⟨p,_,rfl,ah,?_,?_⟩
   ·rw [List.length_map,List.length_reverse]
    have:(1000:Nat) < sizeLine:=by decide
    omega
   ·rw [kj]
    refine hN _ _ ⟨?_,_,rfl⟩
    have e:aP st d=d :: st':=by
     show d :: jb st d=_
     rw [← ep,ez]
    rw [eN,e,List.reverse_cons,List.map_append]
    rfl
 ·rintro ρ M' ⟨rfl,y,rfl⟩
  refine ⟨hl _,?_⟩
  walk_at "rd"
  refine bf.mk ⟨_,Le.refl _,?_⟩
  rw [List.length_map,List.take_length]
  exact h p hp
theorem rT (T:Txt K mg t):Binds K t.mJ ["places"] []:=T.lB.binds fun _ _ _ _ _ _ us hl=>match us,hl with | [_],_=>rfl
def BV:pI:=fun ds M Q=> ∃ (l:Addr) (ps:List Pl),ds= [.ref l]∧M l=some (.lst (ps.map Pl.d))∧ps.length < 64∧(∀ q∈ps,q.Ok 140)∧∀ (p:Addr) (qs:List Pl),M p=none→qs.Perm ps→qs.Pairwise (fun p q=> ¬ aZ q p)→Q (.ref p) (aA M p (.lst ((aR qs).map Pl.d)))
theorem rV (T:Txt K mg t):b8 P w K mg base fZ 4 t.oH t.mJ ["places"] (qc K BV):=by
 refine uQ T.lB jU (fun ds M Q h=>by (first | (obtain ⟨_,rfl,_⟩:=h;rfl) | (obtain ⟨_,_,rfl,_⟩:=h;rfl) | (obtain ⟨_,_,_,rfl,_⟩:=h;rfl) | (obtain ⟨_,_,_,_,rfl,_⟩:=h;rfl) | (obtain ⟨_,_,_,_,_,rfl,_⟩:=h;rfl) | (obtain ⟨_,_,_,_,_,_,rfl,_⟩:=h;rfl) | (obtain ⟨_,_,_,_,_,_,_,rfl,_⟩:=h;rfl))) (fun cdv A outer s H hr=>?_)
 have hu:=hr.units
 refine ⟨_,(au (aX (i:=1) jU.nd rfl (Or.inl rfl) (aD i9 (by rfl) T.cP bO (aa (af 0) ak)))
  (au (bT (aN (oY hu) (aD cF (by rfl) T.bM aI (aa (af 1) ak)) ai (aC _)) (aB (aE (af 1))) aT)
  (au (aX (i:=2) jU.nd rfl (Or.inl rfl) (bE (jZ T) (hr.mono (by decide)) (by rfl) T.kL T.eO.kp (jY T) (aa (af 1) ak)))
  (au (aX (i:=3) jU.nd rfl (Or.inl rfl) (bE (jZ T) (hr.mono (by decide)) (by rfl) T.kL T.eO.kp (jY T) (aa (Bj (by rfl) (by rfl) T.cD (by rfl) T.x9 (af 1)) ak)))
  (aB (aE (aq CW (ja (af 2) Be (nY (jV ai))) (ja (af 3) Be (nY (jV ai)))))))))),fun ds M Q h=>?_⟩
 obtain ⟨l,ps,rfl,hM,h64,ho,h⟩:=h
 walk_at "rd"
 refine ⟨l,ps,rfl,hM,h64,fun p qs hp bI jj=>?_⟩
 have oq:∀ q∈qs,q.Ok 140:=fun q hq=>ho q (bI.mem_iff.mp hq)
 have lq:qs.length < 64:=by rw [bI.length_eq];exact h64
 walk_at "rd"
 refine ⟨_,_,rfl,.inr (.inr ⟨p,rfl,ah⟩),?_⟩
 walk_at "rd"
 rw [List.length_map]
 refine bB (fun c=>?_) (fun c=>?_)
 ·have c:(qs.length:Int) < 2:=of_decide_eq_true c
  have e:aR qs=qs:=by unfold aR;rw [if_pos (by omega)]
  have q:=h p qs hp bI jj
  rw [e] at q
  walk_at "rd"
  exact bf.mk ⟨_,Le.refl _,q⟩
 ·have c:¬ (qs.length:Int) < 2:=fun z=>c (decide_eq_true z)
  have h':∀ r,M r=none→Q (.ref r) (aA M r (.lst ((aR qs).map Pl.d))):=fun r hr=>h r qs hr bI jj
  walk_at "rd"
  refine ⟨p,qs,rfl,ah,by omega,oq,fun p1 hp1=>?_⟩
  walk_at "rd"
  have e:aR qs=(qs.foldl aP []).reverse.dropLast ++ (qs.reverse.foldl aP []).reverse.dropLast:=by unfold aR;rw [if_neg (by omega)]
  rw [e] at h'
  have lt:(qs.foldl aP []).reverse.length≤64:=by
   have:=eY qs
   rw [List.length_reverse];omega
  have lh:(qs.reverse.foldl aP []).reverse.length≤64:=by
   have:=eY qs.reverse
   rw [List.length_reverse] at this ⊢;omega
  generalize (qs.foldl aP []).reverse=th at *
  have hQ:aA (aA M p (.lst (qs.map Pl.d))) p1 (.lst (th.map Pl.d)) p=some (.lst (qs.map Pl.d)):=aj ah hp1
  have hT:aA (aA M p (.lst (qs.map Pl.d))) p1 (.lst (th.map Pl.d)) p1=some (.lst (th.map Pl.d)):=ah
  have le:=(Le.new (o:= .lst (qs.map Pl.d)) hp).trans (Le.new (o:= .lst (th.map Pl.d)) hp1)
  generalize aA (aA M p (.lst (qs.map Pl.d))) p1 (.lst (th.map Pl.d))=M2 at hQ hT le ⊢
  refine ⟨_,.of hQ,fun p2 hp2=>?_⟩
  rw [← List.map_reverse]
  have hT2:=aj (u:=MO.lst (qs.reverse.map Pl.d)) hT hp2
  have JB:=le.trans (Le.new (o:= .lst (qs.reverse.map Pl.d)) hp2)
  have hR:aA M2 p2 (.lst (qs.reverse.map Pl.d)) p2=some (.lst (qs.reverse.map Pl.d)):=ah
  generalize aA M2 p2 (.lst (qs.reverse.map Pl.d))=M3 at hT2 JB hR ⊢
  refine ⟨p2,qs.reverse,rfl,hR,by rw [List.length_reverse];omega,fun q hq=>oq q (List.mem_reverse.mp hq),fun p3 hp3=>?_⟩
  have Tu:th.length≤64:=by omega
  generalize (qs.reverse.foldl aP []).reverse=hm at *
  have Mw:=aj (u:=MO.lst (hm.map Pl.d)) hT2 hp3
  have J0:=JB.trans (Le.new (o:= .lst (hm.map Pl.d)) hp3)
  have hH:aA M3 p3 (.lst (hm.map Pl.d)) p3=some (.lst (hm.map Pl.d)):=ah
  generalize aA M3 p3 (.lst (hm.map Pl.d))=M4 at Mw J0 hH ⊢
  walk_at "rd"
  refine ⟨_,.of Mw,fun p4 Mz=>?_⟩
  rw [xj]
  have Qk:=aj (u:=MO.lst (th.dropLast.map Pl.d)) hH Mz
  have Ql:=J0.trans (Le.new (o:= .lst (th.dropLast.map Pl.d)) Mz)
  have hA:aA M4 p4 (.lst (th.dropLast.map Pl.d)) p4=some (.lst (th.dropLast.map Pl.d)):=ah
  generalize aA M4 p4 (.lst (th.dropLast.map Pl.d))=M5 at Qk Ql hA ⊢
  walk_at "rd"
  refine ⟨_,.of Qk,fun p5 Qm=>?_⟩
  rw [xj]
  have Qn:=aj (u:=MO.lst (hm.dropLast.map Pl.d)) hA Qm
  have O7:=Ql.trans (Le.new (o:= .lst (hm.dropLast.map Pl.d)) Qm)
  have hB:aA M5 p5 (.lst (hm.dropLast.map Pl.d)) p5=some (.lst (hm.dropLast.map Pl.d)):=ah
  generalize aA M5 p5 (.lst (hm.dropLast.map Pl.d))=M6 at Qn O7 hB ⊢
  refine ⟨p4,p5,_,_,rfl,rfl,Qn,hB,?_,fun p6 R9=>?_⟩
  ·rw [List.length_map,List.length_map,List.length_dropLast,List.length_dropLast]
   have:(1000:Nat) < sizeLine:=by decide
   omega
  ·rw [← List.map_append]
   exact bf.mk ⟨_,O7.put,h' p6 (O7.free R9)⟩
theorem bP (T:Txt K mg t):Binds K t.bV ["_law_found","_law_due"] []:=T.aU.binds fun _ _ _ _ _ _ us hl=>match us,hl with | [_,_],_=>rfl
theorem pX (T:Txt K mg t):b8 P w K mg base fZ 0 t.cB t.bV ["_law_found","_law_due"] (qc K fun _ _ _=>False):=FI
def rW:pI:=Ao 1
theorem pY (T:Txt K mg t):b8 P w K mg base fZ 1 t.cB t.bV ["_law_found","_law_due"] (qc K rW):=by
 refine uQ T.aU bW (fun ds M Q h=>by (first | (obtain ⟨_,rfl,_⟩:=h;rfl) | (obtain ⟨_,_,rfl,_⟩:=h;rfl) | (obtain ⟨_,_,_,rfl,_⟩:=h;rfl) | (obtain ⟨_,_,_,_,rfl,_⟩:=h;rfl) | (obtain ⟨_,_,_,_,_,rfl,_⟩:=h;rfl) | (obtain ⟨_,_,_,_,_,_,rfl,_⟩:=h;rfl) | (obtain ⟨_,_,_,_,_,_,_,rfl,_⟩:=h;rfl))) (fun cdv A outer s H hr=>?_)
 have hu:=hr.units
 refine ⟨_,(au (bT (oX.pt (qo (aN g9 (af 1) gD (aC _)) (lH (gY (aD bN (by rfl) T.av ao (aa (af 1) (aa (aV (by rfl) T.kN dQ) ak))))))) (aB (aE (E3 (aN g9 (af 1) gD (aC _)) (gX g9 (af 0) gD (aC _)) (gE (aD bN (by rfl) T.av ao (aa (af 0) (aa (aV (by rfl) T.kN dQ) ak))) (lJ (gX (fM hu) (af 0) (af 1) (aC _))))))) aT)
  (au (bT (gY (aD bN (by rfl) T.av ao (aa (af 1) (aa (aV (by rfl) T.kM dN) ak)))) (aB (aE (gE (aD bN (by rfl) T.av ao (aa (af 0) (aa (aV (by rfl) T.kM dN) ak))) (gE (Ac (aD bN (by rfl) T.av ao (aa (af 0) (aa (aV (by rfl) T.qk jx) ak)))) (lJ (gX (fM hu) (af 0) (af 1) (aC _))))))) aT)
  (au (bT (oX.pt (qo (aN (l0 hu) (aD bN (by rfl) T.av ao (aa (af 0) (aa (aV (by rfl) T.fK cI) ak))) (aD bN (by rfl) T.av ao (aa (af 1) (aa (aV (by rfl) T.fK cI) ak))) (aC _)) (lH (aN (l0 hu) (aD bN (by rfl) T.av ao (aa (af 0) (aa (aV (by rfl) T.cD bx) ak))) (aD bN (by rfl) T.av ao (aa (af 1) (aa (aV (by rfl) T.cD bx) ak))) (aC _))))) (aB (aE jv)) aT)
  (au (bT (aN (l0 hu) (aD cF (by rfl) T.bM aI (aa (af 0) ak)) (aD cF (by rfl) T.bM aI (aa (af 1) ak)) (aC _)) (aB (aE jv)) aT)
  (au (gG PassesOwn.never rfl (by rfl) T.cO (aa (aD cF (by rfl) T.bM aI (aa (af 1) ak)) ak) (cT (i:=2) bW.nd rfl (Or.inl rfl)) (aB (bT (k_not (gY (bE (pX T) (hr.mono (by decide)) (by rfl) T.bU T.aU.kp (bP T) (aa (aM (af 0) (af 2)) (aa (aM (af 1) (af 2)) ak))))) (aB (aE jv)) aT)))
  (aB (aE jv))))))),fun ds M Q h=>?_⟩
 obtain ⟨d,e,rfl,ha,h⟩:=h
 rcases ha with ⟨rfl,ha⟩ | ⟨f,g,xs,rfl,rfl,hf,hg,hx,hl⟩
 ·cases d with
  | int i=>
    walk_at "rd"
    refine ⟨_,_,_,false,rfl,.int _,by rfl,?_⟩
    walk_at "rd"
    refine ⟨_,_,_,false,rfl,.int _,by rfl,?_⟩
    walk_at "rd"
    have e:di (.int i) (.int i)=true:=by rw [eB];simp
    rw [e]
    exact bf.mk ⟨_,Le.refl _,h⟩
  | bA=>
    walk_at "rd"
    exact bf.mk ⟨_,Le.refl _,h⟩
  | str x=>
    walk_at "rd"
    refine ⟨_,_,_,true,rfl,.str _,bF,?_⟩
    walk_at "rd"
    refine ⟨_,_,_,true,rfl,.str _,bF,?_⟩
    walk_at "rd"
    have e:di (.str x) (.str x)=true:=i6 1 _ rfl
    rw [e]
    exact bf.mk ⟨_,Le.refl _,h⟩
  | tup xs=>
    obtain ⟨hl,hx⟩:xs.length≤1000∧xs.all (sJ 0)=true:=by
     have ha:(decide (xs.length≤1000) && xs.all (sJ 0))=true:=ha
     rw [Bool.and_eq_true] at ha
     exact ⟨of_decide_eq_true ha.1,ha.2⟩
    walk_at "rd"
    refine ⟨_,_,_,false,rfl,.tup _,by rfl,?_⟩
    walk_at "rd"
    refine ⟨_,_,_,false,rfl,.tup _,by rfl,?_⟩
    walk_at "rd"
    refine ⟨_,_,_,false,rfl,.tup _,by rfl,?_⟩
    walk_at "rd"
    refine ⟨_,_,_,false,rfl,.tup _,by rfl,?_⟩
    walk_at "rd"
    rw [gH]
    refine bB (fun z=>absurd rfl (of_decide_eq_true z)) (fun _=>?_)
    walk_at "rd"
    refine ⟨by omega,by omega,?_⟩
    refine aS (fun i ρ M'=>M'=M∧∃ y:Option L3.D,ρ= [some (.tup xs),some (.tup xs),y]) _ ?_ ?_ ⟨rfl,_,rfl⟩
    ·rintro i x ρ M' Nx vZ ⟨rfl,y,rfl⟩ hN
     obtain ⟨hi,rfl⟩:=bL vZ
     have hi:i < xs.length:=by simpa using hi
     have gx:xs[i]?=some xs[i]:=List.getElem?_eq_getElem hi
     have nL:sJ 0 xs[i]=true:=List.all_eq_true.mp hx _ (List.getElem_mem hi)
     refine ⟨trivial,?_⟩
     walk_at "rd"
     exact absurd nL (by show ¬ false=true;decide)
    ·rintro ρ M' ⟨rfl,y,rfl⟩
     refine ⟨trivial,?_⟩
     walk_at "rd"
     exact bf.mk ⟨_,Le.refl _,h⟩
  | _=>cases ha
 ·walk_at "rd"
  refine ⟨_,_,_,false,rfl,.lst hg,by rfl,?_⟩
  walk_at "rd"
  refine ⟨_,_,_,false,rfl,.lst hg,by rfl,?_⟩
  walk_at "rd"
  refine ⟨_,_,_,false,rfl,.lst hf,by rfl,?_⟩
  walk_at "rd"
  refine ⟨_,_,_,false,rfl,.lst hg,by rfl,?_⟩
  walk_at "rd"
  refine ⟨_,_,_,true,rfl,.lst hf,bF,?_⟩
  walk_at "rd"
  refine ⟨_,_,_,true,rfl,.lst hg,bF,?_⟩
  walk_at "rd"
  refine ⟨_,_,rfl,.inr (.inr ⟨f,rfl,hf⟩),?_⟩
  walk_at "rd"
  refine ⟨_,_,rfl,.inr (.inr ⟨g,rfl,hg⟩),?_⟩
  walk_at "rd"
  rw [gH]
  refine bB (fun z=>absurd rfl (of_decide_eq_true z)) (fun _=>?_)
  walk_at "rd"
  refine ⟨_,_,rfl,.inr (.inr ⟨g,rfl,hg⟩),?_⟩
  refine ⟨_,rfl,by omega,by omega,?_⟩
  refine aS (fun i ρ M'=>M'=M∧∃ y:Option L3.D,ρ= [some (.ref f),some (.ref g),y]) _ ?_ ?_ ⟨rfl,_,rfl⟩
  ·rintro i x ρ M' Nx vZ ⟨rfl,y,rfl⟩ hN
   obtain ⟨hi,rfl⟩:=bL vZ
   have hi:i < xs.length:=by simpa using hi
   have gx:xs[i]?=some xs[i]:=List.getElem?_eq_getElem hi
   have nL:sJ 0 xs[i]=true:=List.all_eq_true.mp hx _ (List.getElem_mem hi)
   refine ⟨trivial,?_⟩
   walk_at "rd"
   exact absurd nL (by show ¬ false=true;decide)
  ·rintro ρ M' ⟨rfl,y,rfl⟩
   refine ⟨trivial,?_⟩
   walk_at "rd"
   exact bf.mk ⟨_,Le.refl _,h⟩
def rX:pI:=Ao 2
theorem pZ (T:Txt K mg t):b8 P w K mg base fZ 2 t.cB t.bV ["_law_found","_law_due"] (qc K rX):=by
 refine uQ T.aU bW (fun ds M Q h=>by (first | (obtain ⟨_,rfl,_⟩:=h;rfl) | (obtain ⟨_,_,rfl,_⟩:=h;rfl) | (obtain ⟨_,_,_,rfl,_⟩:=h;rfl) | (obtain ⟨_,_,_,_,rfl,_⟩:=h;rfl) | (obtain ⟨_,_,_,_,_,rfl,_⟩:=h;rfl) | (obtain ⟨_,_,_,_,_,_,rfl,_⟩:=h;rfl) | (obtain ⟨_,_,_,_,_,_,_,rfl,_⟩:=h;rfl))) (fun cdv A outer s H hr=>?_)
 have hu:=hr.units
 refine ⟨_,(au (bT (oX.pt (qo (aN g9 (af 1) gD (aC _)) (lH (gY (aD bN (by rfl) T.av ao (aa (af 1) (aa (aV (by rfl) T.kN dQ) ak))))))) (aB (aE (E3 (aN g9 (af 1) gD (aC _)) (gX g9 (af 0) gD (aC _)) (gE (aD bN (by rfl) T.av ao (aa (af 0) (aa (aV (by rfl) T.kN dQ) ak))) (lJ (gX (fM hu) (af 0) (af 1) (aC _))))))) aT)
  (au (bT (gY (aD bN (by rfl) T.av ao (aa (af 1) (aa (aV (by rfl) T.kM dN) ak)))) (aB (aE (gE (aD bN (by rfl) T.av ao (aa (af 0) (aa (aV (by rfl) T.kM dN) ak))) (gE (Ac (aD bN (by rfl) T.av ao (aa (af 0) (aa (aV (by rfl) T.qk jx) ak)))) (lJ (gX (fM hu) (af 0) (af 1) (aC _))))))) aT)
  (au (bT (oX.pt (qo (aN (l0 hu) (aD bN (by rfl) T.av ao (aa (af 0) (aa (aV (by rfl) T.fK cI) ak))) (aD bN (by rfl) T.av ao (aa (af 1) (aa (aV (by rfl) T.fK cI) ak))) (aC _)) (lH (aN (l0 hu) (aD bN (by rfl) T.av ao (aa (af 0) (aa (aV (by rfl) T.cD bx) ak))) (aD bN (by rfl) T.av ao (aa (af 1) (aa (aV (by rfl) T.cD bx) ak))) (aC _))))) (aB (aE jv)) aT)
  (au (bT (aN (l0 hu) (aD cF (by rfl) T.bM aI (aa (af 0) ak)) (aD cF (by rfl) T.bM aI (aa (af 1) ak)) (aC _)) (aB (aE jv)) aT)
  (au (gG PassesOwn.never rfl (by rfl) T.cO (aa (aD cF (by rfl) T.bM aI (aa (af 1) ak)) ak) (cT (i:=2) bW.nd rfl (Or.inl rfl)) (aB (bT (k_not (gY (bE (pY T) (hr.mono (by decide)) (by rfl) T.bU T.aU.kp (bP T) (aa (aM (af 0) (af 2)) (aa (aM (af 1) (af 2)) ak))))) (aB (aE jv)) aT)))
  (aB (aE jv))))))),fun ds M Q h=>?_⟩
 obtain ⟨d,e,rfl,ha,h⟩:=h
 rcases ha with ⟨rfl,ha⟩ | ⟨f,g,xs,rfl,rfl,hf,hg,hx,hl⟩
 ·cases d with
  | int i=>
    walk_at "rd"
    refine ⟨_,_,_,false,rfl,.int _,by rfl,?_⟩
    walk_at "rd"
    refine ⟨_,_,_,false,rfl,.int _,by rfl,?_⟩
    walk_at "rd"
    have e:di (.int i) (.int i)=true:=by rw [eB];simp
    rw [e]
    exact bf.mk ⟨_,Le.refl _,h⟩
  | bA=>
    walk_at "rd"
    exact bf.mk ⟨_,Le.refl _,h⟩
  | str x=>
    walk_at "rd"
    refine ⟨_,_,_,true,rfl,.str _,bF,?_⟩
    walk_at "rd"
    refine ⟨_,_,_,true,rfl,.str _,bF,?_⟩
    walk_at "rd"
    have e:di (.str x) (.str x)=true:=i6 1 _ rfl
    rw [e]
    exact bf.mk ⟨_,Le.refl _,h⟩
  | tup xs=>
    obtain ⟨hl,hx⟩:xs.length≤1000∧xs.all (sJ 1)=true:=by
     have ha:(decide (xs.length≤1000) && xs.all (sJ 1))=true:=ha
     rw [Bool.and_eq_true] at ha
     exact ⟨of_decide_eq_true ha.1,ha.2⟩
    walk_at "rd"
    refine ⟨_,_,_,false,rfl,.tup _,by rfl,?_⟩
    walk_at "rd"
    refine ⟨_,_,_,false,rfl,.tup _,by rfl,?_⟩
    walk_at "rd"
    refine ⟨_,_,_,false,rfl,.tup _,by rfl,?_⟩
    walk_at "rd"
    refine ⟨_,_,_,false,rfl,.tup _,by rfl,?_⟩
    walk_at "rd"
    rw [gH]
    refine bB (fun z=>absurd rfl (of_decide_eq_true z)) (fun _=>?_)
    walk_at "rd"
    refine ⟨by omega,by omega,?_⟩
    refine aS (fun i ρ M'=>M'=M∧∃ y:Option L3.D,ρ= [some (.tup xs),some (.tup xs),y]) _ ?_ ?_ ⟨rfl,_,rfl⟩
    ·rintro i x ρ M' Nx vZ ⟨rfl,y,rfl⟩ hN
     obtain ⟨hi,rfl⟩:=bL vZ
     have hi:i < xs.length:=by simpa using hi
     have gx:xs[i]?=some xs[i]:=List.getElem?_eq_getElem hi
     have nL:sJ 1 xs[i]=true:=List.all_eq_true.mp hx _ (List.getElem_mem hi)
     refine ⟨trivial,?_⟩
     walk_at "rd"
     refine ⟨_,_,xs[i],.inl rfl,rfl,bJ gx,?_⟩
     walk_at "rd"
     refine ⟨_,_,xs[i],.inl rfl,rfl,bJ gx,?_⟩
     walk_at "rd"
     refine ⟨.inl ⟨rfl,nL⟩,?_⟩
     walk_at "rd"
     exact hN _ _ ⟨rfl,_,rfl⟩
    ·rintro ρ M' ⟨rfl,y,rfl⟩
     refine ⟨trivial,?_⟩
     walk_at "rd"
     exact bf.mk ⟨_,Le.refl _,h⟩
  | _=>cases ha
 ·walk_at "rd"
  refine ⟨_,_,_,false,rfl,.lst hg,by rfl,?_⟩
  walk_at "rd"
  refine ⟨_,_,_,false,rfl,.lst hg,by rfl,?_⟩
  walk_at "rd"
  refine ⟨_,_,_,false,rfl,.lst hf,by rfl,?_⟩
  walk_at "rd"
  refine ⟨_,_,_,false,rfl,.lst hg,by rfl,?_⟩
  walk_at "rd"
  refine ⟨_,_,_,true,rfl,.lst hf,bF,?_⟩
  walk_at "rd"
  refine ⟨_,_,_,true,rfl,.lst hg,bF,?_⟩
  walk_at "rd"
  refine ⟨_,_,rfl,.inr (.inr ⟨f,rfl,hf⟩),?_⟩
  walk_at "rd"
  refine ⟨_,_,rfl,.inr (.inr ⟨g,rfl,hg⟩),?_⟩
  walk_at "rd"
  rw [gH]
  refine bB (fun z=>absurd rfl (of_decide_eq_true z)) (fun _=>?_)
  walk_at "rd"
  refine ⟨_,_,rfl,.inr (.inr ⟨g,rfl,hg⟩),?_⟩
  refine ⟨_,rfl,by omega,by omega,?_⟩
  refine aS (fun i ρ M'=>M'=M∧∃ y:Option L3.D,ρ= [some (.ref f),some (.ref g),y]) _ ?_ ?_ ⟨rfl,_,rfl⟩
  ·rintro i x ρ M' Nx vZ ⟨rfl,y,rfl⟩ hN
   obtain ⟨hi,rfl⟩:=bL vZ
   have hi:i < xs.length:=by simpa using hi
   have gx:xs[i]?=some xs[i]:=List.getElem?_eq_getElem hi
   have nL:sJ 1 xs[i]=true:=List.all_eq_true.mp hx _ (List.getElem_mem hi)
   refine ⟨trivial,?_⟩
   walk_at "rd"
   refine ⟨_,_,xs[i],.inr (.inr ⟨f,rfl,hf⟩),rfl,bJ gx,?_⟩
   walk_at "rd"
   refine ⟨_,_,xs[i],.inr (.inr ⟨g,rfl,hg⟩),rfl,bJ gx,?_⟩
   walk_at "rd"
   refine ⟨.inl ⟨rfl,nL⟩,?_⟩
   walk_at "rd"
   exact hN _ _ ⟨rfl,_,rfl⟩
  ·rintro ρ M' ⟨rfl,y,rfl⟩
   refine ⟨trivial,?_⟩
   walk_at "rd"
   exact bf.mk ⟨_,Le.refl _,h⟩
def rY:pI:=Ao 3
theorem p7 (T:Txt K mg t):b8 P w K mg base fZ 3 t.cB t.bV ["_law_found","_law_due"] (qc K rY):=by
 refine uQ T.aU bW (fun ds M Q h=>by (first | (obtain ⟨_,rfl,_⟩:=h;rfl) | (obtain ⟨_,_,rfl,_⟩:=h;rfl) | (obtain ⟨_,_,_,rfl,_⟩:=h;rfl) | (obtain ⟨_,_,_,_,rfl,_⟩:=h;rfl) | (obtain ⟨_,_,_,_,_,rfl,_⟩:=h;rfl) | (obtain ⟨_,_,_,_,_,_,rfl,_⟩:=h;rfl) | (obtain ⟨_,_,_,_,_,_,_,rfl,_⟩:=h;rfl))) (fun cdv A outer s H hr=>?_)
 have hu:=hr.units
 refine ⟨_,(au (bT (oX.pt (qo (aN g9 (af 1) gD (aC _)) (lH (gY (aD bN (by rfl) T.av ao (aa (af 1) (aa (aV (by rfl) T.kN dQ) ak))))))) (aB (aE (E3 (aN g9 (af 1) gD (aC _)) (gX g9 (af 0) gD (aC _)) (gE (aD bN (by rfl) T.av ao (aa (af 0) (aa (aV (by rfl) T.kN dQ) ak))) (lJ (gX (fM hu) (af 0) (af 1) (aC _))))))) aT)
  (au (bT (gY (aD bN (by rfl) T.av ao (aa (af 1) (aa (aV (by rfl) T.kM dN) ak)))) (aB (aE (gE (aD bN (by rfl) T.av ao (aa (af 0) (aa (aV (by rfl) T.kM dN) ak))) (gE (Ac (aD bN (by rfl) T.av ao (aa (af 0) (aa (aV (by rfl) T.qk jx) ak)))) (lJ (gX (fM hu) (af 0) (af 1) (aC _))))))) aT)
  (au (bT (oX.pt (qo (aN (l0 hu) (aD bN (by rfl) T.av ao (aa (af 0) (aa (aV (by rfl) T.fK cI) ak))) (aD bN (by rfl) T.av ao (aa (af 1) (aa (aV (by rfl) T.fK cI) ak))) (aC _)) (lH (aN (l0 hu) (aD bN (by rfl) T.av ao (aa (af 0) (aa (aV (by rfl) T.cD bx) ak))) (aD bN (by rfl) T.av ao (aa (af 1) (aa (aV (by rfl) T.cD bx) ak))) (aC _))))) (aB (aE jv)) aT)
  (au (bT (aN (l0 hu) (aD cF (by rfl) T.bM aI (aa (af 0) ak)) (aD cF (by rfl) T.bM aI (aa (af 1) ak)) (aC _)) (aB (aE jv)) aT)
  (au (gG PassesOwn.never rfl (by rfl) T.cO (aa (aD cF (by rfl) T.bM aI (aa (af 1) ak)) ak) (cT (i:=2) bW.nd rfl (Or.inl rfl)) (aB (bT (k_not (gY (bE (pZ T) (hr.mono (by decide)) (by rfl) T.bU T.aU.kp (bP T) (aa (aM (af 0) (af 2)) (aa (aM (af 1) (af 2)) ak))))) (aB (aE jv)) aT)))
  (aB (aE jv))))))),fun ds M Q h=>?_⟩
 obtain ⟨d,e,rfl,ha,h⟩:=h
 rcases ha with ⟨rfl,ha⟩ | ⟨f,g,xs,rfl,rfl,hf,hg,hx,hl⟩
 ·cases d with
  | int i=>
    walk_at "rd"
    refine ⟨_,_,_,false,rfl,.int _,by rfl,?_⟩
    walk_at "rd"
    refine ⟨_,_,_,false,rfl,.int _,by rfl,?_⟩
    walk_at "rd"
    have e:di (.int i) (.int i)=true:=by rw [eB];simp
    rw [e]
    exact bf.mk ⟨_,Le.refl _,h⟩
  | bA=>
    walk_at "rd"
    exact bf.mk ⟨_,Le.refl _,h⟩
  | str x=>
    walk_at "rd"
    refine ⟨_,_,_,true,rfl,.str _,bF,?_⟩
    walk_at "rd"
    refine ⟨_,_,_,true,rfl,.str _,bF,?_⟩
    walk_at "rd"
    have e:di (.str x) (.str x)=true:=i6 1 _ rfl
    rw [e]
    exact bf.mk ⟨_,Le.refl _,h⟩
  | tup xs=>
    obtain ⟨hl,hx⟩:xs.length≤1000∧xs.all (sJ 2)=true:=by
     have ha:(decide (xs.length≤1000) && xs.all (sJ 2))=true:=ha
     rw [Bool.and_eq_true] at ha
     exact ⟨of_decide_eq_true ha.1,ha.2⟩
    walk_at "rd"
    refine ⟨_,_,_,false,rfl,.tup _,by rfl,?_⟩
    walk_at "rd"
    refine ⟨_,_,_,false,rfl,.tup _,by rfl,?_⟩
    walk_at "rd"
    refine ⟨_,_,_,false,rfl,.tup _,by rfl,?_⟩
    walk_at "rd"
    refine ⟨_,_,_,false,rfl,.tup _,by rfl,?_⟩
    walk_at "rd"
    rw [gH]
    refine bB (fun z=>absurd rfl (of_decide_eq_true z)) (fun _=>?_)
    walk_at "rd"
    refine ⟨by omega,by omega,?_⟩
    refine aS (fun i ρ M'=>M'=M∧∃ y:Option L3.D,ρ= [some (.tup xs),some (.tup xs),y]) _ ?_ ?_ ⟨rfl,_,rfl⟩
    ·rintro i x ρ M' Nx vZ ⟨rfl,y,rfl⟩ hN
     obtain ⟨hi,rfl⟩:=bL vZ
     have hi:i < xs.length:=by simpa using hi
     have gx:xs[i]?=some xs[i]:=List.getElem?_eq_getElem hi
     have nL:sJ 2 xs[i]=true:=List.all_eq_true.mp hx _ (List.getElem_mem hi)
     refine ⟨trivial,?_⟩
     walk_at "rd"
     refine ⟨_,_,xs[i],.inl rfl,rfl,bJ gx,?_⟩
     walk_at "rd"
     refine ⟨_,_,xs[i],.inl rfl,rfl,bJ gx,?_⟩
     walk_at "rd"
     refine ⟨.inl ⟨rfl,nL⟩,?_⟩
     walk_at "rd"
     exact hN _ _ ⟨rfl,_,rfl⟩
    ·rintro ρ M' ⟨rfl,y,rfl⟩
     refine ⟨trivial,?_⟩
     walk_at "rd"
     exact bf.mk ⟨_,Le.refl _,h⟩
  | _=>cases ha
 ·walk_at "rd"
  refine ⟨_,_,_,false,rfl,.lst hg,by rfl,?_⟩
  walk_at "rd"
  refine ⟨_,_,_,false,rfl,.lst hg,by rfl,?_⟩
  walk_at "rd"
  refine ⟨_,_,_,false,rfl,.lst hf,by rfl,?_⟩
  walk_at "rd"
  refine ⟨_,_,_,false,rfl,.lst hg,by rfl,?_⟩
  walk_at "rd"
  refine ⟨_,_,_,true,rfl,.lst hf,bF,?_⟩
  walk_at "rd"
  refine ⟨_,_,_,true,rfl,.lst hg,bF,?_⟩
  walk_at "rd"
  refine ⟨_,_,rfl,.inr (.inr ⟨f,rfl,hf⟩),?_⟩
  walk_at "rd"
  refine ⟨_,_,rfl,.inr (.inr ⟨g,rfl,hg⟩),?_⟩
  walk_at "rd"
  rw [gH]
  refine bB (fun z=>absurd rfl (of_decide_eq_true z)) (fun _=>?_)
  walk_at "rd"
  refine ⟨_,_,rfl,.inr (.inr ⟨g,rfl,hg⟩),?_⟩
  refine ⟨_,rfl,by omega,by omega,?_⟩
  refine aS (fun i ρ M'=>M'=M∧∃ y:Option L3.D,ρ= [some (.ref f),some (.ref g),y]) _ ?_ ?_ ⟨rfl,_,rfl⟩
  ·rintro i x ρ M' Nx vZ ⟨rfl,y,rfl⟩ hN
   obtain ⟨hi,rfl⟩:=bL vZ
   have hi:i < xs.length:=by simpa using hi
   have gx:xs[i]?=some xs[i]:=List.getElem?_eq_getElem hi
   have nL:sJ 2 xs[i]=true:=List.all_eq_true.mp hx _ (List.getElem_mem hi)
   refine ⟨trivial,?_⟩
   walk_at "rd"
   refine ⟨_,_,xs[i],.inr (.inr ⟨f,rfl,hf⟩),rfl,bJ gx,?_⟩
   walk_at "rd"
   refine ⟨_,_,xs[i],.inr (.inr ⟨g,rfl,hg⟩),rfl,bJ gx,?_⟩
   walk_at "rd"
   refine ⟨.inl ⟨rfl,nL⟩,?_⟩
   walk_at "rd"
   exact hN _ _ ⟨rfl,_,rfl⟩
  ·rintro ρ M' ⟨rfl,y,rfl⟩
   refine ⟨trivial,?_⟩
   walk_at "rd"
   exact bf.mk ⟨_,Le.refl _,h⟩
def kT:pI:=Ao 4
theorem p8 (T:Txt K mg t):b8 P w K mg base fZ 4 t.cB t.bV ["_law_found","_law_due"] (qc K kT):=by
 refine uQ T.aU bW (fun ds M Q h=>by (first | (obtain ⟨_,rfl,_⟩:=h;rfl) | (obtain ⟨_,_,rfl,_⟩:=h;rfl) | (obtain ⟨_,_,_,rfl,_⟩:=h;rfl) | (obtain ⟨_,_,_,_,rfl,_⟩:=h;rfl) | (obtain ⟨_,_,_,_,_,rfl,_⟩:=h;rfl) | (obtain ⟨_,_,_,_,_,_,rfl,_⟩:=h;rfl) | (obtain ⟨_,_,_,_,_,_,_,rfl,_⟩:=h;rfl))) (fun cdv A outer s H hr=>?_)
 have hu:=hr.units
 refine ⟨_,(au (bT (oX.pt (qo (aN g9 (af 1) gD (aC _)) (lH (gY (aD bN (by rfl) T.av ao (aa (af 1) (aa (aV (by rfl) T.kN dQ) ak))))))) (aB (aE (E3 (aN g9 (af 1) gD (aC _)) (gX g9 (af 0) gD (aC _)) (gE (aD bN (by rfl) T.av ao (aa (af 0) (aa (aV (by rfl) T.kN dQ) ak))) (lJ (gX (fM hu) (af 0) (af 1) (aC _))))))) aT)
  (au (bT (gY (aD bN (by rfl) T.av ao (aa (af 1) (aa (aV (by rfl) T.kM dN) ak)))) (aB (aE (gE (aD bN (by rfl) T.av ao (aa (af 0) (aa (aV (by rfl) T.kM dN) ak))) (gE (Ac (aD bN (by rfl) T.av ao (aa (af 0) (aa (aV (by rfl) T.qk jx) ak)))) (lJ (gX (fM hu) (af 0) (af 1) (aC _))))))) aT)
  (au (bT (oX.pt (qo (aN (l0 hu) (aD bN (by rfl) T.av ao (aa (af 0) (aa (aV (by rfl) T.fK cI) ak))) (aD bN (by rfl) T.av ao (aa (af 1) (aa (aV (by rfl) T.fK cI) ak))) (aC _)) (lH (aN (l0 hu) (aD bN (by rfl) T.av ao (aa (af 0) (aa (aV (by rfl) T.cD bx) ak))) (aD bN (by rfl) T.av ao (aa (af 1) (aa (aV (by rfl) T.cD bx) ak))) (aC _))))) (aB (aE jv)) aT)
  (au (bT (aN (l0 hu) (aD cF (by rfl) T.bM aI (aa (af 0) ak)) (aD cF (by rfl) T.bM aI (aa (af 1) ak)) (aC _)) (aB (aE jv)) aT)
  (au (gG PassesOwn.never rfl (by rfl) T.cO (aa (aD cF (by rfl) T.bM aI (aa (af 1) ak)) ak) (cT (i:=2) bW.nd rfl (Or.inl rfl)) (aB (bT (k_not (gY (bE (p7 T) (hr.mono (by decide)) (by rfl) T.bU T.aU.kp (bP T) (aa (aM (af 0) (af 2)) (aa (aM (af 1) (af 2)) ak))))) (aB (aE jv)) aT)))
  (aB (aE jv))))))),fun ds M Q h=>?_⟩
 obtain ⟨d,e,rfl,ha,h⟩:=h
 rcases ha with ⟨rfl,ha⟩ | ⟨f,g,xs,rfl,rfl,hf,hg,hx,hl⟩
 ·cases d with
  | int i=>
    walk_at "rd"
    refine ⟨_,_,_,false,rfl,.int _,by rfl,?_⟩
    walk_at "rd"
    refine ⟨_,_,_,false,rfl,.int _,by rfl,?_⟩
    walk_at "rd"
    have e:di (.int i) (.int i)=true:=by rw [eB];simp
    rw [e]
    exact bf.mk ⟨_,Le.refl _,h⟩
  | bA=>
    walk_at "rd"
    exact bf.mk ⟨_,Le.refl _,h⟩
  | str x=>
    walk_at "rd"
    refine ⟨_,_,_,true,rfl,.str _,bF,?_⟩
    walk_at "rd"
    refine ⟨_,_,_,true,rfl,.str _,bF,?_⟩
    walk_at "rd"
    have e:di (.str x) (.str x)=true:=i6 1 _ rfl
    rw [e]
    exact bf.mk ⟨_,Le.refl _,h⟩
  | tup xs=>
    obtain ⟨hl,hx⟩:xs.length≤1000∧xs.all (sJ 3)=true:=by
     have ha:(decide (xs.length≤1000) && xs.all (sJ 3))=true:=ha
     rw [Bool.and_eq_true] at ha
     exact ⟨of_decide_eq_true ha.1,ha.2⟩
    walk_at "rd"
    refine ⟨_,_,_,false,rfl,.tup _,by rfl,?_⟩
    walk_at "rd"
    refine ⟨_,_,_,false,rfl,.tup _,by rfl,?_⟩
    walk_at "rd"
    refine ⟨_,_,_,false,rfl,.tup _,by rfl,?_⟩
    walk_at "rd"
    refine ⟨_,_,_,false,rfl,.tup _,by rfl,?_⟩
    walk_at "rd"
    rw [gH]
    refine bB (fun z=>absurd rfl (of_decide_eq_true z)) (fun _=>?_)
    walk_at "rd"
    refine ⟨by omega,by omega,?_⟩
    refine aS (fun i ρ M'=>M'=M∧∃ y:Option L3.D,ρ= [some (.tup xs),some (.tup xs),y]) _ ?_ ?_ ⟨rfl,_,rfl⟩
    ·rintro i x ρ M' Nx vZ ⟨rfl,y,rfl⟩ hN
     obtain ⟨hi,rfl⟩:=bL vZ
     have hi:i < xs.length:=by simpa using hi
     have gx:xs[i]?=some xs[i]:=List.getElem?_eq_getElem hi
     have nL:sJ 3 xs[i]=true:=List.all_eq_true.mp hx _ (List.getElem_mem hi)
     refine ⟨trivial,?_⟩
     walk_at "rd"
     refine ⟨_,_,xs[i],.inl rfl,rfl,bJ gx,?_⟩
     walk_at "rd"
     refine ⟨_,_,xs[i],.inl rfl,rfl,bJ gx,?_⟩
     walk_at "rd"
     refine ⟨.inl ⟨rfl,nL⟩,?_⟩
     walk_at "rd"
     exact hN _ _ ⟨rfl,_,rfl⟩
    ·rintro ρ M' ⟨rfl,y,rfl⟩
     refine ⟨trivial,?_⟩
     walk_at "rd"
     exact bf.mk ⟨_,Le.refl _,h⟩
  | _=>cases ha
 ·walk_at "rd"
  refine ⟨_,_,_,false,rfl,.lst hg,by rfl,?_⟩
  walk_at "rd"
  refine ⟨_,_,_,false,rfl,.lst hg,by rfl,?_⟩
  walk_at "rd"
  refine ⟨_,_,_,false,rfl,.lst hf,by rfl,?_⟩
  walk_at "rd"
  refine ⟨_,_,_,false,rfl,.lst hg,by rfl,?_⟩
  walk_at "rd"
  refine ⟨_,_,_,true,rfl,.lst hf,bF,?_⟩
  walk_at "rd"
  refine ⟨_,_,_,true,rfl,.lst hg,bF,?_⟩
  walk_at "rd"
  refine ⟨_,_,rfl,.inr (.inr ⟨f,rfl,hf⟩),?_⟩
  walk_at "rd"
  refine ⟨_,_,rfl,.inr (.inr ⟨g,rfl,hg⟩),?_⟩
  walk_at "rd"
  rw [gH]
  refine bB (fun z=>absurd rfl (of_decide_eq_true z)) (fun _=>?_)
  walk_at "rd"
  refine ⟨_,_,rfl,.inr (.inr ⟨g,rfl,hg⟩),?_⟩
  refine ⟨_,rfl,by omega,by omega,?_⟩
  refine aS (fun i ρ M'=>M'=M∧∃ y:Option L3.D,ρ= [some (.ref f),some (.ref g),y]) _ ?_ ?_ ⟨rfl,_,rfl⟩
  ·rintro i x ρ M' Nx vZ ⟨rfl,y,rfl⟩ hN
   obtain ⟨hi,rfl⟩:=bL vZ
   have hi:i < xs.length:=by simpa using hi
   have gx:xs[i]?=some xs[i]:=List.getElem?_eq_getElem hi
   have nL:sJ 3 xs[i]=true:=List.all_eq_true.mp hx _ (List.getElem_mem hi)
   refine ⟨trivial,?_⟩
   walk_at "rd"
   refine ⟨_,_,xs[i],.inr (.inr ⟨f,rfl,hf⟩),rfl,bJ gx,?_⟩
   walk_at "rd"
   refine ⟨_,_,xs[i],.inr (.inr ⟨g,rfl,hg⟩),rfl,bJ gx,?_⟩
   walk_at "rd"
   refine ⟨.inl ⟨rfl,nL⟩,?_⟩
   walk_at "rd"
   exact hN _ _ ⟨rfl,_,rfl⟩
  ·rintro ρ M' ⟨rfl,y,rfl⟩
   refine ⟨trivial,?_⟩
   walk_at "rd"
   exact bf.mk ⟨_,Le.refl _,h⟩
def v8:pI:=kT
theorem dG (T:Txt K mg t):b8 P w K mg base fZ 4 t.cB t.bV ["_law_found","_law_due"] (qc K v8):=p8 T
theorem oO (T:Txt K mg t):Binds K t.fm ["places"] []:=T.fX.binds fun _ _ _ _ _ _ us hl=>match us,hl with | [_],_=>rfl
def p9:pI:=fun ds M Q=> ∃ (l:Addr) (ps:List Pl),ds= [.ref l]∧M l=some (.lst (ps.map Pl.d))∧ps.length < 64∧(∀ q∈ps,q.Ok 140)∧∀ (p:Addr) (qs:List Pl),M p=none→qs.Perm ps→qs.Pairwise (fun p q=> ¬ aZ q p)→Q (.ref p) (aA M p (.lst ((cy (aR qs)).map tD)))
theorem oQ (T:Txt K mg t):b8 P w K mg base fZ 5 t.fT t.fm ["places"] (qc K p9):=by
 refine uQ T.fX jh (fun ds M Q h=>by (first | (obtain ⟨_,rfl,_⟩:=h;rfl) | (obtain ⟨_,_,rfl,_⟩:=h;rfl) | (obtain ⟨_,_,_,rfl,_⟩:=h;rfl) | (obtain ⟨_,_,_,_,rfl,_⟩:=h;rfl) | (obtain ⟨_,_,_,_,_,rfl,_⟩:=h;rfl) | (obtain ⟨_,_,_,_,_,_,rfl,_⟩:=h;rfl) | (obtain ⟨_,_,_,_,_,_,_,rfl,_⟩:=h;rfl))) (fun cdv A outer s H hr=>?_)
 have hu:=hr.units
 refine ⟨_,(au (aX (i:=1) jh.nd rfl (Or.inl rfl) (bE (rV T) (hr.mono (by decide)) (by rfl) T.uC T.lB.kp (rT T) (aa (af 0) ak)))
  (au (bT (aN (oY hu) (aD cF (by rfl) T.bM aI (aa (af 1) ak)) ai (aC _)) (aB (aE (cR ak))) aT)
  (aB (aE (ua (by rfl) (by rfl) T.cD (by rfl) T.El (aa (af 1) (aa (aq CW (ja (af 1) (nY ai) Be) (ja (af 1) Be (nY ai))) ak))))))),fun ds M Q h=>?_⟩
 obtain ⟨l,ps,rfl,hM,h64,ho,h⟩:=h
 walk_at "rd"
 refine ⟨l,ps,rfl,hM,h64,ho,fun p qs hp bI jj=>?_⟩
 have h':∀ r,M r=none→Q (.ref r) (aA M r (.lst ((cy (aR qs)).map tD))):=fun r hr=>h r qs hr bI jj
 have lo:(aR qs).length≤200:=by
  have l1:=eY qs
  have l2:=eY qs.reverse
  have l3:=bI.length_eq
  rw [List.length_reverse] at l2
  unfold aR
  split
  ·omega
  ·rw [List.length_append,List.length_dropLast,List.length_dropLast,List.length_reverse,List.length_reverse]
   omega
 generalize aR qs=bd at *
 walk_at "rd"
 refine ⟨_,_,rfl,.inr (.inr ⟨p,rfl,ah⟩),?_⟩
 walk_at "rd"
 rw [List.length_map]
 refine bB (fun c=>?_) (fun c=>?_)
 ·have c:(bd.length:Int) < 2:=of_decide_eq_true c
  walk_at "rd"
  intro r hr
  have q:=h' r ((Le.new hp).free hr)
  unfold cy at q
  rw [if_pos (by omega)] at q
  exact bf.mk ⟨_,(Le.new hp).put,q⟩
 ·have c:¬ (bd.length:Int) < 2:=fun z=>c (decide_eq_true z)
  walk_at "rd"
  have le:=Le.new (o:= .lst (bd.map Pl.d)) hp
  have hB:aA M p (.lst (bd.map Pl.d)) p=some (.lst (bd.map Pl.d)):=ah
  generalize aA M p (.lst (bd.map Pl.d))=M1 at hB le ⊢
  refine ⟨_,.of hB,fun p1 hp1=>?_⟩
  have O6:cutD (bd.map Pl.d) (some 1) none=(bd.drop 1).map Pl.d:=wV Pl.d bd 1 (by omega)
  have Sa:cutD (bd.map Pl.d) none (some 1)=(bd.take 1).map Pl.d:=xo Pl.d bd 1 (by omega)
  rw [O6]
  have O8:=aj (u:=MO.lst ((bd.drop 1).map Pl.d)) hB hp1
  have Qo:=le.trans (Le.new (o:= .lst ((bd.drop 1).map Pl.d)) hp1)
  have hA:aA M1 p1 (.lst ((bd.drop 1).map Pl.d)) p1=some (.lst ((bd.drop 1).map Pl.d)):=ah
  generalize aA M1 p1 (.lst ((bd.drop 1).map Pl.d))=M2 at O8 Qo hA ⊢
  walk_at "rd"
  refine ⟨_,.of O8,fun p2 hp2=>?_⟩
  rw [Sa]
  have hB2:=aj (u:=MO.lst ((bd.take 1).map Pl.d)) O8 hp2
  have Qp:=aj (u:=MO.lst ((bd.take 1).map Pl.d)) hA hp2
  have JB:=Qo.trans (Le.new (o:= .lst ((bd.take 1).map Pl.d)) hp2)
  have hC:aA M2 p2 (.lst ((bd.take 1).map Pl.d)) p2=some (.lst ((bd.take 1).map Pl.d)):=ah
  generalize aA M2 p2 (.lst ((bd.take 1).map Pl.d))=M3 at hB2 Qp JB hC ⊢
  refine ⟨p1,p2,_,_,rfl,rfl,Qp,hC,?_,fun p3 hp3=>?_⟩
  ·rw [List.length_map,List.length_map,List.length_drop,List.length_take]
   have:(1000:Nat) < sizeLine:=by decide
   omega
  rw [← List.map_append]
  have Qq:=aj (u:=MO.lst ((bd.drop 1 ++ bd.take 1).map Pl.d)) hB2 hp3
  have J0:=JB.trans (Le.new (o:= .lst ((bd.drop 1 ++ bd.take 1).map Pl.d)) hp3)
  have hE:aA M3 p3 (.lst ((bd.drop 1 ++ bd.take 1).map Pl.d)) p3=some (.lst ((bd.drop 1 ++ bd.take 1).map Pl.d)):=ah
  generalize aA M3 p3 (.lst ((bd.drop 1 ++ bd.take 1).map Pl.d))=M4 at Qq J0 hE ⊢
  refine ⟨p,p3,_,_,rfl,Qq,hE,fun p4 Mz=>?_⟩
  have q:=h' p4 (J0.free Mz)
  unfold cy at q
  rw [if_neg (by omega)] at q
  have ez:=oj bd (bd.drop 1 ++ bd.take 1)
  rw [show ((List.zipWith (fun p q=>[p,q]) bd (bd.drop 1 ++ bd.take 1)).map tD)=_ from ez] at q
  exact bf.mk ⟨_,J0.put,q⟩
theorem kU (T:Txt K mg t):Binds K t.gT ["a","b","c"] []:=T.fF.binds fun _ _ _ _ _ _ us hl=>match us,hl with | [_,_,_],_=>rfl
def tG:wK:=fun ds Q=> ∃ a b c:Pl,ds= [a.d,b.d,c.d]∧a.Ok 140∧b.Ok 140∧c.Ok 140∧tw a b c≠0∧Q (tD (Dd a b c))
theorem kW (T:Txt K mg t):b8 P w K mg base fZ 3 t.iS t.gT ["a","b","c"] (wg K tG):=by
 refine A4 T.fF kP (fun ds Q h=>by (first | (obtain ⟨_,rfl,_⟩:=h;rfl) | (obtain ⟨_,_,rfl,_⟩:=h;rfl) | (obtain ⟨_,_,_,rfl,_⟩:=h;rfl) | (obtain ⟨_,_,_,_,rfl,_⟩:=h;rfl) | (obtain ⟨_,_,_,_,_,rfl,_⟩:=h;rfl) | (obtain ⟨_,_,_,_,_,_,rfl,_⟩:=h;rfl) | (obtain ⟨_,_,_,_,_,_,_,rfl,_⟩:=h;rfl))) (fun cdv A outer s H hr=>?_)
 have hu:=hr.units
 refine ⟨_,(au (aX (i:=3) kP.nd rfl (Or.inl rfl) (aD i9 (by rfl) T.cP bO (aa (cR (aa (af 0) (aa (af 1) (aa (af 2) ak)))) ak)))
  (au (bT (aN (fM hu) (bg (v7 T) (hr.mono (by decide)) (by rfl) T.zB T.rN.kp (v5 T) (aa (aM (af 3) ai) (aa (aM (af 3) ai) (aa (aM (af 3) ai) ak)))) ai (aC _)) (aB (aE (dg (aa (aM (af 3) ai) (aa (aM (af 3) ai) (aa (aM (af 3) ai) ak)))))) aT)
  (aB (aE (dg (aa (aM (af 3) ai) (aa (aM (af 3) ai) (aa (aM (af 3) ai) ak)))))))),fun ds Q h=>?_⟩
 obtain ⟨a,b,c,rfl,ha,hb,hc,hn,h⟩:=h
 walk_at "rd"
 intro l hl
 refine ⟨l,[a,b,c],rfl,ah,by show 3 < 64;decide,fun p qs hp bI jj=>?_⟩
 obtain ⟨u,v,w,rfl⟩:=qB bI.length_eq
 obtain ⟨ou,ov,ow⟩:=CQ bI ha hb hc
 rw [yM hn bI jj] at h
 walk_at "rd"
 refine ⟨_,_,_,.inr (.inr ⟨p,rfl,ah⟩),rfl,rfl,?_⟩
 walk_at "rd"
 refine ⟨_,_,_,.inr (.inr ⟨p,rfl,ah⟩),rfl,rfl,?_⟩
 walk_at "rd"
 refine ⟨_,_,_,.inr (.inr ⟨p,rfl,ah⟩),rfl,rfl,?_⟩
 walk_at "rd"
 refine ⟨ou,ov,ow,?_⟩
 walk_at "rd"
 refine bB (fun k=>?_) (fun k=>?_)
 ·rw [if_pos (IW k)] at h
  walk_at "rd"
  refine ⟨_,_,_,.inr (.inr ⟨p,rfl,ah⟩),rfl,rfl,?_⟩
  walk_at "rd"
  refine ⟨_,_,_,.inr (.inr ⟨p,rfl,ah⟩),rfl,rfl,?_⟩
  walk_at "rd"
  refine ⟨_,_,_,.inr (.inr ⟨p,rfl,ah⟩),rfl,rfl,?_⟩
  walk_at "rd"
  exact h
 ·rw [if_neg (Fx k)] at h
  walk_at "rd"
  refine ⟨_,_,_,.inr (.inr ⟨p,rfl,ah⟩),rfl,rfl,?_⟩
  walk_at "rd"
  refine ⟨_,_,_,.inr (.inr ⟨p,rfl,ah⟩),rfl,rfl,?_⟩
  walk_at "rd"
  refine ⟨_,_,_,.inr (.inr ⟨p,rfl,ah⟩),rfl,rfl,?_⟩
  walk_at "rd"
  exact h
theorem Ep (T:Txt K mg t):Binds K t.rH ["places"] []:=T.vP.binds fun _ _ _ _ _ _ us hl=>match us,hl with | [_],_=>rfl
theorem AK {w:List Pl}:∀ {as bs:List Pl},w∈List.zipWith (fun p q=>[p,q]) as bs→∃ a∈as,∃ b∈bs,w= [a,b]
 | [],_,h=>by simp at h
 | a :: as,[],h=>by simp at h
 | a :: as,b :: bs,h=>by
   rw [List.zipWith_cons_cons] at h
   rcases List.mem_cons.mp h with h | h
   ·exact ⟨a,by simp,b,by simp,h⟩
   ·obtain ⟨x,hx,y,hy,e⟩:=AK h
    exact ⟨x,List.mem_cons_of_mem _ hx,y,List.mem_cons_of_mem _ hy,e⟩
theorem rZ {qs:List Pl} {q:Pl} (h:q∈aR qs):q∈qs:=by
 unfold aR at h
 split at h
 ·exact h
 ·rcases List.mem_append.mp h with h | h
  ·exact oh qs q (List.mem_reverse.mp (List.dropLast_subset _ h))
  ·exact List.mem_reverse.mp (oh _ q (List.mem_reverse.mp (List.dropLast_subset _ h)))
theorem BW {qs w:List Pl} (h:w∈cy (aR qs)):∃ a b,w= [a,b]∧a∈qs∧b∈qs:=by
 unfold cy at h
 split at h
 ·cases h
 ·obtain ⟨a,ha,b,hb,e⟩:=AK h
  refine ⟨a,b,e,rZ ha,rZ ?_⟩
  rcases List.mem_append.mp hb with hb | hb
  ·exact List.mem_of_mem_drop hb
  ·exact List.mem_of_mem_take hb
theorem zF (qs:List Pl):(cy (aR qs)).length≤2*qs.length:=by
 have l1:=eY qs
 have l2:=eY qs.reverse
 rw [List.length_reverse] at l2
 have:(aR qs).length≤2*qs.length:=by
  unfold aR
  split
  ·omega
  ·rw [List.length_append,List.length_dropLast,List.length_dropLast,List.length_reverse,List.length_reverse]
   omega
 unfold cy
 split
 ·exact Nat.zero_le _
 ·rw [List.length_zipWith]
  omega
theorem BX {α:Type} {f:α→List Pl} {xs:List α} {i:Nat} {x:α} (h:xs[i]?=some x):(xs.take (i+1)).map f=(xs.take i).map f ++ [f x]:=by
 rw [List.take_succ,h,List.map_append]
 rfl
def GD:pI:=fun ds M Q=> ∃ l:Addr,ds= [.ref l]∧∃ ps:List Pl,M l=some (.lst (ps.map Pl.d))∧ps.Nodup∧ps.length≤16∧(∀ q∈ps,q.Ok 140)∧∀ (p:Addr) (qs:List Pl) (ts:List (List Pl)),M p=none→qs.Perm ps→dj qs→ts.Perm (j5 qs qs.length)→ts.Pairwise (fun a b=>dX b a=false)→Q (.ref p) (aA M p (.lst (ts.map tD)))
theorem Er (T:Txt K mg t):b8 P w K mg base fZ 6 t.vK t.rH ["places"] (qc K GD):=by
 refine uQ T.vP ji (fun ds M Q h=>by (first | (obtain ⟨_,rfl,_⟩:=h;rfl) | (obtain ⟨_,_,rfl,_⟩:=h;rfl) | (obtain ⟨_,_,_,rfl,_⟩:=h;rfl) | (obtain ⟨_,_,_,_,rfl,_⟩:=h;rfl) | (obtain ⟨_,_,_,_,_,rfl,_⟩:=h;rfl) | (obtain ⟨_,_,_,_,_,_,rfl,_⟩:=h;rfl) | (obtain ⟨_,_,_,_,_,_,_,rfl,_⟩:=h;rfl))) (fun cdv A outer s H hr=>?_)
 have hu:=hr.units
 refine ⟨_,(au (aX (i:=1) ji.nd rfl (Or.inl rfl) (aD i9 (by rfl) T.cP bO (aa (af 0) ak)))
  (au (aX (i:=2) ji.nd rfl (Or.inl rfl) (cR ak))
  (au (gG PassesOwn.never rfl (by rfl) T.cO (aa (aD cF (by rfl) T.bM aI (aa (af 1) ak)) ak) (cT (i:=3) ji.nd rfl (Or.inl rfl)) (au (aX (i:=4) ji.nd rfl (Or.inr rfl) (aM (af 1) (af 3)))
  (au (Lm (j:=5) (m5 (ys:=["p"]) (fs:=[4]) rfl (by show cK (az kX) ["places","line","cover","k","p","seen"] _ _ _ _=true;decide +kernel) (bE (oQ T) (hr.mono (by decide)) (by rfl) T.pQ T.fX.kp (oO T) (aa (ja (af 1) Be (nY (af 3))) ak)) (fun cl C s0 H0 ex=>CT (aN (fM hu) (bg (v7 T) (hr.mono (by decide)) (by rfl) T.zB T.rN.kp (v5 T) (aa (aM (af 0) ai) (aa (aM (af 0) ai) (aa (af 1) ak)))) (jV ai) (aC _))) (fun cl C s0 H0 ex=>(af 0))) ji.nd rfl (Or.inl rfl))
  (aB (nW (G7 (af 2) (wU (m5 (ys:=["p"]) (fs:=[4]) rfl (by show cK (az kX) ["places","line","cover","k","p","seen"] _ _ _ _=true;decide +kernel) (af 5) (fun cl C s0 H0 ex=>qE) (fun cl C s0 H0 ex=>(bg (kW T) (hr.mono (by decide)) (by rfl) T.lV T.fF.kp (kU T) (aa (aM (af 0) ai) (aa (aM (af 0) ai) (aa (af 1) ak))))))) (wF PySem.F.plainAttrs_list PySem.F.slot_list_extend PySem.F.type_list_extend tR (cM.dn (af 2)) (kY (cM.dn (wU (m5 (ys:=["p"]) (fs:=[4]) rfl (by show cK (az kX) ["places","line","cover","k","p","seen"] _ _ _ _=true;decide +kernel) (af 5) (fun cl C s0 H0 ex=>qE) (fun cl C s0 H0 ex=>(bg (kW T) (hr.mono (by decide)) (by rfl) T.lV T.fF.kp (kU T) (aa (aM (af 0) ai) (aa (aM (af 0) ai) (aa (af 1) ak)))))))) nS))))))))
  (aB (aE (aD (n8 (n:=3) (.inr rfl) hu) (by rfl) T.cP bO (aa (af 2) ak))))))),fun ds M Q h=>?_⟩
 obtain ⟨l,rfl,ps,hM,nd,Sb,ho,h⟩:=h
 have sl:(1000:Nat) < sizeLine:=by decide
 walk_at "rd"
 refine ⟨l,ps,rfl,hM,by omega,fun a qs ha bI jj=>?_⟩
 have Sd:qs.Nodup:=bI.nodup_iff.mpr nd
 have strict:=Br jj Sd
 have oq:∀ q∈qs,q.Ok 140:=fun q hq=>ho q (bI.mem_iff.mp hq)
 have lq:qs.length≤16:=by rw [bI.length_eq];exact Sb
 have sO:dj qs:=⟨strict,fun q hq=>(oq q hq).2⟩
 have hA:aA M a (.lst (qs.map Pl.d)) a=some (.lst (qs.map Pl.d)):=ah
 have le:=Le.new (o:=MO.lst (qs.map Pl.d)) ha
 generalize aA M a (.lst (qs.map Pl.d))=M1 at hA le ⊢
 walk_at "rd"
 intro b hb
 have nb:M b=none:=le.free hb
 have nab:a≠b:=fun z=>by rw [← z,hA] at hb;cases hb
 have hA:=aj (u:=MO.lst []) hA hb
 have le:=le.trans (Le.new (o:=MO.lst []) hb)
 have hB:aA M1 b (.lst []) b=some (.lst []):=ah
 generalize aA M1 b (.lst [])=M2 at hA hB le ⊢
 walk_at "rd"
 refine ⟨_,_,rfl,.inr (.inr ⟨a,rfl,hA⟩),?_⟩
 rw [List.length_map]
 walk_at "rd"
 refine ⟨by omega,by omega,?_⟩
 refine aS (fun i ρ M'=> ∃ (y1 y2 y3:Option L3.D),ρ= [some (.ref l),some (.ref a),some (.ref b),y1,y2,y3]∧Le M M'∧M' a=some (.lst (qs.map Pl.d))∧M' b=some (.lst ((j5 qs i).map tD))) _ ?_ ?_ ⟨_,_,_,rfl,le,hA,hB⟩
 ·rintro i v ρ M' N vZ ⟨y1,y2,y3,rfl,le,hA,hB⟩ hN
  obtain ⟨hi,rfl⟩:=bL vZ
  have hi:i < qs.length:=by omega
  obtain ⟨p,hp⟩:∃ p,qs[i]?=some p:=⟨qs[i],List.getElem?_eq_getElem hi⟩
  have mp:=List.mem_of_getElem? hp
  have ep:p=jc qs i:=by unfold jc;rw [List.getD_eq_getElem?_getD,hp];rfl
  have lc:=qf sO i (by omega)
  refine ⟨trivial,?_⟩
  walk_at "rd"
  refine ⟨_,_,_,.inr (.inr ⟨a,rfl,hA⟩),rfl,bJ (by rw [List.getElem?_map,hp];rfl),?_⟩
  walk_at "rd"
  refine ⟨_,.of hA,fun c hc=>?_⟩
  have ec:cutD (qs.map Pl.d) none (some (i:Int))=(qs.take i).map Pl.d:=xo Pl.d qs i (by omega)
  rw [ec]
  have hA:=aj (u:=MO.lst ((qs.take i).map Pl.d)) hA hc
  have hB:=aj (u:=MO.lst ((qs.take i).map Pl.d)) hB hc
  have le:=le.trans (Le.new (o:=MO.lst ((qs.take i).map Pl.d)) hc)
  have hC:aA M' c (.lst ((qs.take i).map Pl.d)) c=some (.lst ((qs.take i).map Pl.d)):=ah
  generalize aA M' c (.lst ((qs.take i).map Pl.d))=M3 at hA hB hC le ⊢
  walk_at "rd"
  refine ⟨c,qs.take i,rfl,hC,by rw [List.length_take];omega,fun q hq=>oq q (List.mem_of_mem_take hq),fun d us hd oR se=>?_⟩
  obtain rfl:=nv oR se (jj.sublist (List.take_sublist _ _))
  have hW:∀ w∈cy (aR (qs.take i)),∃ x y,w= [x,y]∧x∈qs∧y∈qs:=fun w hw=>by
   obtain ⟨x,y,e,hx,hy⟩:=BW hw
   exact ⟨x,y,e,List.mem_of_mem_take hx,List.mem_of_mem_take hy⟩
  have lw:=zF (qs.take i)
  rw [List.length_take] at lw
  have lw:(cy (aR (qs.take i))).length≤32:=by omega
  obtain ⟨ws,Qt⟩:∃ ws,SL (qs.take i)=ws:=⟨_,rfl⟩
  rw [show cy (aR (qs.take i))=ws from Qt] at hW lw ⊢
  have hA:=aj (u:=MO.lst (ws.map tD)) hA hd
  have hB:=aj (u:=MO.lst (ws.map tD)) hB hd
  have le:=le.trans (Le.new (o:=MO.lst (ws.map tD)) hd)
  have hD:aA M3 d (.lst (ws.map tD)) d=some (.lst (ws.map tD)):=ah
  generalize aA M3 d (.lst (ws.map tD))=M4 at hA hB hD le ⊢
  refine ⟨d,_,rfl,hD,by rw [List.length_map];omega,bf.mk (dP (fun j acc M5=>M5=M4∧acc=((ws.take j).filter (yv p)).map tD) _ ?_ ?_ ⟨rfl,rfl⟩)⟩
  ·rintro j v acc M5 N2 nL ⟨rfl,rfl⟩ wk
   obtain ⟨w',hw,rfl⟩:=jA nL
   obtain ⟨x,y,rfl,mx,my⟩:=hW w' (List.mem_of_getElem? hw)
   refine ⟨hD,?_⟩
   refine ⟨_,rfl,?_⟩
   refine ⟨_,_,_,Or.inl rfl,rfl,rfl,?_⟩
   refine ⟨_,rfl,?_⟩
   refine ⟨_,_,_,Or.inl rfl,rfl,rfl,?_⟩
   walk_at "rd"
   refine ⟨oq x mx,oq y my,oq p mp,?_⟩
   walk_at "rd"
   rw [eB]
   refine bB (fun k=>?_) (fun k=>?_)
   ·have k:tw x y p < 0:=Int.sign_eq_neg_one_iff_neg.mp (eq_of_beq k)
    walk_at "rd"
    refine wk _ _ ⟨rfl,?_⟩
    rw [ia hw,if_pos (show yv p [x,y]=true from decide_eq_true k),List.map_append]
    rfl
   ·have k:¬ tw x y p < 0:=fun z=>k (by rw [Int.sign_eq_neg_one_of_neg z];rfl)
    refine wk _ _ ⟨rfl,?_⟩
    rw [ia hw,if_neg (fun z:yv p [x,y]=true=>k (of_decide_eq_true z)),List.append_nil]
  ·rintro acc M5 ⟨rfl,rfl⟩
   refine ⟨hD,fun f hf=>?_⟩
   rw [List.length_map,List.take_length]
   have hS:∀ w∈ws.filter (yv p),∃ x y,w= [x,y]∧x∈qs∧y∈qs∧tw x y p < 0:=fun w hw=>by
    obtain ⟨hw,sw⟩:=List.mem_filter.mp hw
    obtain ⟨x,y,rfl,mx,my⟩:=hW w hw
    exact ⟨x,y,rfl,mx,my,of_decide_eq_true sw⟩
   have ls:(ws.filter (yv p)).length≤32:=Nat.le_trans (List.length_filter_le _ _) lw
   obtain ⟨ss,Qu⟩:∃ ss,ws.filter (yv p)=ss:=⟨_,rfl⟩
   rw [Qu] at hS ls ⊢
   have hA:=aj (u:=MO.lst (ss.map tD)) hA hf
   have hB:=aj (u:=MO.lst (ss.map tD)) hB hf
   have le:=le.trans (Le.new (o:=MO.lst (ss.map tD)) hf)
   have hF:aA M5 f (.lst (ss.map tD)) f=some (.lst (ss.map tD)):=ah
   generalize aA M5 f (.lst (ss.map tD))=M6 at hA hB hF le ⊢
   walk_at "rd"
   refine ⟨⟨b,_,rfl,hB⟩,?_⟩
   walk_at "rd"
   refine ⟨f,_,rfl,hF,by rw [List.length_map];omega,bf.mk (dP (fun j acc M5=>M5=M6∧acc=((ss.take j).map (xD p)).map tD) _ ?_ ?_ ⟨rfl,rfl⟩)⟩
   ·rintro j v acc M5 N2 nL ⟨rfl,rfl⟩ wk
    obtain ⟨w',hw,rfl⟩:=jA nL
    obtain ⟨x,y,rfl,mx,my,sx⟩:=hS w' (List.mem_of_getElem? hw)
    refine ⟨hF,?_⟩
    walk_at "rd"
    refine ⟨oq x mx,oq y my,oq p mp,by omega,?_⟩
    walk_at "rd"
    refine wk _ _ ⟨rfl,?_⟩
    rw [BX hw,List.map_append]
    rfl
   ·rintro acc M5 ⟨rfl,rfl⟩
    refine ⟨hF,fun g hg=>?_⟩
    rw [List.length_map,List.take_length]
    have Tv:b≠g:=fun z=>by rw [z,hg] at hB;cases hB
    refine ⟨b,g,_,_,rfl,rfl,aj hB hg,ah,by rw [List.length_map,List.length_map,List.length_map];omega,?_⟩
    rw [← List.map_append]
    have en:j5 qs (i+1)=j5 qs i ++ ss.map (xD p):=by
     show j5 qs i ++ (bZ (qs.take i) (jc qs i)).map (xD (jc qs i))=_
     rw [← ep]
     unfold bZ
     rw [Qt,Qu]
    rw [← en]
    refine hN _ _ ⟨_,_,_,rfl,fun x o e=>?_,?_,ah⟩
    ·rw [bC (fun z=>by rw [z,nb] at e;cases e)]
     exact aj (le _ _ e) hg
    ·rw [bC nab]
     exact aj hA hg
 ·rintro ρ M' ⟨y1,y2,y3,rfl,le,hA,hB⟩
  refine ⟨trivial,?_⟩
  rw [List.length_map,List.length_range,show ((qs.length:Int)).toNat=qs.length by omega] at hB
  have lc:=qf sO qs.length (Nat.le_refl _)
  walk_at "rd"
  refine ⟨b,_,rfl,hB,fun t ht=>?_,by omega,fun g rs hg JG JH=>?_⟩
  ·obtain ⟨⟨u,v,w,e,_⟩,_⟩:=vp sO qs.length (Nat.le_refl _) t ht
   rw [e]
   rfl
  exact bf.mk ⟨_,le.put,h g qs rs (le.free hg) bI sO JG JH⟩
theorem tH (T:Txt K mg t):Binds K t.iT ["_law_cover_here"] []:=T.jT.binds fun _ _ _ _ _ _ us hl=>match us,hl with | [_],_=>rfl
def nO:List Pl→List (List Pl)
 | [a,b,c]=>[[a,c],[b,a],[c,b]]
 | _=>[]
theorem ym (ts:List (List Pl)):(ts.flatMap nO).length≤3*ts.length:=by
 induction ts with
 | nil=>simp
 | cons t r ih=>
   rw [List.flatMap_cons,List.length_append,List.length_cons]
   have:(nO t).length≤3:=by unfold nO;split <;> simp
   omega
theorem BY {Q:List Pl} {ts:List (List Pl)} (h:∀ t∈ts,nQ Q t) (s:List Pl):s∈(ts.flatMap nO).map bS↔s∈(bq ts).map bS:=by
 have key:∀ t∈ts,∀ s,s∈(nO t).map bS↔s∈(eZ t).map bS:=fun t ht s=>by
  obtain ⟨a,b,c,rfl,_,_,_,_,n1,n2,n3⟩:=(h t ht).parts
  show s∈[bS [a,c],bS [b,a],bS [c,b]]↔s∈[bS [a,b],bS [b,c],bS [c,a]]
  rw [qi n3,qi n1,qi n2]
  simp only [List.mem_cons,List.not_mem_nil,or_false]
  constructor
  ·rintro (z | z | z)
   ·exact .inr (.inr z)
   ·exact .inl z
   ·exact .inr (.inl z)
  ·rintro (z | z | z)
   ·exact .inr (.inl z)
   ·exact .inr (.inr z)
   ·exact .inl z
 unfold bq
 rw [List.map_flatMap,List.map_flatMap,List.mem_flatMap,List.mem_flatMap]
 exact ⟨fun ⟨t,ht,m⟩=>⟨t,ht,(key t ht s).mp m⟩,fun ⟨t,ht,m⟩=>⟨t,ht,(key t ht s).mpr m⟩⟩
def v9:pI:=fun ds M Q=> ∃ l:Addr,ds= [.ref l]∧∃ (Qs:List Pl) (ts:List (List Pl)),M l=some (.lst (ts.map tD))∧(∀ t∈ts,nQ Qs t)∧ts.length≤20∧∀ (p:Addr) (qs:List (List Pl)),M p=none→qs.Nodup→(∀ s,s∈qs↔s∈(bq ts).map bS)→qs.Pairwise (fun p q=>dX q p=false)→Q (.ref p) (aA M p (.lst (qs.map tD)))
theorem tK (T:Txt K mg t):b8 P w K mg base fZ 1 t.jL t.iT ["_law_cover_here"] (qc K v9):=by
 refine uQ T.jT dF (fun ds M Q h=>by (first | (obtain ⟨_,rfl,_⟩:=h;rfl) | (obtain ⟨_,_,rfl,_⟩:=h;rfl) | (obtain ⟨_,_,_,rfl,_⟩:=h;rfl) | (obtain ⟨_,_,_,_,rfl,_⟩:=h;rfl) | (obtain ⟨_,_,_,_,_,rfl,_⟩:=h;rfl) | (obtain ⟨_,_,_,_,_,_,rfl,_⟩:=h;rfl) | (obtain ⟨_,_,_,_,_,_,_,rfl,_⟩:=h;rfl))) (fun cdv A outer s H hr=>?_)
 have hu:=hr.units
 refine ⟨_,(au (aX (i:=1) dF.nd rfl (Or.inl rfl) (cR ak))
  (au (uP PassesOwn.never rfl (af 0) (cT (i:=2) dF.nd rfl (Or.inl rfl)) (aB (gG PassesOwn.never rfl (by rfl) T.cO (aa ai ak) (cT (i:=3) dF.nd rfl (Or.inl rfl)) (au (aX (i:=4) dF.nd rfl (Or.inl rfl) (dg (aa (aD (Lc hu rfl) (by rfl) T.zC nX (aa (aM (af 2) (af 3)) (aa (aM (af 2) (aq bX (af 3) ai)) ak))) (aa (aD (Ld hu rfl) (by rfl) T.Ek tW (aa (aM (af 2) (af 3)) (aa (aM (af 2) (aq bX (af 3) ai)) ak))) ak))))
  (aB (bT (aN (uO hu) (af 4) (af 1) (by with_unfolding_all rfl)) (aB (nW (CD (af 1) (af 4) (wF PySem.F.plainAttrs_list PySem.F.slot_list_append PySem.F.type_list_append kZ (cM.dn (af 1)) (kY (cM.dn (af 4)) nS))))) aT))))))
  (aB (aE (aD (n8 (n:=2) (.inl rfl) hu) (by rfl) T.cP bO (aa (af 1) ak)))))),fun ds M Q h=>?_⟩
 obtain ⟨l,rfl,Qs,ts,hM,hT,Mx,h⟩:=h
 have sl:(1000:Nat) < sizeLine:=by decide
 generalize h3:(3:Int)=n3
 walk_at "rd"
 intro p hp
 have My:l≠p:=fun z=>by rw [← z,hM] at hp;cases hp
 walk_at "rd"
 refine ⟨l,_,rfl,aj hM hp,?_⟩
 refine aS (fun i ρ M'=> ∃ (fd:List (List Pl)) (y1 y2 y3:Option L3.D),ρ= [some (.ref l),some (.ref p),y1,y2,y3]∧fd.Nodup∧(∀ s,s∈fd↔s∈((ts.take i).flatMap nO).map bS)∧M'=aA M p (.lst (fd.map tD))) _ ?_ ?_ ⟨[],_,_,_,rfl,List.nodup_nil,by simp,rfl⟩
 ·rintro i x ρ M' N hx ⟨fd,y1,y2,y3,rfl,nd,mem,rfl⟩ hN
  obtain ⟨t,ht,rfl⟩:=jA hx
  have mt:=List.mem_of_getElem? ht
  obtain ⟨a,b,c,rfl,_⟩:=(hT t mt).parts
  have li:i < ts.length:=(List.getElem?_eq_some_iff.mp ht).1
  refine ⟨by rw [bC My];exact hM,?_⟩
  walk_at "rd"
  refine ⟨by omega,by omega,?_⟩
  refine aS (fun j ρ M'=> ∃ (gd:List (List Pl)) (y2 y3:Option L3.D),ρ= [some (.ref l),some (.ref p),some (tD [a,b,c]),y2,y3]∧gd.Nodup∧(∀ s,s∈gd↔s∈((ts.take i).flatMap nO ++ (nO [a,b,c]).take j).map bS)∧M'=aA M p (.lst (gd.map tD))) _ ?_ ?_ ⟨fd,_,_,rfl,nd,by rw [List.take_zero,List.append_nil];exact mem,rfl⟩
  ·rintro j x ρ M' N2 nL ⟨gd,z2,z3,rfl,nd,mem,rfl⟩ wk
   obtain ⟨hj,rfl⟩:=bL nL
   have hj:j < 3:=by omega
   refine ⟨trivial,?_⟩
   have bound:gd.length≤62:=by
    have:=sub_len nd fun s hs=>(mem s).mp hs
    rw [List.length_map,List.length_append,List.length_take] at this
    have l1:=ym (ts.take i)
    rw [List.length_take] at l1
    have:(nO [a,b,c]).length=3:=rfl
    omega
   have step:∀ u v:Pl,(nO [a,b,c])[j]?=some [u,v]→bS [u,v]= [lo u v,hi u v]∧∀ s,s∈((ts.take i).flatMap nO ++ (nO [a,b,c]).take (j+1)).map bS↔s∈gd∨s= [lo u v,hi u v]:=fun u v e=>by
    refine ⟨rfl,fun s=>?_⟩
    rw [List.take_succ,e,← List.append_assoc,List.map_append,List.mem_append,← mem s]
    simp [bS]
   obtain ⟨u,v,e1,e2,e3⟩:∃ u v:Pl,oV [a.d,b.d,c.d] (j:Int)=some u.d∧oV [a.d,b.d,c.d] ((j:Int) - 1)=some v.d∧(nO [a,b,c])[j]?=some [u,v]:=by
    have:j=0∨j=1∨j=2:=by omega
    rcases this with rfl | rfl | rfl
    ·exact ⟨a,c,rfl,rfl,rfl⟩
    ·exact ⟨b,a,rfl,rfl,rfl⟩
    ·exact ⟨c,b,rfl,rfl,rfl⟩
   obtain ⟨_,step⟩:=step u v e3
   walk_at "rd"
   refine ⟨_,_,_,Or.inl rfl,rfl,e1,?_⟩
   walk_at "rd"
   refine ⟨_,_,_,Or.inl rfl,rfl,e2,?_⟩
   walk_at "rd"
   refine ⟨_,_,_,Or.inl rfl,rfl,e1,?_⟩
   walk_at "rd"
   refine ⟨_,_,_,Or.inl rfl,rfl,e2,?_⟩
   walk_at "rd"
   refine ⟨_,.inr ⟨p,rfl,ah⟩,uf [lo u v,hi u v],cW gd,?_⟩
   walk_at "rd"
   show (if (if true=true then !inD (tD [lo u v,hi u v]) (gd.map tD) else inD (tD [lo u v,hi u v]) (gd.map tD))=true then _ else _)
   rw [Ar,if_pos rfl]
   refine bB (fun k=>?_) (fun k=>?_)
   ·have k: [lo u v,hi u v]∉gd:=fun z=>by rw [decide_eq_true z] at k;cases k
    walk_at "rd"
    refine ⟨⟨p,_,rfl,ah⟩,?_⟩
    walk_at "rd"
    refine ⟨p,_,rfl,ah,by rw [List.length_map];omega,?_⟩
    rw [kj]
    refine wk _ _ ⟨gd ++ [[lo u v,hi u v]],_,_,rfl,?_,fun s=>?_,by rw [List.map_append];rfl⟩
    ·rw [List.nodup_append]
     exact ⟨nd,by simp,fun a ha b hb e=>by rw [List.mem_singleton.mp hb] at e;subst e;exact k ha⟩
    ·rw [step s,List.mem_append,List.mem_singleton]
   ·have k: [lo u v,hi u v]∈gd:=Classical.byContradiction fun z=>k (by rw [decide_eq_false z];rfl)
    refine wk _ _ ⟨gd,_,_,rfl,nd,fun s=>?_,rfl⟩
    rw [step s]
    exact ⟨.inl,fun z=>z.elim id fun e=>e▸k⟩
  ·rintro ρ M' ⟨gd,z2,z3,rfl,nd,mem,rfl⟩
   refine ⟨trivial,?_⟩
   refine hN _ _ ⟨gd,_,_,_,rfl,nd,fun s=>?_,rfl⟩
   rw [mem s,List.take_succ,ht]
   simp [nO,h3.symm]
 ·rintro ρ M' ⟨fd,y1,y2,y3,rfl,nd,mem,rfl⟩
  refine ⟨by rw [bC My];exact hM,?_⟩
  rw [List.length_map,List.take_length] at mem
  have bound:fd.length≤62:=by
   have:=sub_len nd fun s hs=>(mem s).mp hs
   rw [List.length_map] at this
   have l1:=ym ts
   omega
  have D5:∀ s,s∈fd↔s∈(bq ts).map bS:=fun s=>(mem s).trans (BY hT s)
  walk_at "rd"
  refine ⟨p,fd,rfl,ah,fun s hs=>?_,by omega,fun q qs hq bI hso=>?_⟩
  ·obtain ⟨w,hw,rfl⟩:=List.mem_map.mp ((D5 s).mp hs)
   obtain ⟨u,v,rfl,_⟩:=nu w hw
   rfl
  ·exact bf.mk ⟨_,(Le.new hp).put,h q qs ((Le.new hp).free hq) (bI.nodup_iff.mpr nd) (fun s=>by rw [bI.mem_iff];exact D5 s) hso⟩
theorem O9 (T:Txt K mg t):Binds K t.zx ["_law_script"] []:=T.Hj.binds fun _ _ _ _ _ _ us hl=>match us,hl with | [_],_=>rfl
abbrev Es:=C4
def AL (qs:List Pl) (n:Nat) (us:List (List Pl)):Prop:=(¬ Flat qs→jf qs us∧us.length=n)∧(Flat qs→us= [])
theorem zG {qs:List Pl} {n:Nat} {us vs:List (List Pl)} (h:AL qs n us) (r:yg us vs):AL qs n vs:=by
 refine ⟨fun nf=>?_,fun fl=>?_⟩
 ·obtain ⟨h1,h2⟩:=h.1 nf
  obtain ⟨h3,h4⟩:=yh h1 nf r
  exact ⟨h3,h4.trans h2⟩
 ·have e:=h.2 fl
  subst e
  rcases r with r | ⟨_,_,_,_,_,_,m,_⟩
  ·exact r
  ·cases m
theorem zH {ts ss:List (List Pl)} (mem:∀ s,s∈ss↔s∈(bq ts).map bS):(ss.map tD).all (sJ 3)=true:=by
 rw [List.all_map,List.all_eq_true]
 intro s hs
 obtain ⟨w,hw,rfl⟩:=List.mem_map.mp ((mem s).mp hs)
 obtain ⟨u,v,rfl,_⟩:=nu w hw
 rfl
theorem GF (rs:List Pl):((prs rs).map tD).all (sJ 3)=true:=by
 rw [List.all_map,List.all_eq_true]
 intro s hs
 obtain ⟨u,v,rfl,_⟩:=qO _ _ hs
 rfl
theorem AM {bd:List Pl} {i:Nat} (h:i < bd.length):jc bd i∈bd:=by
 unfold jc
 rw [List.getD_eq_getElem?_getD,List.getElem?_eq_getElem h]
 exact List.getElem_mem h
theorem wc {bd:List Pl} {i:Nat} (h:i < bd.length):oV (bd.map Pl.d) (i:Int)=some (jc bd i).d:=by
 refine bJ ?_
 rw [List.getElem?_map,List.getElem?_eq_getElem h]
 unfold jc
 rw [List.getD_eq_getElem?_getD,List.getElem?_eq_getElem h]
 rfl
theorem yo {bd:List Pl} (h:bd≠[]):zl bd 0=lz bd:=by
 unfold zl lz
 rw [if_pos rfl]
theorem GG {bd:List Pl} {i:Nat} (h:i < bd.length):zl bd i∈bd:=by
 have hne:bd≠[]:=fun z=>by rw [z] at h;simp at h
 cases i with
 | zero=>rw [yo hne];exact yS hne
 | succ i=>exact AM (i:=i) (by omega)
theorem JI {bd:List Pl} {i:Nat} (h:i < bd.length):oV (bd.map Pl.d) ((i:Int) - 1)=some (zl bd i).d:=by
 have hne:bd≠[]:=fun z=>by rw [z] at h;simp at h
 cases i with
 | zero=>rw [yo hne];exact G6 hne
 | succ i=>
   have e:((i+1:Nat):Int) - 1=(i:Int):=by omega
   rw [e]
   exact wc (i:=i) (by omega)
theorem Et:∀ {rs:List Pl} {j:Nat},j+1 < rs.length→(prs rs)[j]?=some [jc rs j,jc rs (j+1)]
 | a :: b :: r,0,_=>rfl
 | a :: b :: r,j+1,h=>Et (rs:=b :: r) (j:=j) (by simpa using h)
 | [a],j,h=>absurd h (by simp)
 | [],j,h=>absurd h (by simp)
theorem JJ (T:Txt K mg t):b8 P w K mg base fZ 7 t.Ej t.zx ["_law_script"] (wg K Es):=by
 refine A4 T.Hj dM (fun ds Q h=>by (first | (obtain ⟨_,rfl,_⟩:=h;rfl) | (obtain ⟨_,_,rfl,_⟩:=h;rfl) | (obtain ⟨_,_,_,rfl,_⟩:=h;rfl) | (obtain ⟨_,_,_,_,rfl,_⟩:=h;rfl) | (obtain ⟨_,_,_,_,_,rfl,_⟩:=h;rfl) | (obtain ⟨_,_,_,_,_,_,rfl,_⟩:=h;rfl) | (obtain ⟨_,_,_,_,_,_,_,rfl,_⟩:=h;rfl))) (fun cdv A outer s H hr=>?_)
 have hu:=hr.units
 refine ⟨_,(au (aX (i:=1) dM.nd rfl (Or.inl rfl) (bE (rP T) (hr.mono (by decide)) (by rfl) T.sP T.iU.kp (rO T) (aa (af 0) (aa ai ak))))
  (au (aX (i:=2) dM.nd rfl (Or.inl rfl) (bE (tF T) (hr.mono (by decide)) (by rfl) T.vO T.jR.kp (tE T) (aa (af 0) (aa ai (aa (wJ qF (by rfl) T.cD bx (aa (bE (Er T) (hr.mono (by decide)) (by rfl) T.Gr T.vP.kp (Ep T) (aa (wJ qF (by rfl) T.cD bx (aa (af 1) ak)) ak)) ak)) ak)))))
  (au (aX (i:=3) dM.nd rfl (Or.inl rfl) (cR (aa (wJ qF (by rfl) T.cD bx (aa (af 1) ak)) (aa (wJ qF (by rfl) T.cD bx (aa (af 2) ak)) ak))))
  (au (aX (i:=4) dM.nd rfl (Or.inl rfl) (bE (pB T) (hr.mono (by decide)) (by rfl) T.rM T.jS.kp (pA T) (aa (aM (af 3) ai) ak)))
  (au (aX (i:=5) dM.nd rfl (Or.inl rfl) (bE (Gx T) (hr.mono (by decide)) (by rfl) T.Jw T.zy.kp (Gw T) (aa (aM (af 3) ai) (aa (aM (af 3) ai) ak))))
  (au (aX (i:=6) dM.nd rfl (Or.inl rfl) (bE (GA T) (hr.mono (by decide)) (by rfl) T.Jx T.zz.kp (Gz T) (aa (aM (af 3) ai) ak)))
  (au (bT (oX.pt (qo (aN (Gf hu) (af 3) (cR (aa (af 1) (aa (af 2) ak))) (aC _)) (lH (k_not (gY (bE (dG T) (hr.mono (by decide)) (by rfl) T.bU T.aU.kp (bP T) (aa (af 4) (aa (bE (tK T) (hr.mono (by decide)) (by rfl) T.vQ T.jT.kp (tH T) (aa (af 2) ak)) ak)))))))) (aB (aE jv)) aT)
  (au (bT (gY (bE (oN T) (hr.mono (by decide)) (by rfl) T.pP T.fW.kp (oM T) (aa (af 1) ak))) (au (aX (i:=7) dM.nd rfl (Or.inr rfl) (aD i9 (by rfl) T.cP bO (aa (af 1) ak)))
  (au (Lm (j:=8) (Ln (ys:=["_law_row"]) (fs:=[7]) rfl (by show cK (az zK) ["_law_script","_law_places_here","_law_cover_here","_law_handed","_law_sides_here","_law_told","_law_size","_law_row","_law_due","_law_border","_law_inner","_law_k","_law_one","_law_other"] _ _ _ _=true;decide +kernel) (by rfl) T.cO (aa (aq bX (aD cF (by rfl) T.bM aI (aa (af 7) ak)) ai) ak) (fun cl C s0 H0 ex=>qE) (fun cl C s0 H0 ex=>(dg (aa (aM (af 1) (af 0)) (aa (aM (af 1) (aq fJ (af 0) ai)) ak))))) dM.nd rfl (Or.inl rfl))
  (aB (aE (gE (gX (CY hu) (af 2) (cR ak) (aC _)) (gE (bE (dG T) (hr.mono (by decide)) (by rfl) T.bU T.aU.kp (bP T) (aa (af 6) (aa ai ak))) (lJ (bE (dG T) (hr.mono (by decide)) (by rfl) T.bU T.aU.kp (bP T) (aa (af 5) (aa (af 8) ak)))))))))) aT)
  (au (aX (i:=9) dM.nd rfl (Or.inl rfl) (bE (rV T) (hr.mono (by decide)) (by rfl) T.uC T.lB.kp (rT T) (aa (wJ qF (by rfl) T.cD bx (aa (af 1) ak)) ak)))
  (au (bT (aN (l0 hu) (aD cF (by rfl) T.bM aI (aa (af 2) ak)) (aq bX (aq bX (aq gF ai (aD cF (by rfl) T.bM aI (aa (af 1) ak))) ai) (aD cF (by rfl) T.bM aI (aa (af 9) ak))) (aC _)) (aB (aE jv)) aT)
  (au (bT (aN (l0 hu) (aD cF (by rfl) T.bM aI (aa (af 4) ak)) (aq bX (aq bX (aq gF ai (aD cF (by rfl) T.bM aI (aa (af 1) ak))) ai) (aD cF (by rfl) T.bM aI (aa (af 9) ak))) (aC _)) (aB (aE jv)) aT)
  (au (aX (i:=10) dM.nd rfl (Or.inl rfl) ai)
  (au (gG PassesOwn.never rfl (by rfl) T.cO (aa (aD cF (by rfl) T.bM aI (aa (af 9) ak)) ak) (cT (i:=11) dM.nd rfl (Or.inl rfl)) (au (aX (i:=12) dM.nd rfl (Or.inl rfl) (aM (af 9) (aq bX (af 11) ai)))
  (au (aX (i:=13) dM.nd rfl (Or.inl rfl) (aM (af 9) (af 11)))
  (aB (aX (i:=10) dM.nd rfl (Or.inl rfl) (aq bX (aq fJ (af 10) (aq gF (aM (af 12) ai) (aM (af 13) ai))) (aq gF (aM (af 12) ai) (aM (af 13) ai))))))))
  (aB (aE (gE (bE (dG T) (hr.mono (by decide)) (by rfl) T.bU T.aU.kp (bP T) (aa (af 5) (aa (af 4) ak))) (lJ (bE (dG T) (hr.mono (by decide)) (by rfl) T.bU T.aU.kp (bP T) (aa (af 6) (aa (af 10) ak)))))))))))))))))))),fun ds Q h=>?_⟩
 obtain ⟨ns,rfl,hl,hb,h⟩:=h
 have sl:(1000:Nat) < sizeLine:=by decide
 walk_at "rd"
 refine ⟨hb,hl,by decide,by decide,fun l ps Tw nd ho hlen=>?_⟩
 have zI:∀ q∈ps,q.Ok 140:=fun q hq=>⟨(ho q hq).1.le (by decide),(ho q hq).2.le (by decide)⟩
 have Se:ps.length≤16:=by omega
 have h64:ps.length < 64:=by omega
 have hM:aA KC l (.lst (ps.map Pl.d)) l=some (.lst (ps.map Pl.d)):=ah
 generalize aA KC l (.lst (ps.map Pl.d))=M0 at hM ⊢
 walk_at "rd"
 refine ⟨_,_,rfl,.of hM,fun l2 hl2=>?_⟩
 have hL:aA M0 l2 (.lst (ps.map Pl.d)) l2=some (.lst (ps.map Pl.d)):=ah
 have hM:=aj (u:=MO.lst (ps.map Pl.d)) hM hl2
 generalize aA M0 l2 (.lst (ps.map Pl.d))=M1 at hM hL ⊢
 walk_at "rd"
 refine ⟨ps,hL,nd,Se,zI,fun f qs ts hf bI sO LV hst=>?_⟩
 have hF:aA M1 f (.lst (ts.map tD)) f=some (.lst (ts.map tD)):=ah
 have hM:=aj (u:=MO.lst (ts.map tD)) hM hf
 generalize aA M1 f (.lst (ts.map tD))=M2 at hM hF ⊢
 have MA:∀ t∈ts,nQ qs t:=fun t ht=>vp sO qs.length (Nat.le_refl _) t (LV.mem_iff.mp ht)
 have hTI:∀ t∈ts,nQ ps t:=fun t ht=>⟨(MA t ht).1,fun q hq=>bI.mem_iff.mp ((MA t ht).2 q hq)⟩
 have lT:ts.length≤20:=by
  have:=qf sO qs.length (Nat.le_refl _)
  have e1:=LV.length_eq
  have e2:=bI.length_eq
  omega
 have I0:AL qs ts.length ts:=⟨fun _=>⟨⟨sO,vo.perm (by have:=Au sO qs.length (Nat.le_refl _);rw [List.take_length] at this;exact this) (List.Perm.flatMap_right _ LV),MA⟩,rfl⟩,fun fl=>by
  cases e:ts with
  | nil=>rfl
  | cons t0 tr=>
    obtain ⟨u,v,w,et,pos,sM,hv',Sf,_⟩:=(MA t0 (by rw [e];simp)).parts
    have:=fl u sM v hv' w Sf
    omega⟩
 walk_at "rd"
 refine ⟨_,_,rfl,.of hF,fun c2 hc2=>?_⟩
 have Pa:aA M2 c2 (.lst (ts.map tD)) c2=some (.lst (ts.map tD)):=ah
 have hM:=aj (u:=MO.lst (ts.map tD)) hM hc2
 generalize aA M2 c2 (.lst (ts.map tD))=M3 at hM Pa ⊢
 walk_at "rd"
 refine ⟨hb,hl,by decide,by decide,ps,ts,Pa,hTI,lT,zI,AL qs ts.length,I0,fun us vs=>zG,fun c3 us M4 le hU hTU lU hI=>?_⟩
 have hM:=le _ _ hM
 have JZ:∀ t∈us,Tr t:=fun t ht=>(hTU t ht).tr zI
 have Qv:∀ t∈us,G2 t:=JZ
 have LW:¬ Flat qs→ts.length+(aR qs).length+2=2*ps.length∧ts≠[]:=fun nf=>by
  have h2:2≤qs.length:=by
   apply Classical.byContradiction
   intro z
   exact nf (jC (by omega))
  have c:=BQ sO h2
  rw [LV.length_eq,← bI.length_eq]
  refine ⟨c,fun z=>?_⟩
  cases e:qs with
  | nil=>rw [e] at h2;simp at h2
  | cons q qr=>
    obtain ⟨t,ht,_⟩:=qU sO qs.length (Nat.le_refl _) (by rw [List.take_length];exact nf) q (by rw [List.take_length,e];simp)
    have ht:=LV.mem_iff.mpr ht
    rw [z] at ht
    cases ht
 clear Pa hF hL I0 le
 walk_at "rd"
 refine ⟨_,_,rfl,.of hM,fun l3 hl3=>?_⟩
 have n1:l3≠l:=fun z=>by rw [z,hM] at hl3;cases hl3
 have hH:aA M4 l3 (.lst (ps.map Pl.d)) l3=some (.lst (ps.map Pl.d)):=ah
 have hM:=aj (u:=MO.lst (ps.map Pl.d)) hM hl3
 have hU:=aj (u:=MO.lst (ps.map Pl.d)) hU hl3
 generalize aA M4 l3 (.lst (ps.map Pl.d))=M5 at hM hU hH ⊢
 walk_at "rd"
 refine ⟨_,_,rfl,.of hU,fun l4 LX=>?_⟩
 have n2:l4≠c3:=fun z=>by rw [z,hU] at LX;cases LX
 have hW:aA M5 l4 (.lst (us.map tD)) l4=some (.lst (us.map tD)):=ah
 have hM:=aj (u:=MO.lst (us.map tD)) hM LX
 have hU:=aj (u:=MO.lst (us.map tD)) hU LX
 have hH:=aj (u:=MO.lst (us.map tD)) hH LX
 generalize aA M5 l4 (.lst (us.map tD))=M6 at hM hU hH hW ⊢
 walk_at "rd"
 intro g hg
 have hG:aA M6 g (.lst [.ref l3,.ref l4]) g=some (.lst [.ref l3,.ref l4]):=ah
 have hM:=aj (u:=MO.lst [.ref l3,.ref l4]) hM hg
 have hU:=aj (u:=MO.lst [.ref l3,.ref l4]) hU hg
 have hH:=aj (u:=MO.lst [.ref l3,.ref l4]) hH hg
 have hW:=aj (u:=MO.lst [.ref l3,.ref l4]) hW hg
 generalize aA M6 g (.lst [.ref l3,.ref l4])=M7 at hM hU hH hW hG ⊢
 walk_at "rd"
 refine ⟨_,_,_,.inr (.inr ⟨g,rfl,hG⟩),rfl,bJ (j:=1) rfl,?_⟩
 refine ⟨l4,rfl,us,hW,JZ,lU,fun p1 ss hp1 LY yp Jc=>?_⟩
 have Tz:ss.length≤60:=by
  have:=sub_len LY fun s hs=>(yp s).mp hs
  rw [List.length_map] at this
  have:=nt us
  omega
 have hP:aA M7 p1 (.lst (ss.map tD)) p1=some (.lst (ss.map tD)):=ah
 have hM:=aj (u:=MO.lst (ss.map tD)) hM hp1
 have hU:=aj (u:=MO.lst (ss.map tD)) hU hp1
 have hH:=aj (u:=MO.lst (ss.map tD)) hH hp1
 have hW:=aj (u:=MO.lst (ss.map tD)) hW hp1
 have hG:=aj (u:=MO.lst (ss.map tD)) hG hp1
 generalize aA M7 p1 (.lst (ss.map tD))=M8 at hM hU hH hW hG hP ⊢
 walk_at "rd"
 refine ⟨_,_,_,.inr (.inr ⟨g,rfl,hG⟩),rfl,bJ (j:=0) rfl,?_⟩
 walk_at "rd"
 refine ⟨_,_,_,.inr (.inr ⟨g,rfl,hG⟩),rfl,bJ (j:=1) rfl,?_⟩
 refine ⟨l3,l4,rfl,ps,us,hH,hW,JZ,lU,h64,fun p2 ks hp2 Sg Sh Pb Si=>?_,fun p2 rs hp2 ue JK JL=>?_⟩
 ·obtain rfl:=ic (dR LY Sh fun s=>(yp s).trans (Pb s).symm) Jc Si
  have hK:aA M8 p2 (.lst (ss.map tD)) p2=some (.lst (ss.map tD)):=ah
  have hM:=aj (u:=MO.lst (ss.map tD)) hM hp2
  have hU:=aj (u:=MO.lst (ss.map tD)) hU hp2
  have hH:=aj (u:=MO.lst (ss.map tD)) hH hp2
  have hW:=aj (u:=MO.lst (ss.map tD)) hW hp2
  have hG:=aj (u:=MO.lst (ss.map tD)) hG hp2
  have hP:=aj (u:=MO.lst (ss.map tD)) hP hp2
  generalize aA M8 p2 (.lst (ss.map tD))=M9 at hM hU hH hW hG hP hK ⊢
  walk_at "rd"
  refine ⟨_,_,_,.inr (.inr ⟨g,rfl,hG⟩),rfl,bJ (j:=1) rfl,?_⟩
  refine ⟨l4,us,rfl,hW,Qv,by omega,?_⟩
  walk_at "rd"
  intro f hf
  refine ⟨g,f,l3,l4,l,c3,_,_,_,_,rfl,rfl,aj hG hf,ah,aj hH hf,aj hW hf,aj hM hf,aj hU hf,n1,n2,dO ps,cW us,dO ps,cW us,?_⟩
  rw [k7 (dO ps),k7 (cW us)]
  have hM:=aj (u:=MO.lst [.ref l,.ref c3]) hM hf
  have hU:=aj (u:=MO.lst [.ref l,.ref c3]) hU hf
  have hP:=aj (u:=MO.lst [.ref l,.ref c3]) hP hf
  have hK:=aj (u:=MO.lst [.ref l,.ref c3]) hK hf
  generalize aA M9 f (.lst [.ref l,.ref c3])=EA at hM hU hP hK ⊢
  walk_at "rd"
  refine ⟨ps,us,hU,hTU,lU,fun p3 ss2 hp3 Pc JM Pd=>?_⟩
  obtain rfl:=ic (dR LY Pc fun s=>(yp s).trans (JM s).symm) Jc Pd
  have Ge:aA EA p3 (.lst (ss.map tD)) p3=some (.lst (ss.map tD)):=ah
  have hM:=aj (u:=MO.lst (ss.map tD)) hM hp3
  have hU:=aj (u:=MO.lst (ss.map tD)) hU hp3
  have hP:=aj (u:=MO.lst (ss.map tD)) hP hp3
  have hK:=aj (u:=MO.lst (ss.map tD)) hK hp3
  generalize aA EA p3 (.lst (ss.map tD))=LZ at hM hU hP hK Ge ⊢
  walk_at "rd"
  refine ⟨.inr ⟨p1,p3,_,rfl,rfl,hP,Ge,zH yp,by rw [List.length_map];omega⟩,?_⟩
  walk_at "rd"
  refine ⟨l,ps,rfl,hM,h64,zI,fun b Pe=>?_⟩
  have nf:¬ Flat qs:=fun z=>Sg (hI.2 z)
  cases b with
  | true=>exact absurd ((oi bI).mpr (Pe.mp rfl)) nf
  | false=>
    walk_at "rd"
    refine ⟨_,_,rfl,.of hM,fun l5 MB=>?_⟩
    have Qw:aA LZ l5 (.lst (ps.map Pl.d)) l5=some (.lst (ps.map Pl.d)):=ah
    have hM:=aj (u:=MO.lst (ps.map Pl.d)) hM MB
    have hU:=aj (u:=MO.lst (ps.map Pl.d)) hU MB
    have hP:=aj (u:=MO.lst (ps.map Pl.d)) hP MB
    have hK:=aj (u:=MO.lst (ps.map Pl.d)) hK MB
    generalize aA LZ l5 (.lst (ps.map Pl.d))=MC at hM hU hP hK Qw ⊢
    walk_at "rd"
    refine ⟨l5,ps,rfl,Qw,h64,zI,fun bo TF ME oR se=>?_⟩
    obtain rfl:=nv (bI.trans oR.symm) (sO.1.imp fun z=>bH z) se
    obtain ⟨hC,hlt⟩:=hI.1 nf
    have h2:2≤qs.length:=by
     apply Classical.byContradiction
     intro z
     exact nf (jC (by omega))
    have l2:2≤(aR qs).length:=(qQ sO h2).1
    have TH:=hC.LP nf h2 LY yp
    have har:=hC.O1 nf l2
    have hct:=(LW nf).1
    have Qx:∀ q∈aR qs,q.Ok 140:=fun q hq=>zI q (bI.mem_iff.mp (rZ hq))
    have TJ:(aR qs).length≤40:=by omega
    have hB:aA MC bo (.lst ((aR qs).map Pl.d)) bo=some (.lst ((aR qs).map Pl.d)):=ah
    have hM:=aj (u:=MO.lst ((aR qs).map Pl.d)) hM ME
    have hU:=aj (u:=MO.lst ((aR qs).map Pl.d)) hU ME
    have hP:=aj (u:=MO.lst ((aR qs).map Pl.d)) hP ME
    have hK:=aj (u:=MO.lst ((aR qs).map Pl.d)) hK ME
    generalize aA MC bo (.lst ((aR qs).map Pl.d))=Qy at hM hU hP hK hB ⊢
    walk_at "rd"
    refine ⟨_,_,rfl,.inr (.inr ⟨c3,rfl,hU⟩),?_⟩
    walk_at "rd"
    refine ⟨_,_,rfl,.inr (.inr ⟨l,rfl,hM⟩),?_⟩
    have s1:L3.Sm 7 (ps.length:Int):=by show Int.natAbs _ < 2 ^ 7;omega
    rw [List.length_map,List.length_map]
    walk_at "rd"
    refine ⟨_,_,rfl,.inr (.inr ⟨bo,rfl,hB⟩),?_⟩
    rw [List.length_map]
    walk_at "rd"
    rw [gH]
    refine bB (fun k=>absurd (show (us.length:Int)=2*(ps.length:Int) - 2 - ((aR qs).length:Int) by omega) (of_decide_eq_true k)) (fun _=>?_)
    walk_at "rd"
    refine ⟨_,_,rfl,.inr (.inr ⟨p1,rfl,hP⟩),?_⟩
    walk_at "rd"
    refine ⟨_,_,rfl,.inr (.inr ⟨l,rfl,hM⟩),?_⟩
    rw [List.length_map,List.length_map]
    walk_at "rd"
    refine ⟨_,_,rfl,.inr (.inr ⟨bo,rfl,hB⟩),?_⟩
    rw [List.length_map]
    walk_at "rd"
    rw [gH]
    refine bB (fun k=>absurd (show (ss.length:Int)=3*(ps.length:Int) - 3 - ((aR qs).length:Int) by omega) (of_decide_eq_true k)) (fun _=>?_)
    walk_at "rd"
    refine ⟨_,_,rfl,.inr (.inr ⟨bo,rfl,hB⟩),?_⟩
    rw [List.length_map]
    walk_at "rd"
    refine ⟨by omega,by omega,?_⟩
    refine aS (fun i ρ M'=>M'=Qy∧∃ z7 z8 y1 y2 y3:Option L3.D,ρ= [some (.wG (ns.map L3.D.int)),some (.ref l),some (.ref c3),some (.ref g),some (.ref p1),some (.ref p2),some (.int (wY us)),z7,z8,some (.ref bo),some (.int (lN (aR qs) i)),y1,y2,y3]) _ ?_ ?_ ⟨rfl,_,_,_,_,_,rfl⟩
    ·rintro i x ρ M' N hx ⟨rfl,z7,z8,y1,y2,y3,rfl⟩ hN
     obtain ⟨hi,rfl⟩:=bL hx
     have hi:i < (aR qs).length:=by omega
     refine ⟨trivial,?_⟩
     walk_at "rd"
     refine ⟨_,_,_,.inr (.inr ⟨bo,rfl,hB⟩),rfl,JI hi,?_⟩
     walk_at "rd"
     refine ⟨_,_,_,.inr (.inr ⟨bo,rfl,hB⟩),rfl,wc hi,?_⟩
     obtain ⟨u1,u2⟩:=Qx _ (GG hi)
     obtain ⟨v1,v2⟩:=Qx _ (AM hi)
     walk_at "rd"
     refine hN _ _ ⟨rfl,z7,z8,some (.int (i:Int)),some (zl (aR qs) i).d,some (jc (aR qs) i).d,?_⟩
     have e:lN (aR qs) (i+1)=lN (aR qs) i+(zl (aR qs) i).x*(jc (aR qs) i).y - (zl (aR qs) i).y*(jc (aR qs) i).x:=by
      show lN (aR qs) i+((zl (aR qs) i).x*(jc (aR qs) i).y - (zl (aR qs) i).y*(jc (aR qs) i).x)=_
      omega
     rw [e]
     rfl
    ·rintro ρ M' ⟨rfl,z7,z8,y1,y2,y3,rfl⟩
     refine ⟨trivial,?_⟩
     rw [List.length_map,List.length_range,show ((aR qs).length:Int).toNat=(aR qs).length by omega]
     walk_at "rd"
     refine ⟨.inr ⟨p2,p1,_,rfl,rfl,hK,hP,zH yp,by rw [List.length_map];omega⟩,?_⟩
     walk_at "rd"
     refine ⟨.inl ⟨by rw [har],rfl⟩,?_⟩
     walk_at "rd"
     exact h
 ·subst ue
  have hK:aA M8 p2 (.lst ((prs rs).map tD)) p2=some (.lst ((prs rs).map tD)):=ah
  have hM:=aj (u:=MO.lst ((prs rs).map tD)) hM hp2
  have hU:=aj (u:=MO.lst ((prs rs).map tD)) hU hp2
  have hH:=aj (u:=MO.lst ((prs rs).map tD)) hH hp2
  have hW:=aj (u:=MO.lst ((prs rs).map tD)) hW hp2
  have hG:=aj (u:=MO.lst ((prs rs).map tD)) hG hp2
  have hP:=aj (u:=MO.lst ((prs rs).map tD)) hP hp2
  generalize aA M8 p2 (.lst ((prs rs).map tD))=M9 at hM hU hH hW hG hP hK ⊢
  generalize Pg:([]:List (List Pl))=us at *
  walk_at "rd"
  refine ⟨_,_,_,.inr (.inr ⟨g,rfl,hG⟩),rfl,bJ (j:=1) rfl,?_⟩
  refine ⟨l4,us,rfl,hW,Qv,by omega,?_⟩
  walk_at "rd"
  intro f hf
  refine ⟨g,f,l3,l4,l,c3,_,_,_,_,rfl,rfl,aj hG hf,ah,aj hH hf,aj hW hf,aj hM hf,aj hU hf,n1,n2,dO ps,cW us,dO ps,cW us,?_⟩
  rw [k7 (dO ps),k7 (cW us)]
  have hM:=aj (u:=MO.lst [.ref l,.ref c3]) hM hf
  have hU:=aj (u:=MO.lst [.ref l,.ref c3]) hU hf
  have hP:=aj (u:=MO.lst [.ref l,.ref c3]) hP hf
  have hK:=aj (u:=MO.lst [.ref l,.ref c3]) hK hf
  generalize aA M9 f (.lst [.ref l,.ref c3])=EA at hM hU hP hK ⊢
  walk_at "rd"
  refine ⟨ps,us,hU,hTU,lU,fun p3 ss2 hp3 Pc JM Pd=>?_⟩
  obtain rfl:=ic (dR LY Pc fun s=>(yp s).trans (JM s).symm) Jc Pd
  have Ge:aA EA p3 (.lst (ss.map tD)) p3=some (.lst (ss.map tD)):=ah
  have hM:=aj (u:=MO.lst (ss.map tD)) hM hp3
  have hU:=aj (u:=MO.lst (ss.map tD)) hU hp3
  have hP:=aj (u:=MO.lst (ss.map tD)) hP hp3
  have hK:=aj (u:=MO.lst (ss.map tD)) hK hp3
  generalize aA EA p3 (.lst (ss.map tD))=LZ at hM hU hP hK Ge ⊢
  walk_at "rd"
  refine ⟨.inr ⟨p1,p3,_,rfl,rfl,hP,Ge,zH yp,by rw [List.length_map];omega⟩,?_⟩
  walk_at "rd"
  refine ⟨l,ps,rfl,hM,h64,zI,fun b Pe=>?_⟩
  have fl:Flat qs:=by
   apply Classical.byContradiction
   intro nf
   have e1:=(hI.1 nf).2
   rw [← Pg] at e1
   exact (LW nf).2 ((show ts= [] by simpa using e1.symm).trans Pg)
  cases b with
  | false=>exact absurd (Pe.mpr ((oi bI).mp fl)) (by simp)
  | true=>
    walk_at "rd"
    refine ⟨l,ps,rfl,hM,h64,fun r TL hr oR se=>?_⟩
    obtain rfl:=nv (JK.trans oR.symm) JL se
    have lr:rs.length=ps.length:=oR.length_eq
    have hR:aA LZ r (.lst (rs.map Pl.d)) r=some (.lst (rs.map Pl.d)):=ah
    have hU:=aj (u:=MO.lst (rs.map Pl.d)) hU hr
    have hK:=aj (u:=MO.lst (rs.map Pl.d)) hK hr
    generalize aA LZ r (.lst (rs.map Pl.d))=MC at hU hK hR ⊢
    walk_at "rd"
    refine ⟨_,_,rfl,.inr (.inr ⟨r,rfl,hR⟩),?_⟩
    rw [List.length_map]
    walk_at "rd"
    refine ⟨by dsimp only;omega,by dsimp only;omega,by dsimp only;omega,bf.mk (dP (fun j acc M5=>M5=MC∧acc=((prs rs).take j).map tD) _ ?_ ?_ ⟨rfl,rfl⟩)⟩
    ·rintro j x acc M5 N2 nL ⟨rfl,rfl⟩ wk
     obtain ⟨hj,rfl⟩:=bL nL
     have hj:j+1 < rs.length:=by dsimp only at hj;omega
     refine ⟨trivial,?_⟩
     walk_at "rd"
     refine ⟨_,_,_,.inr (.inr ⟨r,rfl,hR⟩),rfl,wc (i:=j) (by omega),?_⟩
     walk_at "rd"
     refine ⟨_,_,_,.inr (.inr ⟨r,rfl,hR⟩),rfl,wc (i:=j+1) hj,?_⟩
     walk_at "rd"
     refine wk _ _ ⟨rfl,?_⟩
     rw [List.take_succ,Et hj,List.map_append]
     rfl
    ·rintro acc M5 ⟨rfl,rfl⟩
     refine ⟨trivial,fun d hd=>?_⟩
     have eT:∀ k:Nat,rs.length - 1≤k→(prs rs).take k=prs rs:=fun k hk=>List.take_of_length_le (by rw [ve];exact hk)
     rw [List.length_map,List.length_range,eT _ (by dsimp only;omega)]
     have hD:aA M5 d (.lst ((prs rs).map tD)) d=some (.lst ((prs rs).map tD)):=ah
     have hU:=aj (u:=MO.lst ((prs rs).map tD)) hU hd
     have hK:=aj (u:=MO.lst ((prs rs).map tD)) hK hd
     generalize aA M5 d (.lst ((prs rs).map tD))=Qy at hU hK hD ⊢
     have lk:(prs rs).length≤100:=by rw [ve];omega
     subst Pg
     walk_at "rd"
     intro e he
     refine ⟨_,_,.of (aj hU he),.of ah,rfl,rfl,?_⟩
     walk_at "rd"
     refine ⟨.inl ⟨rfl,rfl⟩,?_⟩
     walk_at "rd"
     refine ⟨.inr ⟨p2,d,_,rfl,rfl,aj hK he,aj hD he,GF rs,by rw [List.length_map];omega⟩,?_⟩
     walk_at "rd"
     exact h
end
theorem all_mk {P:Program} {w:World} {h:Heap} {mg:Str→Option Value} {fa:Addr} (Y:HD.YP fs bs h) (G:h.Ns mainGlobals mg) (O3:mg "law" =some (.ref fa)):∃ (K:PySem.W.Frag) (fd:FuncData),K.In h∧(∀ (s:Shared) (v:Value),BindsTo s fd ⟨[v],[]⟩ [("_law_script",v)])∧∀ base:Heap,K.In base→base.Ns mainGlobals mg→b8 P w K mg base fZ 7 fa fd ["_law_script"] (wg K Es):=by
 obtain ⟨K,X,H,B⟩:=Y
 unfold fs at H
 unfold bs at B
 obtain ⟨⟨f0,d0,a0,F0⟩,H⟩:=H
 obtain ⟨⟨f1,d1,a1,F1⟩,H⟩:=H
 obtain ⟨⟨f2,d2,a2,F2⟩,H⟩:=H
 obtain ⟨⟨f3,d3,a3,F3⟩,H⟩:=H
 obtain ⟨⟨f4,d4,a4,F4⟩,H⟩:=H
 obtain ⟨⟨f5,d5,a5,F5⟩,H⟩:=H
 obtain ⟨⟨f6,d6,a6,F6⟩,H⟩:=H
 obtain ⟨⟨f7,d7,a7,F7⟩,H⟩:=H
 obtain ⟨⟨f8,d8,a8,F8⟩,H⟩:=H
 obtain ⟨⟨f9,d9,a9,F9⟩,H⟩:=H
 obtain ⟨⟨TM,TN,Sj,Sk⟩,H⟩:=H
 obtain ⟨⟨TQ,TR,Sl,Sn⟩,H⟩:=H
 obtain ⟨⟨E7,TU,So,Sq⟩,H⟩:=H
 obtain ⟨⟨TV,TX,Ss,Su⟩,H⟩:=H
 obtain ⟨⟨TY,TZ,Sv,Sx⟩,H⟩:=H
 obtain ⟨⟨T3,T4,Sy,Sz⟩,H⟩:=H
 obtain ⟨⟨T5,T6,SA,SD⟩,H⟩:=H
 obtain ⟨⟨T7,T8,SE,SG⟩,H⟩:=H
 obtain ⟨⟨T9,Ua,SH,SI⟩,H⟩:=H
 obtain ⟨⟨Ub,Uc,SJ,SK⟩,H⟩:=H
 obtain ⟨⟨Ud,Ue,SM,SN⟩,H⟩:=H
 obtain ⟨⟨Ug,Uh,SO,SQ⟩,H⟩:=H
 obtain ⟨⟨Ui,Uj,SR,SS⟩,H⟩:=H
 obtain ⟨⟨Uk,Ul,SV,SW⟩,H⟩:=H
 obtain ⟨⟨Um,Uo,SX,SY⟩,H⟩:=H
 obtain ⟨⟨Up,Uq,S0,S1⟩,H⟩:=H
 obtain ⟨⟨Ur,Us,S2,S3⟩,H⟩:=H
 obtain ⟨⟨Ut,Uu,S4,S5⟩,H⟩:=H
 obtain ⟨⟨Uv,Uw,Qz,QA⟩,H⟩:=H
 obtain ⟨z0,B⟩:=B
 obtain ⟨z1,B⟩:=B
 obtain ⟨z2,B⟩:=B
 obtain ⟨z3,B⟩:=B
 obtain ⟨z4,B⟩:=B
 obtain ⟨z5,B⟩:=B
 obtain ⟨z6,B⟩:=B
 obtain ⟨z7,B⟩:=B
 obtain ⟨z8,B⟩:=B
 obtain ⟨z9,B⟩:=B
 obtain ⟨S6,B⟩:=B
 obtain ⟨S7,B⟩:=B
 obtain ⟨S8,B⟩:=B
 obtain ⟨S9,B⟩:=B
 obtain ⟨Tc,B⟩:=B
 have e:=O3.symm.trans (PySem.W.mg_of X G Qz)
 cases e
 have T:Txt K mg ⟨_,_,_,_,_,_,_,_,_,_,_,_,_,_,_,_,_,_,_,_,_,_,_,_,_,_,_,_,_,_,_,_,_,_,_,_,_,_,_,_,_,_,_,_,_,_,_,_,_,_,_,_,_,_,_,_,_,_⟩:=⟨F0,PySem.W.mg_of X G a0,F1,PySem.W.mg_of X G a1,F2,PySem.W.mg_of X G a2,F3,PySem.W.mg_of X G a3,F4,PySem.W.mg_of X G a4,F5,PySem.W.mg_of X G a5,F6,PySem.W.mg_of X G a6,F7,PySem.W.mg_of X G a7,F8,PySem.W.mg_of X G a8,F9,PySem.W.mg_of X G a9,Sk,PySem.W.mg_of X G Sj,Sn,PySem.W.mg_of X G Sl,Sq,PySem.W.mg_of X G So,Su,PySem.W.mg_of X G Ss,Sx,PySem.W.mg_of X G Sv,Sz,PySem.W.mg_of X G Sy,SD,PySem.W.mg_of X G SA,SG,PySem.W.mg_of X G SE,SI,PySem.W.mg_of X G SH,SK,PySem.W.mg_of X G SJ,SN,PySem.W.mg_of X G SM,SQ,PySem.W.mg_of X G SO,SS,PySem.W.mg_of X G SR,SW,PySem.W.mg_of X G SV,SY,PySem.W.mg_of X G SX,S1,PySem.W.mg_of X G S0,S3,PySem.W.mg_of X G S2,S5,PySem.W.mg_of X G S4,QA,PySem.W.mg_of X G Qz,PySem.W.mg_none_of X G z0,PySem.W.mg_none_of X G z1,PySem.W.mg_none_of X G z2,PySem.W.mg_none_of X G z3,PySem.W.mg_none_of X G z4,PySem.W.mg_none_of X G z5,PySem.W.mg_none_of X G z6,PySem.W.mg_none_of X G z7,PySem.W.mg_none_of X G z8,PySem.W.mg_none_of X G z9,PySem.W.mg_none_of X G S6,PySem.W.mg_none_of X G S7,PySem.W.mg_none_of X G S8,PySem.W.mg_none_of X G S9,PySem.W.mg_none_of X G Tc⟩
 refine ⟨K,_,X,fun s v=>?_,fun base _ _=>JJ T⟩
 obtain ⟨_,_,_,_,_,_,_,_,_,rfl,_,_⟩:=QA.ex
 exact .of_eq rfl
end Pf
open PySem PySem.W PyProof.Rows
set_option maxRecDepth 100000 in
set_option maxHeartbeats 0 in
theorem PySem.Challenge.cw_nearland_k23_sides_and_areas_holds : PySem.Challenge.rw_nearland_k23_sides_and_areas.Holds := by
 refine holds_law Pf.said fun said=>?_
 refine holds_open (q:=Pf.view) (loose:=Pf.loose) (Xt:=fun s=>xlAt Pf.view [] s && recOk (RowW.records (OpenRow.toRowW PySem.Challenge.rw_nearland_k23_sides_and_areas.row)) s) (XP:=XL Pf.view []) (Yf:=HD.yv Pf.fs Pf.bs) (Ya:=fun _=>HD.good Pf.fs Pf.bs) (YP:=fun _ h=>HD.YP Pf.fs Pf.bs h) (N:=2610) Pf.left (fun _ _ e=>HD.Jv e) (fun _ _ _ y k=>HD.keeps y k) (fun s e=>xl_of s (Bool.and_eq_true_iff.mp e).1) XL.keeps (by rfl) (by rfl) (by rfl) (fun s e=>recFacts_of (Bool.and_eq_true_iff.mp e).2) (by rfl) said (by decide +kernel) ⟨rfl,rfl,rfl,rfl,rfl,by decide +kernel⟩ (by w_witness2) ?hc
 refine HD.Ei (l:=PySem.Challenge.rw_nearland_k23_sides_and_areas) (n:=63) (k:=7) (x:= "_law_script") (CX:=L2.fZ) (sp:=fun K=>L3.wg K Pf.Es) rfl (by decide) rfl ⟨rfl,by decide,by decide⟩ (fun w mg fa h Y G hmg=>Pf.all_mk Y G hmg) (fun K H a ns hl hb hO hS=>L3.Fw hl hb hO hS) (fun _ _ _ _ z=>z)
