import PyProof.Rows.All
import Wide.All
import OpenK.AllK
import Wide.FinOn
import Lean
import PyProof.EqAt
import PyProof.EqKinds
import PyProof.TupleCall
import PySem.Challenge.RW_nearland_k25_lists_looked_through
set_option Elab.async false
set_option linter.all false
set_option maxRecDepth 100000
namespace HD
open PySem PySem.W PySem.Calls
def Ga (p:Program) (w:World) (n₀:Nat) (ann:Option Value):Nat→SharedT→Thread→Option SharedT
 | 0,_,_=>none
 | n+1,s,t=>match through t with
   | true=>some s
   | false=>match stepOk n₀ ann t with
     | false=>none
     | true=>match stepT (denote treeTable) p w s t with
       | some (s',t')=>Ga p w n₀ ann n s' t'
       | none=>none
theorem BP {p:Program} {w:World} {n₀:Nat} {ann:Option Value}:∀ {n:Nat} {s s':SharedT} {t:Thread},Ga p w n₀ ann n s t=some s'→topRun treeTable p w n₀ ann n s.abs t=some s'.abs
 | 0,_,_,_,h=>nomatch h
 | n+1,s,s',t,h=>by
   unfold Ga at h
   unfold topRun
   cases a:through t with
   | true=>rw [a] at h;cases h;rfl
   | false=>
     rw [a] at h
     dsimp only at h ⊢
     cases b:stepOk n₀ ann t with
     | false=>rw [b] at h;cases h
     | true=>
       rw [b] at h
       dsimp only at h ⊢
       cases c:stepT (denote treeTable) p w s t with
       | none=>rw [c] at h;cases h
       | some x=>
         obtain ⟨s1,t1⟩:=x
         rw [c] at h
         rw [stepT_spec c]
         exact BP h
noncomputable def DE (P:Params):BT:=((boot_heap P).objs.toList.foldl (fun x o=>(x.1.ins x.2 o,x.2+1)) (BT.nil,0)).1
theorem CF (P:Params):absHeap (DE P) 11 (boot_heap P).life=boot_heap P:=by kernel_rfl
theorem CG (w:World):((boot_heap w.params).isNs mainGlobals && (#[]:Array GenState).size == 0,(boot_heap w.params).objs.size,(boot_heap w.params).nsMap mainGlobals "__annotations__")=(true,11,some (.ref 6)):=by kernel_rfl
theorem CH {p q:Program} {loose:List Str} {Xt:Shared→Bool} {α:Type} {Yf:Shared→α} {Ya:World→α} {N M:Nat} (e:opening p=plainProg p.main.scope.names) (hN:Nat.ble 600 N=true) (f:∀ s,fenceModules? p s=some s) (le:Nat.ble M N=true)
 (run:∀ (w:World) (os:OsState),(Ga p w 11 (some (.ref 6)) M ⟨DE w.params,11,(boot_heap w.params).life,#[],boot_drawn,boot_toks,os⟩ (topStub p)).map (fun sT=>
  (staticsOk (importedModules p.main.body) (boot_heap w.params) sT.abs.heap && namesBound p sT.abs.heap && gensDone sT.abs && laidKept (boot_heap w.params) sT.abs.heap,openSeen q loose (importedModules p.main.body) Xt true sT.abs,Yf sT.abs))=some (true,openGood q loose,Ya w)):LeftO p q loose Xt Yf Ya N:=fun w=>by
 obtain ⟨⟨h,gs,d,k,os⟩,e,e'⟩:=Option.map_eq_some_iff.mp (boot_open e hN f w)
 obtain ⟨rfl,rfl,rfl,rfl⟩:h=boot_heap w.params∧gs=Array.mk []∧d=boot_drawn∧k=boot_toks:=by simpa using e'
 obtain ⟨z1,z2,z3⟩:_∧_∧_:=by simpa only [Prod.mk.injEq] using CG w
 obtain ⟨sT,e1,e2⟩:=Option.map_eq_some_iff.mp (run w os)
 obtain ⟨l1,l2,l3⟩:_∧_∧_:=by simpa only [Prod.mk.injEq] using e2
 have r:=topRun_mono (N - M) _ _ _ _ (BP e1)
 rw [show M+(N - M)=N by have:=Nat.le_of_ble_eq_true le;omega] at r
 have a:SharedT.abs ⟨DE w.params,11,(boot_heap w.params).life,#[],boot_drawn,boot_toks,os⟩= ⟨boot_heap w.params,Array.mk [],boot_drawn,boot_toks,os⟩:=by
  unfold SharedT.abs
  dsimp only
  rw [CF]
 rw [a] at r
 have t:topFrom treeTable p w N ⟨boot_heap w.params,Array.mk [],boot_drawn,boot_toks,os⟩=some sT.abs:=by
  unfold topFrom
  dsimp only
  rw [z1,z2,z3,r]
  show (match staticsOk (importedModules p.main.body) (boot_heap w.params) sT.abs.heap && namesBound p sT.abs.heap && gensDone sT.abs && laidKept (boot_heap w.params) sT.abs.heap with | true=>_ | false=>_)=_
  rw [l1]
 unfold openEnds
 rw [e]
 show (topFrom treeTable p w N _).map _=_
 rw [t]
 exact congrArg some (Prod.ext l2 l3)
def dA (s:Stmt):Arguments:=match s with
 | .FunctionDef _ a _ _ _ _ _ _ _ _=>a
 | _=>{ posonlyargs:=[],args:=[],vararg:=none,kwonlyargs:=[],kw_defaults:=[],kwarg:=none,defaults:=[] }
def dB (s:Stmt):List Stmt:=match s with
 | .FunctionDef _ _ b _ _ _ _ _ _ _=>b
 | _=>[]
def dS (s:Stmt):Scope:=match s with
 | .FunctionDef _ _ _ _ _ _ sc _ _ _=>sc
 | _=>{ kind:= .function,names:=[],isGenerator:=false,isCoroutine:=false }
abbrev pr (n:Str) (st:Stmt):Str ×Stmt:=(n,st)
def K4 (h:Heap) (n:Str):Option (Option Value):=match h.get? mainGlobals with
 | some o=>nsIn [(mainGlobals,o)] mainGlobals n
 | none=>none
def fnAt (h:Heap) (n:Str):Option (Addr ×FuncData):=match K4 h n with
 | some (some (.ref f))=>(match h.get? f with
   | some ⟨_,_,.func fd,_⟩=>some (f,fd)
   | _=>none)
 | _=>none
def nB (h:Heap) (v:Value):Option Str:=match v with
 | .ref c=>(match h.get? c with
   | some ⟨_,_,.fields vs,_⟩=>(match vs.toList with
     | _ :: .str q _ :: _=>some q
     | _=>none)
   | _=>none)
 | _=>none
def blank (fd:FuncData):FuncData:={ fd with kwdefaults:= .none,doc:= .none,pyModule:= .none,annotations:=none,code:= .none,closureTuple:= .none }
abbrev Seen:=List (Option (FuncData ×Option Str)) ×List (Option (Option Value))
def AA (fs:List (Str ×Stmt)) (bs:List Str) (s:Shared):Seen:=
 (fs.map fun p=>(fnAt s.heap p.1).map fun x=>(blank x.2,nB s.heap x.2.code),bs.map fun b=>K4 s.heap b)
def good (fs:List (Str ×Stmt)) (bs:List Str):Seen:=
 (fs.map fun p=>some (fnOf p.1 p.1 (dA p.2) (dB p.2) (dS p.2) .none .none .none .none none .none .none,some p.1),bs.map fun _=>some none)
end HD
namespace  Pf
open PySem PySem.W PyProof.Rows
def top (i:Nat):Stmt:=PySem.Challenge.pw_nearland_k25_lists_looked_through.main.body.getD i (.Pass ⟨0,0,0,0⟩)
abbrev nC:Stmt:=top 36
abbrev jE:Stmt:=top 37
abbrev lD:Stmt:=top 38
abbrev lE:Stmt:=top 39
abbrev lF:Stmt:=top 40
abbrev jF:Stmt:=top 41
abbrev pQ:Stmt:=top 46
abbrev nD:Stmt:=top 45
abbrev lG:Stmt:=top 42
abbrev fM:Stmt:=top 47
abbrev lI:Stmt:=top 48
abbrev jw:Stmt:=top 58
abbrev jG:Stmt:=top 25
abbrev AB:Stmt:=top 4
abbrev xN:Stmt:=top 6
abbrev AD:Stmt:=top 7
abbrev jH:Stmt:=top 21
abbrev lJ:Stmt:=top 26
abbrev jI:Stmt:=top 12
abbrev tu:Stmt:=top 22
abbrev cX:Stmt:=top 23
abbrev fN:Stmt:=top 27
abbrev iQ:Stmt:=top 9
abbrev qQ:Stmt:=top 10
abbrev gR:Stmt:=top 11
abbrev AE:Stmt:=top 19
abbrev fO:Stmt:=top 28
abbrev fR:Stmt:=top 29
abbrev jJ:Stmt:=top 31
abbrev nE:Stmt:=top 14
abbrev xP:Stmt:=top 15
abbrev AF:Stmt:=top 16
abbrev tE:Stmt:=top 17
abbrev fS:Stmt:=top 30
abbrev xQ:Stmt:=top 32
abbrev iR:Stmt:=top 51
abbrev lK:Stmt:=top 44
abbrev jK:Stmt:=top 20
abbrev oV:Stmt:=top 34
abbrev cV:Stmt:=top 54
abbrev gS:Stmt:=top 52
abbrev fc:Stmt:=top 43
abbrev jL:Stmt:=top 53
abbrev dM:Stmt:=top 55
abbrev gF:Stmt:=top 49
abbrev jM:Stmt:=top 50
abbrev di:Stmt:=top 56
abbrev lM:Stmt:=top 57
abbrev BQ:Stmt:=top 59
def view:Program:={ PySem.Challenge.pw_nearland_k25_lists_looked_through with main:={ PySem.Challenge.pw_nearland_k25_lists_looked_through.main with body:=[top 59] } }
def loose:List Str:=(["NearError","Flat","sign","twice","turn","without_bays","outline","outline_sides","on_one_line","ring_area","apart","ring","spoils","back","triangle_of","is_triangle","rounds","directed_sides","first_alien","first_flat","least_double","least_bare","least_lonely","spoilt_fault","cover_fault","fault","swept","_law_cell","_law_ringed","_law_lined","_law_great","_law_place","_law_places","_law_twice","_law_straight","_law_alike","_law_laid","_law_far","_law_flipped","_law_cover","_law_lifted","_law_spoils","_law_spoiled","_law_directed","_law_on_rim","_law_corner_fault","_law_side_fault","_law_place_fault","_law_fault","_law_more"]:List String).map Str.ofString
def fs:List (Str ×Stmt):=[HD.pr "_law_cell" nC,HD.pr "_law_ringed" jE,HD.pr "_law_lined" lD,HD.pr "_law_great" lE,HD.pr "_law_place" lF,HD.pr "_law_places" jF,HD.pr "_law_far" pQ,HD.pr "_law_laid" nD,HD.pr "_law_twice" lG,HD.pr "_law_flipped" fM,HD.pr "_law_cover" lI,HD.pr "_law_more" jw,HD.pr "first_alien" jG,HD.pr "sign" AB,HD.pr "twice" xN,HD.pr "turn" AD,HD.pr "is_triangle" jH,HD.pr "first_flat" lJ,HD.pr "on_one_line" jI,HD.pr "rounds" tu,HD.pr "directed_sides" cX,HD.pr "least_double" fN,HD.pr "without_bays" iQ,HD.pr "outline" qQ,HD.pr "outline_sides" gR,HD.pr "back" AE,HD.pr "least_bare" fO,HD.pr "least_lonely" fR,HD.pr "cover_fault" jJ,HD.pr "ring_area" nE,HD.pr "apart" xP,HD.pr "ring" AF,HD.pr "spoils" tE,HD.pr "spoilt_fault" fS,HD.pr "fault" xQ,HD.pr "_law_spoiled" iR,HD.pr "_law_alike" lK,HD.pr "triangle_of" jK,HD.pr "swept" oV,HD.pr "_law_corner_fault" cV,HD.pr "_law_directed" gS,HD.pr "_law_straight" fc,HD.pr "_law_on_rim" jL,HD.pr "_law_side_fault" dM,HD.pr "_law_lifted" gF,HD.pr "_law_spoils" jM,HD.pr "_law_place_fault" di,HD.pr "_law_fault" lM,HD.pr "law" BQ]
def bs:List Str:=["len","range","min","sorted","max","list","reversed","zip","isinstance","int","str","tuple","bool"]
set_option maxHeartbeats 0 in
theorem said:PySem.Challenge.rw_nearland_k25_lists_looked_through.wellSaid=true:=by
 unfold OpenLaw.wellSaid OpenRow.wellSaid OpenRow.partSaid looksOpen
 repeat' (with_reducible refine look_both ?_ ?_)
 all_goals decide +kernel
set_option maxHeartbeats 0 in
theorem left:LeftO PySem.Challenge.rw_nearland_k25_lists_looked_through.row.prog view loose (fun s=>xlAt view [] s && recOk (RowW.records (OpenRow.toRowW PySem.Challenge.rw_nearland_k25_lists_looked_through.row)) s) (HD.AA fs bs) (fun _=>HD.good fs bs) 4656:=HD.CH (M:=2078) (by kernel_rfl) (by kernel_rfl) (fun s=>by kernel_rfl) (by kernel_rfl) (fun w os=>by kernel_rfl)
end Pf
namespace L2
open PySem PySem.Spec PyProof.Rows
abbrev Key:=Sum Int Str
def Ic:Key→Value→Bool
 | .inl k,v=>Value.isInt k v
 | .inr x,v=>Value.isStrOf x v
def NU (w:World):Key→Int
 | .inl k=>hashInt k
 | .inr x=>hashStr w x
theorem cN:∀ {k:Key} {v:Value},Ic k v=true→(∃ i t,k=Sum.inl i∧v=Value.int i t)∨(∃ x t,k=Sum.inr x∧v=Value.str x t)
 | .inl i,v,h=>by
   obtain ⟨t,e⟩:=Value.isInt_shape (k:=i) (v:=v) h
   exact .inl ⟨i,t,rfl,e⟩
 | .inr x,v,h=>by
   obtain ⟨t,e⟩:=Value.isStrOf_shape (x:=x) (v:=v) h
   exact .inr ⟨x,t,rfl,e⟩
theorem IK (a b:Int):decide ((Sum.inl a:Key)=Sum.inl b)=(a == b):=by
 by_cases e:a=b
 ·subst e;simp
 ·have h:¬ (Sum.inl a:Key)=Sum.inl b:=fun q=>e (Sum.inl.inj q)
  rw [decide_eq_false h]
  exact (beq_eq_false_iff_ne.mpr e).symm
theorem IL (a b:Str):decide ((Sum.inr a:Key)=Sum.inr b)=decide (a=b):=by
 by_cases e:a=b
 ·subst e;simp
 ·have h:¬ (Sum.inr a:Key)=Sum.inr b:=fun q=>e (Sum.inr.inj q)
  rw [decide_eq_false h,decide_eq_false e]
theorem IM (a:Int) (b:Str):decide ((Sum.inl a:Key)=Sum.inr b)=false:=decide_eq_false (fun q=>nomatch q)
theorem IP (a:Str) (b:Int):decide ((Sum.inr a:Key)=Sum.inl b)=false:=decide_eq_false (fun q=>nomatch q)
def BR (prog:Program) (w:World):PySem.KeyKind prog w Key where
 is:=Ic
 hash:=NU w
 inj:=fun v a b ha hb=>by
  rcases cN ha with ⟨i,t,rfl,rfl⟩ | ⟨x,t,rfl,rfl⟩
  ·rcases cN hb with ⟨j,u,rfl,e⟩ | ⟨y,u,rfl,e⟩
   ·injection e with e1 _;rw [e1]
   ·exact nomatch e
  ·rcases cN hb with ⟨j,u,rfl,e⟩ | ⟨y,u,rfl,e⟩
   ·exact nomatch e
   ·injection e with e1 _;rw [e1]
 byValue:=fun k v h=>by
  rcases cN h with ⟨i,t,rfl,rfl⟩ | ⟨x,t,rfl,rfl⟩ <;> rfl
 pyHash:=fun hv h=>by
  rcases cN hv with ⟨i,t,rfl,rfl⟩ | ⟨x,t,rfl,rfl⟩
  ·exact wpAny_pyHash_int h
  ·exact wpAny_pyHash_str h
 eqBool:=fun hu hv h=>by
  rcases cN hu with ⟨i,t,rfl,rfl⟩ | ⟨x,t,rfl,rfl⟩
  ·rcases cN hv with ⟨j,u,rfl,rfl⟩ | ⟨y,u,rfl,rfl⟩
   ·rw [IK] at h;exact wpAny_eqBool_int h
   ·rw [IM] at h;exact SeqAt.EqAt.int_str i t y u _ _ _ _ h
  ·rcases cN hv with ⟨j,u,rfl,rfl⟩ | ⟨y,u,rfl,rfl⟩
   ·rw [IP] at h;exact SeqAt.EqAt.str_int x t j u _ _ _ _ h
   ·rw [IL] at h;exact wpAny_eqBool_str h
 «strs» :=fun k x t v h=>by
  rcases cN h with ⟨i,u,rfl,e⟩ | ⟨y,u,rfl,e⟩
  ·exact nomatch e
  ·injection e with e1 _
   subst e1
   cases v <;> rfl
end L2
namespace L2
open PySem PySem.Spec PyProof.Rows
inductive V where
 | bK | bl (b:Bool) | int (i:Int) | str (x:Str) | DF (b:Array UInt8) | K5 (b:UInt64) | ref (a:Addr) | ty (n:String)
 deriving DecidableEq
def RelV:V→Value→Prop
 | .bK,u=>u=Value.none
 | .bl b,u=>u=Value.bool b
 | .int i,u=> ∃ t,u=Value.int i t
 | .str x,u=> ∃ t,u=Value.str x t
 | .DF b,u=> ∃ t,u=Value.bytes b t
 | .K5 b,u=> ∃ t,u=Value.float b t
 | .ref a,u=>u=Value.ref a
 | .ty n,u=>u=Value.type n
abbrev Vals:List V→List Value→Prop:=Paired RelV
theorem Vals.length {xs:List V} {us:List Value} (r:Vals xs us):xs.length=us.length:=Paired.length r
theorem Vals.get:∀ {xs:List V} {us:List Value} {i:Nat} {x:V},Vals xs us→xs[i]?=some x→∃ u,us[i]?=some u∧RelV x u
 | _,_,_,_,.nil,e=>by simp at e
 | _,_,0,_,.cons r _,e=>by simp at e;subst e;exact ⟨_,rfl,r⟩
 | _,_,i+1,x,.cons _ t,e=>by
   obtain ⟨u,h1,h2⟩:=Vals.get (i:=i) (x:=x) t (by simpa using e)
   exact ⟨u,by simpa using h1,h2⟩
theorem Vals.append:∀ {xs ys:List V} {us ws:List Value},Vals xs us→Vals ys ws→Vals (xs ++ ys) (us ++ ws)
 | _,_,_,_,.nil,s=>s
 | _,_,_,_,.cons r t,s=> .cons r (Vals.append t s)
theorem Vals.take:∀ {xs:List V} {us:List Value} (n:Nat),Vals xs us→Vals (xs.take n) (us.take n)
 | _,_,0,_=> .nil
 | _,_,_+1,.nil=> .nil
 | _,_,n+1,.cons r t=> .cons r (Vals.take n t)
theorem Vals.drop:∀ {xs:List V} {us:List Value} (n:Nat),Vals xs us→Vals (xs.drop n) (us.drop n)
 | _,_,0,r=>r
 | _,_,_+1,.nil=> .nil
 | _,_,n+1,.cons _ t=>Vals.drop n t
def IQ:Option V→Option Value→Prop
 | some v,some u=>RelV v u
 | none,none=>True
 | _,_=>False
def KV {κ:Type}:List (κ ×V)→List (κ ×Value)→Prop:=Paired fun (p:κ ×V) (q:κ ×Value)=>p.1=q.1∧RelV p.2 q.2
def kV:Key→V
 | .inl i=> .int i
 | .inr x=> .str x
inductive HO where
 | lst (xs:List V)
 | tup (xs:List V)
 | dK (kvs:List (Key ×V)) | dT (kvs:List (List Key ×V))
 | set (S:Int→Bool) (n:Nat)
 | ins (C dx:Addr) (fs:List (Str ×V))
 | own (x:Addr)
 | xd (fs:List (Str ×V))
 | met (f x:Addr)
 | NV (lo hi:Int)
 | qd (o:Obj) (u:HO)
 | IS (ps:Array Value)
 | ext (φ:Heap→Prop)
abbrev Hp:=Addr→Option HO
def upd (H:Hp) (a:Addr) (o:HO):Hp:=fun b=>if b=a then some o else H b
theorem dR {H:Hp} {a:Addr} {o:HO}:upd H a o a=some o:=by unfold upd;rw [if_pos rfl]
theorem bh {H:Hp} {a b:Addr} {o:HO} (h:b≠a):upd H a o b=H b:=by unfold upd;rw [if_neg h]
theorem Ie {H:Hp} {a b:Addr} {o u:HO} (h:H a=some o) (h':H b=some u) (d:o≠u):a≠b:=by
 intro e;subst e;rw [h] at h';exact d (Option.some.inj h')
theorem bX {H:Hp} {a b:Addr} {o:HO} (h:H a=some o) (h':H b=none):a≠b:=by
 intro e;subst e;rw [h] at h';cases h'
section
variable (P:Program) (w:World)
def eK (H:Hp) (h:Heap) (a:Addr):HO→Prop
 | .lst xs=>xs.length≤sizeLine∧∃ (its:List Value) (n:Nat),Vals xs its∧h.get? a=some { cls:= .type "list",data:= .seq its.toArray n }
 | .tup xs=>xs.length≤sizeLine∧∃ its:List Value,Vals xs its∧IsTup h a its.toArray
 | .dK kvs=>kvs.length≤sizeLine∧(a == sysModules)=false∧∃ vs,KV kvs vs∧h.DictOf (BR P w) a vs
 | .dT kvs=>kvs.length≤sizeLine∧(a == sysModules)=false∧∃ xs:List (List Key ×Addr ×Value),
  Paired (fun (p:List Key ×V) (q:List Key ×Addr ×Value)=>p.1=q.1∧H q.2.1=some (.tup (p.1.map kV))∧RelV p.2 q.2.2) kvs xs∧
  ∃ o es ep,h.get? a=some o∧o.ExactDict∧o.data= .dict es ep∧es.toList=xs.map (entryOfKey (tupleKind (BR P w)))∧(xs.map (·.1)).Nodup
 | .set S n=>h.SetOf (intKind P w) a S n
 | .ins C dx fs=>H dx=some (.own a)∧fs.length≤1000∧dx≠a∧h.get? a=some (PySem.W.instObj C dx)∧
  ∃ mA,h.Ns1 dx mA∧(∀ f,IQ (fs.lookup f) (mA f))∧PySem.Within mA (fs.map (·.1))
 | .own _=> ∃ o,h.get? a=some o
 | .xd fs=> ∃ mA,h.Ns1 a mA∧∀ f,IQ (fs.lookup f) (mA f)
 | .NV lo hi=> ∃ t u v,h.get? a=some { cls:= .type "range",data:= .fields #[.int lo t,.int hi u,.int 1 v] }
 | .qd o u=>h.get? a=some o∧eK H h a u
 | .IS ps=>h.get? a=some { cls:= .none,data:= .fields ps }
 | .met f x=>h.get? a=some (PySem.W.methodObj (.ref f) (.ref x))
 | .ext φ=>φ h∧(∃ o,h.get? a=some o)∧∀ h1 h2:Heap,φ h1→(∀ o,h1.get? a=some o→h2.get? a=some o)→φ h2
def nF (H:Hp) (h:Heap):Prop:= ∀ a o,H a=some o→eK P w H h a o
end
section
variable {P:Program} {w:World} {H H':Hp} {h h':Heap} {a:Addr} {o:HO}
theorem eK.lt (x:eK P w H h a o):a < h.objs.size:=by
 cases o with
 | lst xs=>obtain ⟨_,_,_,_,e⟩:=x;exact Heap.lt_size e
 | tup xs=>obtain ⟨_,_,_,p⟩:=x;exact p.lt
 | dK kvs=>obtain ⟨_,_,_,_,o,_,_,e,_⟩:=x;exact Heap.lt_size e
 | dT kvs=>obtain ⟨_,_,_,_,o,_,_,e,_⟩:=x;exact Heap.lt_size e
 | set S n=>obtain ⟨o,_,_,_,e,_⟩:=x;exact Heap.lt_size e
 | ins C dx fs=>obtain ⟨_,_,_,e,_⟩:=x;exact Heap.lt_size e
 | own y=>obtain ⟨_,e⟩:=x;exact Heap.lt_size e
 | xd fs=>obtain ⟨_,⟨_,_,_,e,_⟩,_⟩:=x;exact Heap.lt_size e
 | NV lo hi=>obtain ⟨_,_,_,e⟩:=x;exact Heap.lt_size e
 | qd ob u=>obtain ⟨e,_⟩:=x;exact Heap.lt_size e
 | IS ps=>exact Heap.lt_size (show h.get? a=some _ from x)
 | met f y=>exact Heap.lt_size (show h.get? a=some _ from x)
 | ext φ=>obtain ⟨_,⟨_,e⟩,_⟩:=x;exact Heap.lt_size e
theorem Paired.IT {α β:Type} {F G:α→β→Prop}:∀ {l₁:List α} {l₂:List β},Paired F l₁ l₂→(∀ a b,F a b→G a b)→Paired G l₁ l₂
 | _,_,.nil,_=> .nil
 | _,_,.cons r t,f=> .cons (f _ _ r) (Paired.IT t f)
theorem eK.stay (x:eK P w H h a o) (k:∀ b u,(b=a∨H b=some (.own a))→h.get? b=some u→h'.get? b=some u)
 (ho:∀ b,H b=some (.own a)→H' b=some (.own a)) (ht:∀ b xs,H b=some (.tup xs)→H' b=some (.tup xs)):eK P w H' h' a o:=by
 induction o with
 | lst xs=>obtain ⟨z,its,n,r,e⟩:=x;exact ⟨z,its,n,r,k _ _ (.inl rfl) e⟩
 | tup xs=>obtain ⟨z,its,r,ob,e,c⟩:=x;exact ⟨z,its,r,ob,k _ _ (.inl rfl) e,c⟩
 | dK kvs=>obtain ⟨z,y,vs,r,ob,es,ep,e,c⟩:=x;exact ⟨z,y,vs,r,ob,es,ep,k _ _ (.inl rfl) e,c⟩
 | dT kvs=>
   obtain ⟨z,y,xs,r,ob,es,ep,e,c⟩:=x
   exact ⟨z,y,xs,Paired.IT r fun p q z=>⟨z.1,ht _ _ z.2.1,z.2.2⟩,ob,es,ep,k _ _ (.inl rfl) e,c⟩
 | set S n=>obtain ⟨ob,es,ep,t,e,c⟩:=x;exact ⟨ob,es,ep,t,k _ _ (.inl rfl) e,c⟩
 | ins C dx fs=>
   obtain ⟨d,z,ne,e,mA,⟨od,es,ep,e2,c⟩,r⟩:=x
   exact ⟨ho _ d,z,ne,k _ _ (.inl rfl) e,mA,⟨od,es,ep,k _ _ (.inr d) e2,c⟩,r⟩
 | own y=>obtain ⟨ob,e⟩:=x;exact ⟨ob,k _ _ (.inl rfl) e⟩
 | xd fs=>obtain ⟨mA,⟨od,es,ep,e,c⟩,r⟩:=x;exact ⟨mA,⟨od,es,ep,k _ _ (.inl rfl) e,c⟩,r⟩
 | NV lo hi=>obtain ⟨t,u,v,e⟩:=x;exact ⟨t,u,v,k _ _ (.inl rfl) e⟩
 | qd ob u ih=>obtain ⟨e,q⟩:=x;exact ⟨k _ _ (.inl rfl) e,ih q⟩
 | IS ps=>
   have e:h.get? a=some { cls:= .none,data:= .fields ps }:=x
   show h'.get? a=some { cls:= .none,data:= .fields ps }
   exact k a _ (.inl rfl) e
 | met f y=>
   have e:h.get? a=some (PySem.W.methodObj (.ref f) (.ref y)):=x
   show h'.get? a=some (PySem.W.methodObj (.ref f) (.ref y))
   exact k a _ (.inl rfl) e
 | ext φ=>obtain ⟨p,⟨o,e⟩,st⟩:=x;exact ⟨st _ _ p fun o q=>k _ _ (.inl rfl) q,⟨o,k _ _ (.inl rfl) e⟩,st⟩
theorem nF.lt (x:nF P w H h) (e:H a=some o):a < h.objs.size:=(x a o e).lt
theorem nF.fresh (x:nF P w H h) (e:h.objs.size≤a):H a=none:=by
 cases q:H a with
 | none=>rfl
 | some u=>exact absurd (Nat.lt_of_lt_of_le (x.lt q) e) (Nat.lt_irrefl _)
theorem nF.kept (x:nF P w H h) (k:∀ b u,h.get? b=some u→h'.get? b=some u):nF P w H h':=fun a o e=>
 (x a o e).stay (fun b u _ q=>k b u q) (fun _ q=>q) fun _ _ q=>q
theorem nF.laid (x:nF P w H h) (k:∀ b u,h.get? b=some u→h'.get? b=some u) (hp:h.objs.size≤a) (new:eK P w (upd H a o) h' a o):nF P w (upd H a o) h':=fun b u e=>by
 have hn:=x.fresh hp
 by_cases hb:b=a
 ·subst hb;rw [dR] at e;cases e;exact new
 ·rw [bh hb] at e
  exact (x b u e).stay (fun c v _ q=>k c v q) (fun c q=>by rw [bh (bX q hn)];exact q) fun c xs q=>by rw [bh (bX q hn)];exact q
end
def Rd (H:Hp) (a:Addr) (u:HO):Prop:=H a=some u∨∃ o,H a=some (.qd o u)
theorem Rd.ok {P:Program} {w:World} {H:Hp} {h:Heap} {a:Addr} {u:HO} (r:Rd H a u) (x:nF P w H h):eK P w H h a u:=by
 rcases r with r | ⟨o,r⟩
 ·exact x a u r
 ·obtain ⟨_,q⟩:=x a _ r
  exact q
def Nv:Option HO→Prop
 | some (.lst _)=>True
 | some (.dK _)=>True
 | some (.dT _)=>True
 | some (.set _ _)=>True
 | some (.ins _ _ _)=>True
 | some (.ext _)=>True
 | _=>False
section
variable {P:Program} {w:World} {H:Hp} {h h':Heap} {x e:Addr} {o':HO}
theorem nF.write (ok:nF P w H h) (mu:Nv (H x)) (he:e=x∨H e=some (.own x)) (k:∀ b u,b≠e→h.get? b=some u→h'.get? b=some u) (K6:∃ u,h'.get? e=some u)
 (new:eK P w (upd H x o') h' x o'):nF P w (upd H x o') h':=fun b u q=>by
 have Ld:∀ c y,H c=some (.own y)→c≠x:=fun c y r z=>by subst z;rw [r] at mu;exact mu
 have NW:∀ c xs,H c=some (.tup xs)→c≠x:=fun c xs r z=>by subst z;rw [r] at mu;exact mu
 by_cases hb:b=x
 ·subst hb;rw [dR] at q;cases q;exact new
 ·rw [bh hb] at q
  by_cases IU:b=e
  ·have q':H b=some (.own x):=by
    rcases he with z | z
    ·exact absurd (IU.trans z) hb
    ·rw [IU];exact z
   rw [q] at q';cases q'
   obtain ⟨v,hv⟩:=K6
   exact ⟨v,by rw [IU];exact hv⟩
  ·refine (ok b u q).stay (fun c v hc r=>k c v ?_ r) (fun c r=>by rw [bh (Ld c b r)];exact r) fun c xs r=>by rw [bh (NW c xs r)];exact r
   rcases hc with rfl | hc
   ·exact IU
   ·rintro rfl
    rcases he with z | z
    ·exact Ld c b hc z
    ·rw [hc] at z;cases z;exact hb rfl
end
structure Un (fs ex:List Addr) (H H':Hp) (h h':Heap):Prop where
 keep:∀ b o,h.get? b=some o→H b=none→b∉fs→b∉ex→h'.get? b=some o
 slot:∀ b o,h.get? b=some o→H b=none→b∈fs→b∉ex→∃ sl,h'.get? b=some { o with slots:=sl }
 free:∀ b o,h.get? b=some o→H b=none→b∉ex→H' b=none
 there:∀ b o,h.get? b=some o→b∉ex→∃ o',h'.get? b=some o'
 tups:∀ b xs,H b=some (.tup xs)→H' b=some (.tup xs)
 xR:∀ b o u,H b=some (.qd o u)→H' b=some (.qd o u)
 zl:∀ b ps,H b=some (.IS ps)→∃ more,H' b=some (.IS (ps ++ more))
section
variable {fs fs' ex ex':List Addr} {H H1 H2:Hp} {h h1 h2 h':Heap} {a x e:Addr} {o:HO}
theorem Un.any (u:Un fs ex H H1 h h1) {b:Addr} {ob:Obj} (q:h.get? b=some ob) (n:H b=none) (hx:b∉ex):∃ sl,h1.get? b=some { ob with slots:=sl }:=by
 by_cases hb:b∈fs
 ·exact u.slot b ob q n hb hx
 ·exact ⟨ob.slots,u.keep b ob q n hb hx⟩
theorem Un.kept (k:∀ b u,h.get? b=some u→h'.get? b=some u):Un fs ex H H h h':=
 ⟨fun b ob q _ _ _=>k b ob q,fun b ob q _ _ _=>⟨ob.slots,k b ob q⟩,fun _ _ _ n _=>n,fun b ob q _=>⟨ob,k b ob q⟩,fun _ _ q=>q,fun _ _ _ q=>q,fun _ ps q=>⟨#[],by rw [q];simp⟩⟩
theorem Un.refl:Un fs ex H H h h:=Un.kept fun _ _ q=>q
theorem Un.laid (k:∀ b u,h.get? b=some u→h'.get? b=some u) (hp:h.objs.size≤a) (hn:H a=none):Un fs ex H (upd H a o) h h' where
 keep:=fun b u q _ _ _=>k b u q
 slot:=fun b u q _ _ _=>⟨u.slots,k b u q⟩
 free:=fun b u q n _=>by rw [bh (Nat.ne_of_lt (Nat.lt_of_lt_of_le (Heap.lt_size q) hp))];exact n
 there:=fun b u q _=>⟨u,k b u q⟩
 tups:=fun b xs q=>by rw [bh (bX q hn)];exact q
 xR:=fun b u xs q=>by rw [bh (bX q hn)];exact q
 zl:=fun b ps q=>⟨#[],by rw [bh (bX q hn),q];simp⟩
theorem Un.write (mu:Nv (H x)) (he:e=x∨H e=some (.own x)) (k:∀ b u,b≠e→h.get? b=some u→h'.get? b=some u) (K6:∃ u,h'.get? e=some u):Un fs ex H (upd H x o) h h':=by
 have hx:∀ b,H b=none→b≠x:=fun b n z=>by subst z;rw [n] at mu;exact mu
 have hb:∀ b,H b=none→b≠e:=fun b n z=>by
  subst z
  rcases he with r | r
  ·exact hx b n r
  ·rw [n] at r;cases r
 have hm:∀ b u,H b=some u→¬ Nv (some u)→b≠x:=fun b u q nm z=>by subst z;rw [q] at mu;exact nm mu
 refine ⟨fun b u q n _ _=>k b u (hb b n) q,fun b u q n _ _=>⟨u.slots,k b u (hb b n) q⟩,fun b u q n _=>by rw [bh (hx b n)];exact n,fun b u q _=>?_,
  fun b xs q=>by rw [bh (hm b _ q fun z=>z)];exact q,fun b u xs q=>by rw [bh (hm b _ q fun z=>z)];exact q,fun b ps q=>⟨#[],by rw [bh (hm b _ q fun z=>z),q];simp⟩⟩
 by_cases IU:b=e
 ·subst IU;exact K6
 ·exact ⟨u,k b u IU q⟩
end
def Ny (h:Heap) (H:Hp):List Addr:=(List.range h.objs.size).filter fun a=>(H a).isSome
def xS (h:Heap) (H:Hp):Heap:=PySem.W.hideAll h (Ny h H)
theorem CI (h:Heap) (H:Hp):(xS h H).objs.size=h.objs.size:=PySem.W.hideAll_size _ _
theorem DG {h:Heap} {H:Hp} {b:Addr} {o:Obj} (e:h.get? b=some o) (n:H b=none):(xS h H).get? b=some o:=
 PySem.W.hideAll_get _ e fun hm=>by
  have q:(H b).isSome=true:=(List.mem_filter.mp hm).2
  rw [n] at q;simp at q
theorem Gb {h:Heap} {H:Hp} {b:Addr} {o:Obj} (e:(xS h H).get? b=some o):h.get? b=some o∧H b=none:=by
 have e':h.get? b=some o:=PySem.W.of_hideAll (Ny h H) e
 refine ⟨e',?_⟩
 cases q:H b with
 | none=>rfl
 | some x=>
   have hm:b∈Ny h H:=List.mem_filter.mpr ⟨List.mem_range.mpr (Heap.lt_size e'),by simp [q]⟩
   have z:(xS h H).get? b=none:=PySem.W.hideAll_none (Ny h H) hm
   rw [z] at e;cases e
def Gd (g h:Heap) (L:Addr):List (Addr ×Obj):=(List.range h.objs.size).filterMap fun a=>if a=L∨(g.get? a).isSome=true then none else (h.get? a).map fun o=>(a,o)
def rest (g h:Heap) (L d:Addr):List (Addr ×Obj):=(Gd g h L).filter fun p=>decide (p.1≠d)
end L2
namespace L2
open PySem PySem.Spec PyProof.Rows
structure Mod (K:PySem.W.Frag) (mg:Str→Option Value) (base:Heap):Prop where
 NX:K.In base
 glob:base.Ns mainGlobals mg
 blt:∃ mb,base.Ns builtinsNs mb∧∀ x:Str,x≠"__name__"→mb x=bootBuiltins x
 nolimit:base.NoLimit
structure Cx where
 prog:Program
 w:World
 K:PySem.W.Frag
 mg:Str→Option Value
 base:Heap
 A:Around
 N:List Str
 s₀:Shared
 H₀:Hp
 env:Env
 outer:List Env
 stack:List Env
 ex:List Addr
 fn:Str→Bool
 calm:Bool
 pn:List (Addr ×Obj)
 xe:Value→Shared→Prop
def frs (l:List Env):List Addr:=l.filterMap (·.frame)
abbrev Cx.fs (X:Cx):List Addr:=frs X.outer
def NY (sc:Scope) (x:Str):Prop:=sc.names.lookup x=some .local∨sc.names.lookup x=some .cell∨sc.names.lookup x=some .free
def Loc (sc:Scope) (x:Str):Prop:=sc.names.lookup x=some .local∨sc.names.lookup x=some .cell
def Look (env:Env) (h:Heap) (m:Str→Option Value) (x:Str) (u:Value):Prop:=
 (env.kindOf x=some .local∧m x=some u)∨((env.kindOf x=some .cell∨env.kindOf x=some .free)∧∃ c,env.cells.lookup x=some c∧h.IsCell c (some u))
structure Cx.Ok (X:Cx):Prop where
 mod:Mod X.K X.mg X.base
 kind:X.env.scope.kind= .function
 glob:X.env.globals=mainGlobals
 blt:X.env.builtins=builtinsNs
 above:X.s₀.heap.objs.size≤X.env.locals
 inj:∀ x y c,X.env.cells.lookup x=some c→X.env.cells.lookup y=some c→x=y
 has:∀ x,(X.env.kindOf x=some .cell∨X.env.kindOf x=some .free)→∃ c,X.env.cells.lookup x=some c
 IV:∀ x c,X.fn x=true→X.env.cells.lookup x=some c→X.s₀.heap.objs.size≤c
 hd:X.calm=true→X.A.handled=none
 frames:X.A.frames=some X.stack
 stk:X.stack=X.outer∨(X.stack=X.env :: X.outer∧X.env.frame=some X.env.locals)
 Ig:∀ b∈X.ex,b≠X.env.locals∧∀ x c,X.env.cells.lookup x=some c→c≠b
 bs:∀ b o,X.base.get? b=some o→X.s₀.heap.get? b=some o∧X.H₀ b=none
 FP:X.base.objs.size≤X.s₀.heap.objs.size
 zm:∀ b o,X.base.get? b=some o→b∉X.ex
 zo:∀ b∈X.ex,b∉X.fs
 qR:X.s₀.heap.FunFrames X.base X.outer
 Ih:∀ b∈X.fs,X.H₀ b=none
structure Inv (X:Cx) (pins:List (Addr ×Obj)) (σ:List (Option V)) (H:Hp) (s:Shared):Prop where
 ok:X.Ok
 os:s.os=X.s₀.os
 bare:AllBare s.gens
 base:Un X.fs X.ex X.H₀ H X.s₀.heap s.heap
 loc:∃ m,s.heap.Ns X.env.locals m∧∀ (i:Nat) (x:Str) (v:V),X.N[i]?=some x→σ[i]?=some (some v)→NY X.env.scope x→∃ u,RelV v u∧Look X.env s.heap m x u
 cell:∀ x c,X.env.cells.lookup x=some c→∃ v,s.heap.IsCell c v
 free:H X.env.locals=none
 nG:∀ x c,X.env.cells.lookup x=some c→H c=none
 pin:∀ p∈X.pn ++ pins,s.heap.get? p.1=some p.2∧H p.1=none∧p.1≠X.env.locals∧p.1∉X.fs∧∀ v,p.2.data≠ .cell v
 hok:nF X.prog X.w H s.heap
 len:σ.length=X.N.length
section
variable {X:Cx} {pins:List (Addr ×Obj)} {σ:List (Option V)} {H H':Hp} {s:Shared} {h':Heap}
theorem Cx.Ok.NZ (ok:X.Ok) {b:Addr} {o:Obj} (e:X.base.get? b=some o):b∉X.fs:=fun hb=>by
 have:=(ok.qR.mem hb).1
 rw [e] at this;cases this
theorem Inv.bs (I:Inv X pins σ H s):∀ b o,X.base.get? b=some o→s.heap.get? b=some o∧H b=none:=fun b o e=>
 ⟨I.base.keep b o (I.ok.bs b o e).1 (I.ok.bs b o e).2 (I.ok.NZ e) (I.ok.zm b o e),I.base.free b o (I.ok.bs b o e).1 (I.ok.bs b o e).2 (I.ok.zm b o e)⟩
theorem Inv.bk (I:Inv X pins σ H s):∀ b o,X.base.get? b=some o→s.heap.get? b=some o:=fun b o e=>(I.bs b o e).1
theorem Inv.mod (I:Inv X pins σ H s):Mod X.K X.mg X.base:=I.ok.mod
theorem Inv.zh (I:Inv X pins σ H s):X.K.In s.heap:=I.ok.mod.NX.keeps I.bk
theorem Inv.lt (I:Inv X pins σ H s):X.env.locals < s.heap.objs.size:=let ⟨_,hn,_⟩:=I.loc;hn.lt
theorem Inv.sz (I:Inv X pins σ H s):X.s₀.heap.objs.size≤s.heap.objs.size:=Nat.le_trans I.ok.above (Nat.le_of_lt I.lt)
theorem Inv.N1 (I:Inv X pins σ H s) {a:Addr} (h:s.heap.objs.size≤a):a∉X.fs:=fun hb=>by
 obtain ⟨_,o,ho,_⟩:=I.ok.qR.mem hb
 exact absurd (Nat.lt_of_lt_of_le (Heap.lt_size ho) (Nat.le_trans I.sz h)) (Nat.lt_irrefl _)
theorem Inv.IW (I:Inv X pins σ H s):∀ x c,X.env.cells.lookup x=some c→c≠X.env.locals:=fun x c e z=>by
 obtain ⟨v,o,ho,hd⟩:=I.cell x c e
 obtain ⟨m,⟨o',es,ep,ho',hd',_⟩,_⟩:=I.loc
 rw [z,ho'] at ho;cases ho;rw [hd'] at hd;cases hd
theorem Inv.qR (I:Inv X pins σ H s):s.heap.FunFrames X.base X.outer:=by
 have all:∀ (l:List Env),(∀ b∈frs l,b∈X.fs)→X.s₀.heap.FunFrames X.base l→s.heap.FunFrames X.base l:=by
  intro l
  induction l with
  | nil=>intro _ _;trivial
  | cons env r ih=>
    intro hs hl
    obtain ⟨hk,⟨L,o,hf,hn,ho,hd⟩,hr⟩:=hl
    have hL:L∈X.fs:=hs L (by unfold frs;rw [List.filterMap_cons,hf];exact List.mem_cons_self)
    obtain ⟨sl,e⟩:=I.base.slot L o ho (I.ok.Ih L hL) hL fun z=>I.ok.zo L z hL
    exact ⟨hk,⟨L,_,hf,hn,e,hd⟩,ih (fun b hb=>hs b (by unfold frs;rw [List.filterMap_cons,hf];exact List.mem_cons_of_mem _ hb)) hr⟩
 exact all X.outer (fun _ hb=>hb) I.ok.qR
theorem Inv.stack (I:Inv X pins σ H s):s.heap.FunFrames X.base X.stack:=by
 rcases I.ok.stk with e | ⟨e,hf⟩
 ·rw [e];exact I.qR
 ·rw [e]
  obtain ⟨m,hn,_⟩:=I.loc
  refine .cons (by rw [I.ok.kind];decide) hf hn ?_ I.qR
  exact Heap.get?_none_of_le (Nat.le_trans I.ok.FP I.ok.above)
theorem Inv.xT (I:Inv X pins σ H s):∀ b∈frs X.stack,b∈X.env.locals :: X.fs:=fun b hb=>by
 rcases I.ok.stk with e | ⟨e,hf⟩
 ·rw [e] at hb;exact List.mem_cons_of_mem _ hb
 ·rw [e] at hb
  unfold frs at hb
  rw [List.filterMap_cons,hf] at hb
  exact hb
theorem Inv.xU (I:Inv X pins σ H s):∀ b∈frs X.stack,H b=none:=fun b hb=>by
 rcases List.mem_cons.mp (I.xT b hb) with e | hb
 ·rw [e];exact I.free
 ·obtain ⟨_,o,ho,_⟩:=I.ok.qR.mem hb
  exact I.base.free b o ho (I.ok.Ih b hb) fun z=>I.ok.zo b z hb
theorem Inv.step {g':Array GenState} {t':Nat} {d':Drawn} {ch:List Addr} (I:Inv X pins σ H s)
 (hch:∀ b∈ch,(b∈X.ex∨X.s₀.heap.objs.size≤b)∧b≠X.env.locals∧(∀ x c,X.env.cells.lookup x=some c→c≠b)∧∀ p∈X.pn ++ pins,p.1≠b)
 (keep:∀ b o,b≠X.env.locals→b∉X.fs→b∉ch→s.heap.get? b=some o→H b=none→h'.get? b=some o)
 (slot:∀ b o,b≠X.env.locals→b∈X.fs→b∉ch→s.heap.get? b=some o→H b=none→∃ sl,h'.get? b=some { o with slots:=sl }) (free:∀ b o,b∉ch→s.heap.get? b=some o→H b=none→H' b=none)
 (there:∀ b o,b∉ch→s.heap.get? b=some o→∃ o',h'.get? b=some o')
 (tups:∀ b xs,H b=some (.tup xs)→H' b=some (.tup xs)) (xR:∀ b o u,H b=some (.qd o u)→H' b=some (.qd o u)) (zl:∀ b ps,H b=some (.IS ps)→∃ more,H' b=some (.IS (ps ++ more)))
 (ns:∀ m,s.heap.Ns X.env.locals m→h'.Ns X.env.locals m) (hok:nF X.prog X.w H' h') (hg:AllBare g') :
 Inv X pins σ H' { s with heap:=h',gens:=g',drawn:=d',toks:=t' }:=by
 have Qn:∀ b o,X.s₀.heap.get? b=some o→b≠X.env.locals:=fun b o e=>Nat.ne_of_lt (Nat.lt_of_lt_of_le (Heap.lt_size e) I.ok.above)
 have Nz:∀ b o,X.s₀.heap.get? b=some o→b∉X.ex→b∉ch:=fun b o e hx hb=>by
  rcases (hch b hb).1 with z | z
  ·exact hx z
  ·exact absurd (Nat.lt_of_lt_of_le (Heap.lt_size e) z) (Nat.lt_irrefl _)
 have cellK:∀ x c,X.env.cells.lookup x=some c→∀ v,s.heap.IsCell c v→h'.IsCell c v:=fun x c e v ⟨o,ho,hd⟩=>by
  have Lf:c∉ch:=fun z=>(hch c z).2.2.1 x c e rfl
  by_cases hc:c∈X.fs
  ·obtain ⟨sl,q⟩:=slot c o (I.IW x c e) hc Lf ho (I.nG x c e)
   exact ⟨_,q,hd⟩
  ·exact ⟨o,keep c o (I.IW x c e) hc Lf ho (I.nG x c e),hd⟩
 refine ⟨I.ok,I.os,hg,⟨fun b o e n hb hx=>?_,fun b o e n hb hx=>?_,fun b o e n hx=>?_,fun b o e hx=>?_,fun b xs e=>tups b xs (I.base.tups b xs e),fun b o xs e=>xR b o xs (I.base.xR b o xs e),fun b ps e=>?_⟩,?_,fun x c e=>?_,?_,fun x c e=>?_,fun p hp=>?_,hok,I.len⟩
 ·exact keep b o (Qn b o e) hb (Nz b o e hx) (I.base.keep b o e n hb hx) (I.base.free b o e n hx)
 ·obtain ⟨sl,e1⟩:=I.base.slot b o e n hb hx
  obtain ⟨Q6,e2⟩:=slot b _ (Qn b o e) hb (Nz b o e hx) e1 (I.base.free b o e n hx)
  exact ⟨Q6,e2⟩
 ·obtain ⟨o',e1⟩:=I.base.there b o e hx
  exact free b o' (Nz b o e hx) e1 (I.base.free b o e n hx)
 ·obtain ⟨o',e1⟩:=I.base.there b o e hx
  exact there b o' (Nz b o e hx) e1
 ·obtain ⟨m1,e1⟩:=I.base.zl b ps e
  obtain ⟨m2,e2⟩:=zl b _ e1
  exact ⟨m1 ++ m2,by rw [e2,Array.append_assoc]⟩
 ·obtain ⟨m,hn,hl⟩:=I.loc
  refine ⟨m,ns m hn,fun i x v e1 e2 e3=>?_⟩
  obtain ⟨u,r,l⟩:=hl i x v e1 e2 e3
  refine ⟨u,r,?_⟩
  rcases l with l | ⟨k,c,e,z⟩
  ·exact .inl l
  ·exact .inr ⟨k,c,e,cellK x c e _ z⟩
 ·obtain ⟨v,z⟩:=I.cell x c e
  exact ⟨v,cellK x c e v z⟩
 ·obtain ⟨m,⟨o,_,_,ho,_⟩,_⟩:=I.loc
  exact free _ o (fun z=>(hch _ z).2.1 rfl) ho I.free
 ·obtain ⟨v,o,ho,hd⟩:=I.cell x c e
  exact free c o (fun z=>(hch c z).2.2.1 x c e rfl) ho (I.nG x c e)
 ·obtain ⟨e,n,ne,nf,d⟩:=I.pin p hp
  have Lf:p.1∉ch:=fun z=>(hch p.1 z).2.2.2 p hp rfl
  exact ⟨keep p.1 p.2 ne nf Lf e n,free p.1 p.2 Lf e n,ne,nf,d⟩
theorem Inv.un {t':Nat} (I:Inv X pins σ H s) (u:Un X.fs [] H H' s.heap h') (hok:nF X.prog X.w H' h'):Inv X pins σ H' { s with heap:=h',toks:=t' }:=by
 obtain ⟨m,⟨o,es,ep,ho,r⟩,_⟩:=id I.loc
 obtain ⟨sl,hL⟩:=u.any ho I.free (by simp)
 exact I.step (g':=s.gens) (d':=s.drawn) (ch:=[]) (fun _ z=>nomatch z) (fun b o _ hb _ e n=>u.keep b o e n hb (by simp)) (fun b o _ hb _ e n=>u.slot b o e n hb (by simp)) (fun b o _ e n=>u.free b o e n (by simp)) (fun b o _ e=>u.there b o e (by simp)) u.tups u.xR u.zl (fun m' hm=>by
  obtain ⟨o',es',N3,ho',r'⟩:=hm
  rw [ho] at ho';cases ho'
  exact ⟨_,es',N3,hL,r'⟩) hok I.bare
theorem Inv.call {g':Array GenState} {t':Nat} {d':Drawn} {ch:List Addr} (I:Inv X pins σ H s) (u:Un (frs X.stack) ch H H' s.heap h') (hok:nF X.prog X.w H' h') (hg:AllBare g')
 (hch:∀ b∈ch,(b∈X.ex∨X.s₀.heap.objs.size≤b)∧b≠X.env.locals∧(∀ x c,X.env.cells.lookup x=some c→c≠b)∧∀ p∈X.pn ++ pins,p.1≠b) :
 Inv X pins σ H' { s with heap:=h',gens:=g',drawn:=d',toks:=t' }:=by
 obtain ⟨m,⟨o,es,ep,ho,r⟩,_⟩:=id I.loc
 obtain ⟨sl,hL⟩:=u.any ho I.free fun z=>(hch _ z).2.1 rfl
 exact I.step (ch:=ch) hch (fun b o hL hb hc e n=>u.keep b o e n (fun z=>(List.mem_cons.mp (I.xT b z)).elim hL hb) hc) (fun b o _ _ hc e n=>u.any e n hc) (fun b o hc e n=>u.free b o e n hc) (fun b o hc e=>u.there b o e hc) u.tups u.xR u.zl (fun m' hm=>by
  obtain ⟨o',es',N3,ho',r'⟩:=hm
  rw [ho] at ho';cases ho'
  exact ⟨_,es',N3,hL,r'⟩) hok hg
theorem Inv.turned {t':Nat} {it:Addr} (I:Inv X pins σ H s) (k:∀ b o,b≠it→s.heap.get? b=some o→h'.get? b=some o) (hn:H it=none) (hL:it≠X.env.locals)
 (h1:it∈X.ex∨X.s₀.heap.objs.size≤it) (h2:∀ x c,X.env.cells.lookup x=some c→c≠it) (h3:∀ p∈X.pn ++ pins,p.1≠it):Inv X pins σ H { s with heap:=h',toks:=t' }:=by
 have Lg:∀ b u,H b=some u→b≠it:=fun b u e z=>by rw [z,hn] at e;cases e
 refine I.step (g':=s.gens) (d':=s.drawn) (ch:=[it]) (fun b hb=>?_) (fun b o _ _ hc e _=>k b o (fun z=>hc (by simp [z])) e) (fun b o _ _ hc e _=>⟨o.slots,k b o (fun z=>hc (by simp [z])) e⟩) (fun _ _ _ _ n=>n)
  (fun b o hc e=>⟨o,k b o (fun z=>hc (by simp [z])) e⟩) (fun _ _ e=>e) (fun _ _ _ e=>e) (fun b ps e=>⟨#[],by rw [e];simp⟩) (fun m hm=>?_) (fun b u e=>?_) I.bare
 ·have e:b=it:=by simpa using hb
  subst e
  exact ⟨h1,hL,h2,h3⟩
 ·obtain ⟨o,es,ep,ho,r⟩:=hm
  exact ⟨o,es,ep,k _ o (Ne.symm hL) ho,r⟩
 ·refine (I.hok b u e).stay (fun c v hc q=>k c v ?_ q) (fun _ q=>q) fun _ _ q=>q
  rcases hc with z | z
  ·rw [z];exact Lg b u e
  ·exact Lg c _ z
theorem Inv.tok (I:Inv X pins σ H s) (t:Nat):Inv X pins σ H { s with toks:=t }:=I.un (h':=s.heap) (t':=t) Un.refl I.hok
theorem Inv.kept {t':Nat} (I:Inv X pins σ H s) (k:∀ b u,s.heap.get? b=some u→h'.get? b=some u):Inv X pins σ H { s with heap:=h',toks:=t' }:=I.un (Un.kept k) (I.hok.kept k)
theorem Inv.laid {a:Addr} {o:HO} {t':Nat} (I:Inv X pins σ H s) (k:∀ b u,s.heap.get? b=some u→h'.get? b=some u) (hp:s.heap.objs.size≤a) (new:eK X.prog X.w (upd H a o) h' a o) :
 Inv X pins σ (upd H a o) { s with heap:=h',toks:=t' }:=I.un (Un.laid k hp (I.hok.fresh hp)) (I.hok.laid k hp new)
theorem Inv.write {x e:Addr} {o:HO} {t':Nat} (I:Inv X pins σ H s) (mu:Nv (H x)) (he:e=x∨H e=some (.own x)) (k:∀ b u,b≠e→s.heap.get? b=some u→h'.get? b=some u) (K6:∃ u,h'.get? e=some u)
 (new:eK X.prog X.w (upd H x o) h' x o):Inv X pins σ (upd H x o) { s with heap:=h',toks:=t' }:=I.un (Un.write mu he k K6) (I.hok.write mu he k K6 new)
theorem Inv.sU {Ii:List (Addr ×Obj)} (I:Inv X pins σ H s) (h:∀ p∈Ii,s.heap.get? p.1=some p.2∧H p.1=none∧p.1≠X.env.locals∧p.1∉X.fs∧∀ v,p.2.data≠ .cell v):Inv X Ii σ H s:=
 ⟨I.ok,I.os,I.bare,I.base,I.loc,I.cell,I.free,I.nG,fun p hp=>(List.mem_append.mp hp).elim (fun z=>I.pin p (List.mem_append_left _ z)) (h p),I.hok,I.len⟩
theorem zp {N:List Str} (hN:N.Nodup) {i j:Nat} {x:Str} (a:N[i]?=some x) (b:N[j]?=some x):i=j:=by
 obtain ⟨h1,e1⟩:=List.getElem?_eq_some_iff.mp a
 obtain ⟨h2,e2⟩:=List.getElem?_eq_some_iff.mp b
 exact (List.getElem_inj hN).mp (e1.trans e2.symm)
theorem CJ {M:Model} {A:Around} {E:Value→Shared→Prop} {i:Nat} {x:Str} {v:V} {u:Value} {Q:Unit→Shared→Prop} (I:Inv X pins σ H s) (hN:X.N.Nodup) (hi:X.N[i]?=some x) (hx:Loc X.env.scope x) (r:RelV v u)
 (h:∀ s',Inv X pins (σ.set i (some v)) H s'→(∃ a,Heap.SameBut a s.heap s'.heap∧(a=X.env.locals∨X.env.cells.lookup x=some a))→Q () s') (hf:X.fn x=true∨X.env.scope.names.lookup x=some .local:=by first | exact .inl rfl | exact .inr rfl | assumption):wpAny M A (storeName X.env x u) Q E s:=by
 obtain ⟨m,hn,hl⟩:=id I.loc
 have hcls:(X.env.scope.kind == .class || (X.env.scope.kind == .module && X.env.locals !=X.env.globals))=false:=by rw [I.ok.kind];rfl
 have Qo:i < σ.length:=by rw [I.len];exact (List.getElem?_eq_some_iff.mp hi).1
 have IW:=I.IW
 have tracked:∀ {a:Addr} {h':Heap},(∃ o,s.heap.get? a=some o∧H a=none)→Heap.SameBut a s.heap h'→nF X.prog X.w H h':=fun {a h'} ha hs b ob e=>by
  obtain ⟨_,_,hfree⟩:=ha
  refine (I.hok b ob e).stay (fun c w' hc q=>(hs.2 c ?_).trans q) (fun _ q=>q) fun _ _ q=>q
  rintro rfl
  rcases hc with rfl | hc
  ·rw [hfree] at e;cases e
  ·rw [hfree] at hc;cases hc
 rcases hx with hk | hk
 ·refine wpAny_storeName_local hk hn (fun h' hn' hs=>?_) hcls
  obtain ⟨oL,_,_,Q7,_⟩:=id hn
  refine h _ ⟨I.ok,I.os,I.bare,⟨fun b o e n hb hx=>?_,fun b o e n hb hx=>?_,I.base.free,fun b o e hx=>?_,I.base.tups,I.base.xR,I.base.zl⟩,⟨_,hn',fun j y v' e1 e2 e3=>?_⟩,fun y c e=>?_,I.free,I.nG,fun p hp=>?_,tracked ⟨oL,Q7,I.free⟩ hs,by simpa using I.len⟩ ⟨_,hs,.inl rfl⟩
  ·exact (hs.2 b (Nat.ne_of_lt (Nat.lt_of_lt_of_le (Heap.lt_size e) I.ok.above))).trans (I.base.keep b o e n hb hx)
  ·obtain ⟨sl,e1⟩:=I.base.slot b o e n hb hx
   exact ⟨sl,(hs.2 b (Nat.ne_of_lt (Nat.lt_of_lt_of_le (Heap.lt_size e) I.ok.above))).trans e1⟩
  ·obtain ⟨o',e1⟩:=I.base.there b o e hx
   exact ⟨o',(hs.2 b (Nat.ne_of_lt (Nat.lt_of_lt_of_le (Heap.lt_size e) I.ok.above))).trans e1⟩
  ·by_cases hj:j=i
   ·subst hj
    rw [hi] at e1;cases e1
    rw [List.getElem?_set_self Qo] at e2
    cases e2
    exact ⟨u,r,.inl ⟨hk,by simp⟩⟩
   ·rw [List.getElem?_set_ne (Ne.symm hj)] at e2
    obtain ⟨u',r',q⟩:=hl j y v' e1 e2 e3
    refine ⟨u',r',?_⟩
    rcases q with ⟨k,e⟩ | ⟨k,c,e,z⟩
    ·refine .inl ⟨k,?_⟩
     have:y≠x:=fun e=>hj (zp hN e1 (e▸hi))
     simp [this,e]
    ·exact .inr ⟨k,c,e,z.sameBut hs (IW y c e)⟩
  ·obtain ⟨w',z⟩:=I.cell y c e
   exact ⟨w',z.sameBut hs (IW y c e)⟩
  ·obtain ⟨e,n,ne,nf,d⟩:=I.pin p hp
   exact ⟨(hs.2 p.1 ne).trans e,n,ne,nf,d⟩
 ·have hfn:X.fn x=true:=by
   rcases hf with z | z
   ·exact z
   ·rw [z] at hk;cases hk
  obtain ⟨c,hc⟩:=I.ok.has x (.inl hk)
  obtain ⟨w',z⟩:=I.cell x c hc
  refine wpAny_storeName_cell I.ok.kind hk hc z (fun h' hc' hs=>?_)
  obtain ⟨oc,hoc,N4⟩:=id z
  refine h { s with heap:=h' } ⟨I.ok,I.os,I.bare,⟨fun b o e n hb hx=>?_,fun b o e n hb hx=>?_,I.base.free,fun b o e hx=>?_,I.base.tups,I.base.xR,I.base.zl⟩,⟨m,hn.sameBut hs (Ne.symm (IW x c hc)),fun j y v' e1 e2 e3=>?_⟩,fun y c' e=>?_,I.free,I.nG,fun p hp=>?_,tracked ⟨oc,hoc,I.nG x c hc⟩ hs,by simpa using I.len⟩ ⟨c,hs,.inr hc⟩
  ·exact (hs.2 b (Nat.ne_of_lt (Nat.lt_of_lt_of_le (Heap.lt_size e) (I.ok.IV x c hfn hc)))).trans (I.base.keep b o e n hb hx)
  ·obtain ⟨sl,e1⟩:=I.base.slot b o e n hb hx
   exact ⟨sl,(hs.2 b (Nat.ne_of_lt (Nat.lt_of_lt_of_le (Heap.lt_size e) (I.ok.IV x c hfn hc)))).trans e1⟩
  ·obtain ⟨o',e1⟩:=I.base.there b o e hx
   exact ⟨o',(hs.2 b (Nat.ne_of_lt (Nat.lt_of_lt_of_le (Heap.lt_size e) (I.ok.IV x c hfn hc)))).trans e1⟩
  ·by_cases hj:j=i
   ·subst hj
    rw [hi] at e1;cases e1
    rw [List.getElem?_set_self Qo] at e2
    cases e2
    exact ⟨u,r,.inr ⟨.inl hk,c,hc,hc'⟩⟩
   ·rw [List.getElem?_set_ne (Ne.symm hj)] at e2
    obtain ⟨u',r',q⟩:=hl j y v' e1 e2 e3
    refine ⟨u',r',?_⟩
    rcases q with q | ⟨k,c',e,z'⟩
    ·exact .inl q
    ·refine .inr ⟨k,c',e,z'.sameBut hs ?_⟩
     rintro rfl
     exact hj (zp hN e1 (I.ok.inj _ _ _ e hc▸hi))
  ·by_cases hcc:c'=c
   ·subst hcc;exact ⟨_,hc'⟩
   ·obtain ⟨w2,z2⟩:=I.cell y c' e
    exact ⟨w2,z2.sameBut hs hcc⟩
  ·obtain ⟨e,n,ne,nf,d⟩:=I.pin p hp
   refine ⟨(hs.2 p.1 ?_).trans e,n,ne,nf,d⟩
   intro q
   rw [q,hoc] at e
   have q':oc=p.2:=Option.some.inj e
   exact d w' (by rw [← q'];exact N4)
theorem qe {M:Model} {A:Around} {E:Value→Shared→Prop} {i:Nat} {x:Str} {v:V} {u:Value} {Q:Unit→Shared→Prop} (I:Inv X pins σ H s) (hN:X.N.Nodup) (hi:X.N[i]?=some x) (hx:Loc X.env.scope x) (r:RelV v u)
 (h:∀ s',Inv X pins (σ.set i (some v)) H s'→Q () s') (hf:X.fn x=true∨X.env.scope.names.lookup x=some .local:=by first | exact .inl rfl | exact .inr rfl | assumption):wpAny M A (storeName X.env x u) Q E s:=
 CJ I hN hi hx r (fun s' I' _=>h s' I') hf
theorem Inv.Ij {s':Shared} {ch:List Addr} (I:Inv X pins σ H s) (ho:s'.os=s.os) (u:Un (frs X.stack) ch H H' s.heap s'.heap) (hok:nF X.prog X.w H' s'.heap) (hg:AllBare s'.gens)
 (hch:∀ b∈ch,(b∈X.ex∨X.s₀.heap.objs.size≤b)∧b≠X.env.locals∧(∀ x c,X.env.cells.lookup x=some c→c≠b)∧∀ p∈X.pn ++ pins,p.1≠b):Inv X pins σ H' s':=by
 obtain ⟨h',g',d',t',o'⟩:=s'
 have e:o'=s.os:=ho
 subst e
 exact I.call (g':=g') (t':=t') (d':=d') u hok hg hch
end
abbrev XK:=Value→Option Addr→Hp→Prop
abbrev St:=List (Option V)
abbrev VK:=V→Hp→Prop
abbrev TE:=St→Hp→VK→Prop
abbrev TT:=St→Hp→(Bool→Hp→Prop)→Prop
abbrev TA:=St→Hp→(List V→Hp→Prop)→Prop
structure Ends where
 nx:St→Hp→Prop
 rt:VK
 bk:St→Hp→Prop:=fun _ _=>False
 ct:St→Hp→Prop:=fun _ _=>False
abbrev TS:=Ends→St→Hp→Prop
def EP (X:Cx) (pins:List (Addr ×Obj)) (σ:St) (Q:VK) (u:Value) (s':Shared):Prop:= ∃ v H',Inv X pins σ H' s'∧RelV v u∧Q v H'
def TP (X:Cx) (pins:List (Addr ×Obj)) (σ:St) (Q:Bool→Hp→Prop) (b:Bool) (s':Shared):Prop:= ∃ H',Inv X pins σ H' s'∧Q b H'
def AP (X:Cx) (pins:List (Addr ×Obj)) (σ:St) (Q:List V→Hp→Prop) (us:List Value) (s':Shared):Prop:= ∃ vs H',Inv X pins σ H' s'∧Vals vs us∧Q vs H'
def SP (X:Cx) (pins:List (Addr ×Obj)) (D:Ends) (f:Flow) (s':Shared):Prop:=
 match f with
 | .next=> ∃ σ' H',Inv X pins σ' H' s'∧D.nx σ' H'
 | .brk=> ∃ σ' H',Inv X pins σ' H' s'∧D.bk σ' H'
 | .cont=> ∃ σ' H',Inv X pins σ' H' s'∧D.ct σ' H'
 | .ret u=> ∃ v σ' H',Inv X pins σ' H' s'∧RelV v u∧D.rt v H'
def PE (X:Cx) (e:Expr) (t:TE):Prop:=
 ∀ (pins:List (Addr ×Obj)) (s:Shared) (σ:St) (H:Hp) (Q:VK),Inv X pins σ H s→t σ H Q→wpAny (model X.prog X.w) X.A (eval e X.env) (EP X pins σ Q) X.xe s
def PT (X:Cx) (e:Expr) (t:TT):Prop:=
 ∀ (pins:List (Addr ×Obj)) (s:Shared) (σ:St) (H:Hp) (Q:Bool→Hp→Prop),Inv X pins σ H s→t σ H Q→wpAny (model X.prog X.w) X.A (isTrue e X.env (eval e X.env)) (TP X pins σ Q) X.xe s
def PW (X:Cx) (e:Expr) (t:TT):Prop:=
 ∀ (whole:Sem Value) (pins:List (Addr ×Obj)) (s:Shared) (σ:St) (H:Hp) (Q:Bool→Hp→Prop),Inv X pins σ H s→t σ H Q→wpAny (model X.prog X.w) X.A (isTrue e X.env whole) (TP X pins σ Q) X.xe s
def PA (X:Cx) (es:List Expr) (t:TA):Prop:=
 ∀ (pos:Pos) (pins:List (Addr ×Obj)) (s:Shared) (σ:St) (H:Hp) (Q:List V→Hp→Prop),Inv X pins σ H s→t σ H Q→wpAny (model X.prog X.w) X.A (spliced (backTo pos (starEach es X.env))) (AP X pins σ Q) X.xe s
def PS (X:Cx) (st:Stmt) (t:TS):Prop:=
 ∀ (pins:List (Addr ×Obj)) (s:Shared) (σ:St) (H:Hp) (D:Ends),Inv X pins σ H s→t D σ H→wpAny (model X.prog X.w) X.A (exec st X.env) (SP X pins D) X.xe s
def AG (X:Cx) (st:List Stmt) (t:TS):Prop:=
 ∀ (pins:List (Addr ×Obj)) (s:Shared) (σ:St) (H:Hp) (D:Ends),Inv X pins σ H s→t D σ H→wpAny (model X.prog X.w) X.A (execs st X.env) (SP X pins D) X.xe s
theorem dD {α:Type} {t:Sem α} {Q Q':α→Shared→Prop} {M:Model} {A:Around} {E:Value→Shared→Prop} {s:Shared} (h:wpAny M A t Q E s) (hQ:∀ a s,Q a s→Q' a s):wpAny M A t Q' E s:=wpAny_mono h hQ fun _ _ x=>x
end L2
namespace L2
open PySem PySem.Spec PyProof.Rows
section
variable {X:Cx}
def N5 (i:Nat):TE:=fun σ H Q=> ∃ v,σ[i]?=some (some v)∧Q v H
def tC (v:V):TE:=fun _ H Q=>Q v H
theorem IX {i:Nat} {x:Str} {pos:Pos} (hN:X.N[i]?=some x) (hv:NY X.env.scope x) (hd:(x == ("__debug__" :Str))=false:=by decide) (hcd:(x == ("__classdict__" :Str))=false:=by decide):PE X (.Name x pos) (N5 i):=by
 intro pins s σ H Q I h
 obtain ⟨v,e,h⟩:=h
 obtain ⟨m,hn,hl⟩:=I.loc
 obtain ⟨u,r,l⟩:=hl i x v hN e hv
 have fin:EP X pins σ Q u s:=⟨v,H,I,r,h⟩
 rcases l with ⟨hk,hm⟩ | ⟨hk,c,hc,hcell⟩
 ·exact wpAny_Name (wpAny_loadName_local I.ok.kind hk hn hm fin) hd
 ·rcases hk with hk | hk
  ·exact wpAny_Name (wpAny_loadName_cell I.ok.kind hk hc hcell fin) hd
  ·exact wpAny_Name (wpAny_loadName_free I.ok.kind hk hc hcell fin hcd) hd
theorem IY {i j pos}:PE X (.Constant (.int i) j pos) (tC (.int i)):=fun _ _ _ H _ I h=>wpAny_Constant_int ⟨.int i,H,I.tok _,⟨_,rfl⟩,h⟩
theorem Lh {b j pos}:PE X (.Constant (.bool b) j pos) (tC (.bl b)):=fun _ _ _ H _ I h=>Constant_bool ⟨.bl b,H,I,rfl,h⟩
theorem IZ {j pos}:PE X (.Constant .none j pos) (tC .bK):=fun _ _ _ H _ I h=>Constant_none ⟨.bK,H,I,rfl,h⟩
theorem I0 {x j pos}:PE X (.Constant (.str x) j pos) (tC (.str x)):=fun _ _ _ H _ I h=>Calls.Constant_str ⟨.str x,H,I.tok _,⟨_,rfl⟩,h⟩
def Gl (X:Cx) (x:Str):Prop:=X.env.kindOf x=some .globalImplicit
theorem Ge {E:Value→Shared→Prop} {pins:List (Addr ×Obj)} {s:Shared} {σ:St} {H:Hp} {x:Str} {u:Value} {pos:Pos} {Q:Value→Shared→Prop} (I:Inv X pins σ H s) (hg:Gl X x) (hm:X.mg x=some u) (h:Q u s)
 (hd:(x == ("__debug__" :Str))=false:=by decide):wpAny (model X.prog X.w) X.A (eval (.Name x pos) X.env) Q E s:=
 Calls.Name_function_global I.ok.kind hg (Calls.loadGlobal_global (by rw [I.ok.glob];exact I.mod.glob.keeps I.bk) hm h) hd
theorem lN {E:Value→Shared→Prop} {pins:List (Addr ×Obj)} {s:Shared} {σ:St} {H:Hp} {x:Str} {u:Value} {pos:Pos} {Q:Value→Shared→Prop} (I:Inv X pins σ H s) (hg:Gl X x) (hm:X.mg x=none) (hv:bootBuiltins x=some u) (h:Q u s)
 (hn:x≠"__name__" :=by decide) (hd:(x == ("__debug__" :Str))=false:=by decide):wpAny (model X.prog X.w) X.A (eval (.Name x pos) X.env) Q E s:=by
 obtain ⟨mb,h1,h2⟩:=I.mod.blt
 exact Calls.Name_function_global I.ok.kind hg (Calls.loadGlobal_builtin (by rw [I.ok.glob];exact I.mod.glob.keeps I.bk) hm (by rw [I.ok.blt];exact h1.keeps I.bk) ((h2 x hn).trans hv) h) hd
theorem Gf {x:Str} {v:V} {u:Value} {pos:Pos} (hg:Gl X x) (hm:X.mg x=none) (hv:bootBuiltins x=some u) (r:RelV v u) (hn:x≠"__name__" :=by decide) (hd:(x == ("__debug__" :Str))=false:=by decide):PE X (.Name x pos) (tC v):=
 fun _ _ _ H _ I h=>lN I hg hm hv ⟨v,H,I,r,h⟩ hn hd
variable {a b:Expr} {ta tb:TE} {pos:Pos}
def tB (t:TE):TT:=fun σ H Q=>t σ H fun x H1=> ∃ c,x= .bl c∧Q c H1
variable {tA NB:TT} {rest:List Expr}
def N6 (t u:TT):TT:=fun σ H Q=>t σ H fun c H1=>if c=true then u σ H1 Q else Q false H1
def Q8 (t u:TT):TT:=fun σ H Q=>t σ H fun c H1=>if c=true then Q true H1 else u σ H1 Q
def N7 (t:TT):TT:=fun σ H Q=>t σ H fun c H1=>Q (!c) H1
theorem pw_and1 (ha:PT X a tA):PW X (.BoolOp .And [a] pos) tA:=by
 intro wh pins s σ H Q I h
 refine isTrue_and (dD (ha pins s σ H Q I h) fun c s1 e=>?_)
 cases c with
 | true=>exact isTrue_and_nil e
 | false=>exact e
theorem pw_or1 (ha:PT X a tA):PW X (.BoolOp .Or [a] pos) tA:=by
 intro wh pins s σ H Q I h
 refine isTrue_or (dD (ha pins s σ H Q I h) fun c s1 e=>?_)
 cases c with
 | false=>exact isTrue_or_nil e
 | true=>exact e
theorem pw_and (ha:PT X a tA) (hb:PW X (.BoolOp .And (b :: rest) pos) NB):PW X (.BoolOp .And (a :: b :: rest) pos) (N6 tA NB):=by
 intro wh pins s σ H Q I h
 refine isTrue_and (dD (ha pins s σ H _ I h) fun c s1 ⟨H1,I1,q1⟩=>?_)
 cases c with
 | true=>exact hb wh pins s1 σ H1 Q I1 q1
 | false=>exact ⟨H1,I1,q1⟩
theorem pw_or (ha:PT X a tA) (hb:PW X (.BoolOp .Or (b :: rest) pos) NB):PW X (.BoolOp .Or (a :: b :: rest) pos) (Q8 tA NB):=by
 intro wh pins s σ H Q I h
 refine isTrue_or (dD (ha pins s σ H _ I h) fun c s1 ⟨H1,I1,q1⟩=>?_)
 cases c with
 | true=>exact ⟨H1,I1,q1⟩
 | false=>exact hb wh pins s1 σ H1 Q I1 q1
theorem Ja (ha:PT X a tA):PT X (.UnaryOp .Not a pos) (N7 tA):=by
 intro pins s σ H Q I h
 exact isTrue_not (ha pins s σ H (fun c H1=>Q (!c) H1) I h)
def Li (ta tb:TE):TE:=fun σ H Q=>ta σ H fun x H1=> ∃ c,x= .bl c∧if c=true then tb σ H1 Q else Q (.bl false) H1
def N8 (ta tb:TE):TE:=fun σ H Q=>ta σ H fun x H1=> ∃ c,x= .bl c∧if c=true then Q (.bl true) H1 else tb σ H1 Q
def Lj (ta:TE):TE:=fun σ H Q=>ta σ H fun x H1=> ∃ c,x= .bl c∧Q (.bl (!c)) H1
theorem Jb (ha:PE X a ta) (hb:PE X (.BoolOp .And (b :: rest) pos) tb):PE X (.BoolOp .And (a :: b :: rest) pos) (Li ta tb):=by
 intro pins s σ H Q I h
 refine BoolOp_and (dD (ha pins s σ H _ I h) fun v s1 ⟨x,H1,I1,r1,q1⟩=>?_)
 obtain ⟨c,rfl,q1⟩:=q1
 cases r1
 refine wpAny_truthy_bool ?_
 cases c with
 | true=>exact hb pins s1 σ H1 Q I1 q1
 | false=>exact ⟨.bl false,H1,I1,rfl,q1⟩
theorem Lk (ha:PE X a ta) (hb:PE X (.BoolOp .Or (b :: rest) pos) tb):PE X (.BoolOp .Or (a :: b :: rest) pos) (N8 ta tb):=by
 intro pins s σ H Q I h
 refine BoolOp_or (dD (ha pins s σ H _ I h) fun v s1 ⟨x,H1,I1,r1,q1⟩=>?_)
 obtain ⟨c,rfl,q1⟩:=q1
 cases r1
 refine wpAny_truthy_bool ?_
 cases c with
 | false=>exact hb pins s1 σ H1 Q I1 q1
 | true=>exact ⟨.bl true,H1,I1,rfl,q1⟩
theorem Jc (ha:PE X a ta):PE X (.UnaryOp .Not a pos) (Lj ta):=by
 intro pins s σ H Q I h
 refine UnaryOp_ (dD (ha pins s σ H _ I h) fun v s1 ⟨x,H1,I1,r1,q1⟩=>?_)
 obtain ⟨c,rfl,q1⟩:=q1
 cases r1
 exact not_of (wpAny_truthy_bool ⟨.bl (!c),H1,I1,rfl,q1⟩)
def Q9 (t:TT) (ta tb:TE):TE:=fun σ H Q=>t σ H fun c H1=>if c=true then ta σ H1 Q else tb σ H1 Q
theorem DH {c:Expr} (hc:PT X c tA) (ha:PE X a ta) (hb:PE X b tb):PE X (.IfExp c a b pos) (Q9 tA ta tb):=by
 intro pins s σ H Q I h
 refine wpAny_IfExp (dD (hc pins s σ H _ I h) fun d s1 ⟨H1,I1,q1⟩=>?_)
 cases d with
 | true=>exact ha pins s1 σ H1 Q I1 q1
 | false=>exact hb pins s1 σ H1 Q I1 q1
end
end L2
namespace L2
open PySem PySem.Spec PyProof.Rows
def gO (K:PySem.W.Frag) (H:Hp) (a:Addr) (xs:List V):Prop:=
 Rd H a (.lst xs)∨
  ∃ (o:Obj) (its:Array Value) (n:Nat),K.lookup a=some o∧o.cls= .type "list"∧o.dict=none∧o.data= .seq its n∧its.size≤sizeLine∧Vals xs its.toList
def vz (K:PySem.W.Frag) (H:Hp) (a:Addr) (xs:List V):Prop:=
 Rd H a (.tup xs)∨
  ∃ (o:Obj) (its:Array Value) (n:Nat),K.lookup a=some o∧o.cls= .type "tuple"∧o.data= .seq its n∧its.size≤sizeLine∧Vals xs its.toList
def Ll:Value→Option V
 | .none=>some .bK
 | .bool b=>some (.bl b)
 | .int i _=>some (.int i)
 | .str x _=>some (.str x)
 | .bytes b _=>some (.DF b)
 | .float b _=>some (.K5 b)
 | .ref a=>some (.ref a)
 | .type n=>some (.ty n)
 | _=>none
theorem RelV.abs {x:V} {u:Value} (r:RelV x u):Ll u=some x:=by
 cases x with
 | bK=>cases r;rfl
 | bl _=>cases r;rfl
 | int _=>obtain ⟨t,rfl⟩:=r;rfl
 | str _=>obtain ⟨t,rfl⟩:=r;rfl
 | DF _=>obtain ⟨t,rfl⟩:=r;rfl
 | K5 _=>obtain ⟨t,rfl⟩:=r;rfl
 | ref _=>cases r;rfl
 | ty _=>cases r;rfl
theorem RelV.inj {x y:V} {u:Value} (r:RelV x u) (q:RelV y u):x=y:=Option.some.inj (r.abs.symm.trans q.abs)
theorem Vals.inj:∀ {xs ys:List V} {us:List Value},Vals xs us→Vals ys us→xs=ys
 | _,_,_,.nil,.nil=>rfl
 | _,_,_,.cons r t,.cons r' t'=>by rw [r.inj r',Vals.inj t t']
section
variable {X:Cx} {pins:List (Addr ×Obj)} {σ:St} {H:Hp} {s:Shared} {a:Addr} {xs ys:List V}
theorem gO.of {K:PySem.W.Frag} (h:H a=some (.lst xs)):gO K H a xs:= .inl (.inl h)
theorem vz.of {K:PySem.W.Frag} (h:H a=some (.tup xs)):vz K H a xs:= .inl (.inl h)
theorem Inv.list (I:Inv X pins σ H s) (h:gO X.K H a xs):∃ its:List Value,Vals xs its∧PlainL s.heap a its.toArray∧xs.length≤sizeLine:=by
 rcases h with h | ⟨o,its,n,hk,hc,hd,hs,hz,r⟩
 ·obtain ⟨z,its,n,r,e⟩:=h.ok I.hok
  exact ⟨its,r,⟨_,n,e,rfl,rfl,rfl⟩,z⟩
 ·refine ⟨its.toList,r,⟨o,n,I.zh a o hk,hc,hd,by simpa using hs⟩,?_⟩
  have e:=r.length
  simp only [Array.length_toList] at e
  omega
theorem Inv.tuple (I:Inv X pins σ H s) (h:vz X.K H a xs):∃ its:List Value,Vals xs its∧IsTup s.heap a its.toArray∧xs.length≤sizeLine:=by
 rcases h with h | ⟨o,its,n,hk,hc,hs,hz,r⟩
 ·obtain ⟨z,its,r,p⟩:=h.ok I.hok
  exact ⟨its,r,p,z⟩
 ·refine ⟨its.toList,r,⟨o,I.zh a o hk,hc,n,by simpa using hs⟩,?_⟩
  have e:=r.length
  simp only [Array.length_toList] at e
  omega
theorem Inv.DI (I:Inv X pins σ H s) (h:gO X.K H a xs) (h':gO X.K H a ys):xs=ys:=by
 obtain ⟨its,r,⟨o,n,e,_,_,d⟩,_⟩:=I.list h
 obtain ⟨its',r',⟨o',n',e',_,_,d'⟩,_⟩:=I.list h'
 rw [e] at e';cases e'
 rw [d] at d'
 injection d' with d1 _
 have:its=its':=by simpa using congrArg Array.toList d1
 subst this
 exact r.inj r'
theorem Inv.CK (I:Inv X pins σ H s) (h:vz X.K H a xs) (h':vz X.K H a ys):xs=ys:=by
 obtain ⟨its,r,⟨o,e,_,n,d⟩,_⟩:=I.tuple h
 obtain ⟨its',r',⟨o',e',_,n',d'⟩,_⟩:=I.tuple h'
 rw [e] at e';cases e'
 rw [d] at d'
 injection d' with d1 _
 have:its=its':=by simpa using congrArg Array.toList d1
 subst this
 exact r.inj r'
end
abbrev Cx.vD (X:Cx) (E:Value→Shared→Prop):Cx:={ X with xe:=E }
abbrev Cx.FQ (X:Cx):Cx:=X.vD fun _ _=>False
theorem Cx.Ok.vD {X:Cx} (ok:X.Ok) (E:Value→Shared→Prop):(X.vD E).Ok:=
 ⟨ok.mod,ok.kind,ok.glob,ok.blt,ok.above,ok.inj,ok.has,ok.IV,ok.hd,ok.frames,ok.stk,ok.Ig,ok.bs,ok.FP,ok.zm,ok.zo,ok.qR,ok.Ih⟩
theorem Cx.Ok.nH {X:Cx} {E:Value→Shared→Prop} (ok:(X.vD E).Ok):X.Ok:=
 ⟨ok.mod,ok.kind,ok.glob,ok.blt,ok.above,ok.inj,ok.has,ok.IV,ok.hd,ok.frames,ok.stk,ok.Ig,ok.bs,ok.FP,ok.zm,ok.zo,ok.qR,ok.Ih⟩
section
variable {X:Cx} {pins:List (Addr ×Obj)} {σ:St} {H:Hp} {s:Shared} {E:Value→Shared→Prop}
theorem Inv.vD (I:Inv X pins σ H s) (E:Value→Shared→Prop):Inv (X.vD E) pins σ H s:=⟨I.ok.vD E,I.os,I.bare,I.base,I.loc,I.cell,I.free,I.nG,I.pin,I.hok,I.len⟩
theorem Inv.nH (I:Inv (X.vD E) pins σ H s):Inv X pins σ H s:=⟨I.ok.nH,I.os,I.bare,I.base,I.loc,I.cell,I.free,I.nG,I.pin,I.hok,I.len⟩
theorem SP.nH {D:Ends} {f:Flow} {s':Shared} (h:SP (X.vD E) pins D f s'):SP X pins D f s':=by
 cases f with
 | next=>obtain ⟨σ',H',I,q⟩:=h;exact ⟨σ',H',I.nH,q⟩
 | brk=>obtain ⟨σ',H',I,q⟩:=h;exact ⟨σ',H',I.nH,q⟩
 | cont=>obtain ⟨σ',H',I,q⟩:=h;exact ⟨σ',H',I.nH,q⟩
 | ret u=>obtain ⟨v,σ',H',I,r,q⟩:=h;exact ⟨v,σ',H',I.nH,r,q⟩
theorem AG.FQ {st:List Stmt} {t:TS} (h:AG X.FQ st t):AG X st t:=fun pins s σ H D I hw=>
 wpAny_mono (h pins s σ H D (I.vD _) hw) (fun _ _ q=>q.nH) fun _ _ z=>False.elim z
end
section
variable {X:Cx} {st:Stmt} {rest:List Stmt} {t u:TS} {e:Expr} {te:TE} {pos:Pos}
def Lm:TS:=fun D σ H=>D.nx σ H
def N9 (t u:TS):TS:=fun D σ H=>t { D with nx:=u D } σ H
theorem Gg:AG X [] Lm:=fun _ _ σ H _ I h=>wpAny_execs_nil ⟨σ,H,I,h⟩
theorem DJ (h1:PS X st t) (h2:AG X rest u):AG X (st :: rest) (N9 t u):=by
 intro pins s σ H D I h
 refine wpAny_execs_cons (dD (h1 pins s σ H { D with nx:=u D } I h) fun f s1 q=>?_)
 cases f with
 | next=>
   obtain ⟨σ',H',I',q⟩:=q
   exact h2 pins s1 σ' H' D I' q
 | ret v=>exact q
 | brk=>exact q
 | cont=>exact q
theorem Gh (h1:PS X st t):AG X [st] t:=by
 intro pins s σ H D I h
 refine wpAny_execs_cons (dD (h1 pins s σ H D I h) fun f s1 q=>?_)
 cases f with
 | next=>exact wpAny_execs_nil q
 | ret v=>exact q
 | brk=>exact q
 | cont=>exact q
theorem Inv.quiet {pins:List (Addr ×Obj)} {σ:St} {H:Hp} {s:Shared} (I:Inv X pins σ H s):interactive X.env=false:=by simp [interactive,I.ok.kind]
def Ln (te:TE):TS:=fun D σ H=>te σ H fun _ H1=>D.nx σ H1
theorem Gi (he:PE X e te) (hs:swapsWith e none pos.line X.env=pure false:=by rfl):PS X (.Expr e pos) (Ln te):=by
 intro pins s σ H D I h
 exact wpAny_Expr_any (dD (he pins s σ H _ I h) fun v s1 ⟨x,H1,I1,r1,q1⟩=>⟨σ,H1,I1,q1⟩) I.quiet hs
def Oa (te:TE):TS:=fun D σ H=>te σ H D.rt
theorem Jd (he:PE X e te):PS X (.Return (some e) pos) (Oa te):=by
 intro pins s σ H D I h
 exact wpAny_Return_some (dD (he pins s σ H _ I h) fun v s1 ⟨x,H1,I1,r1,q1⟩=>⟨x,σ,H1,I1,r1,q1⟩)
def Ob (c:TT) (t u:TS):TS:=fun D σ H=>c σ H fun b H1=>if b=true then t D σ H1 else u D σ H1
theorem Lo {c:Expr} {a b:List Stmt} {tc:TT} (hc:PT X c tc) (ha:AG X a t) (hb:AG X b u):PS X (.If c a b pos) (Ob tc t u):=by
 intro pins s σ H D I h
 refine wpAny_If (dD (hc pins s σ H _ I h) fun d s1 ⟨H1,I1,q1⟩=>?_)
 cases d with
 | true=>exact ha pins s1 σ H1 D I1 q1
 | false=>exact hb pins s1 σ H1 D I1 q1
end
abbrev TG:=V→St→Hp→(St→Hp→Prop)→Prop
def PG (X:Cx) (target:Expr) (t:TG):Prop:=
 ∀ (pins:List (Addr ×Obj)) (s:Shared) (σ:St) (H:Hp) (v:V) (u:Value) (Q:St→Hp→Prop),Inv X pins σ H s→RelV v u→t v σ H Q→
   wpAny (model X.prog X.w) X.A (assign target X.env u) (fun _ s'=> ∃ σ' H',Inv X pins σ' H' s'∧Q σ' H') X.xe s
section
variable {X:Cx} {pos:Pos}
def Ik (i:Nat):TG:=fun v σ H Q=>Q (σ.set i (some v)) H
theorem Gj {i:Nat} {x:Str} (hN:X.N.Nodup) (hi:X.N[i]?=some x) (hx:Loc X.env.scope x) (hf:X.fn x=true∨X.env.scope.names.lookup x=some .local:=by first | exact .inl rfl | exact .inr rfl | assumption):PG X (.Name x pos) (Ik i):=by
 intro pins s σ H v u Q I r h
 exact wpAny_assign_Name (qe I hN hi hx r (fun s' I'=>⟨_,H,I',h⟩) hf)
def Oc (te:TE) (g:TG):TS:=fun D σ H=>te σ H fun x H1=>g x σ H1 D.nx
theorem Je {i:Nat} {x:Str} {e:Expr} {te:TE} {pos':Pos} (hN:X.N.Nodup) (hi:X.N[i]?=some x) (hx:Loc X.env.scope x) (he:PE X e te) (hs:swapsWith e (some (.Name x pos')) pos.line X.env=pure false:=by rfl) (hf:X.fn x=true∨X.env.scope.names.lookup x=some .local:=by first | exact .inl rfl | exact .inr rfl | assumption) :
 PS X (.Assign [.Name x pos'] e pos) (Oc te (Ik i)):=by
 intro pins s σ H D I h
 refine wpAny_Assign_Name (dD (he pins s σ H _ I h) fun v s1 ⟨y,H1,I1,r1,q1⟩=>?_) hs
 exact qe I1 hN hi hx r1 (fun s2 I2=>⟨_,H1,I2,q1⟩) hf
def Od (i j:Nat) (ta:TA):TS:=fun D σ H=>ta σ H fun vs H1=> ∃ v w,vs= [v,w]∧D.nx ((σ.set i (some v)).set j (some w)) H1
theorem Jf {i j:Nat} {x y:Str} {a b:Expr} {ta:TA} {px py pt:Pos} {kt k2 wJ} (hc:X.calm=true) (hN:X.N.Nodup) (hi:X.N[i]?=some x) (hj:X.N[j]?=some y) (hij:i≠j)
 (hx:X.env.scope.names.lookup x=some .local) (hy:X.env.scope.names.lookup y=some .local) (ha:PA X [a,b] ta)
 (hw:swappedStores [.Tuple [.Name x px,.Name y py] kt pt] (.Tuple [a,b] k2 wJ) X.env=pure (some [x,y]))
 (hs:swapsWithSole [.Tuple [.Name x px,.Name y py] kt pt] (.Tuple [a,b] k2 wJ) pos.line X.env=pure false:=by rfl) :
 PS X (.Assign [.Tuple [.Name x px,.Name y py] kt pt] (.Tuple [a,b] k2 wJ) pos) (Od i j ta):=by
 intro pins s σ H D I h
 rw [exec_Assign_arm]
 refine wpAny_bind (wpAny_standAt ?_)
 rw [hs]
 refine wpAny_bind (wpAny_pure ?_)
 rw [if_neg (by decide)]
 refine wpAny_bind (Tuple_ (dD (ha _ pins s σ H _ I h) fun us s1 ⟨vs,H1,I1,r1,q1⟩=>?_))
 obtain ⟨v,w,e1,q1⟩:=q1
 subst e1
 obtain ⟨u1,u2,rfl,rv,rw'⟩:∃ u1 u2,us= [u1,u2]∧RelV v u1∧RelV w u2:=by
  cases r1 with
  | cons p q=>
    cases q with
    | cons p' q'=>
      cases q'
      exact ⟨_,_,rfl,p,p'⟩
 refine wpAny_newObj_type ?_ (by show 2≤sizeLine;decide)
 have I2:Inv X pins σ H1 { s1 with heap:=s1.heap.push { cls:= .type "tuple",data:= .seq [u1,u2].toArray } }:=I1.kept (t':=s1.toks) fun b o e=>Heap.get?_push_of_some _ e
 rw [hw]
 refine wpAny_bind (wpAny_pure ?_)
 show wpAny (model X.prog X.w) X.A (do rule "assign.swapped-stores";let items ← unpackItems (.ref s1.heap.objs.size) 2 none;assignInOrder [fun v=>bindName X.env y v,fun v=>bindName X.env x v] items.reverse;pure Flow.next) _ _ _
 refine wpAny_bind (wpAny_rule (wpAny_bind (unpackItems_tuple (items:= #[u1,u2]) (I.ok.hd hc) (IsTup.new s1.heap _) fun h' hx'=>?_)))
 have I3:=I2.kept (h':=h') (t':=s1.toks) fun b o e=>hx' b o (Nat.ne_of_lt (Heap.lt_size e)) e
 show wpAny _ _ (assignInOrder [fun v=>bindName X.env y v,fun v=>bindName X.env x v] [u2,u1] >>= fun _=>pure Flow.next) _ _ _
 refine wpAny_bind (assignInOrder_cons (wpAny_bindName (qe I3 hN hj (.inl hy) rw' (fun s2 I4=>?_) (.inr hy))))
 refine assignInOrder_cons (wpAny_bindName (qe I4 hN hi (.inl hx) rv (fun s3 I5=>assignInOrder_nil (wpAny_pure ?_)) (.inr hx)))
 rw [List.set_comm _ _ (Ne.symm hij)] at I5
 exact ⟨_,H1,I5,q1⟩
end
section
variable {X:Cx} {pos:Pos}
def Jg (c:TT) (tb:TS):TS:=fun D σ H=> ∃ W:Nat→St→Hp→Prop,(∃ m,W m σ H)∧∀ m σ H,W m σ H→
 c σ H fun b H1=>if b=true then ∃ N:St→Hp→Prop,(∀ σ' H',N σ' H'→∃ m',m' < m∧W m' σ' H')∧tb { D with nx:=N,ct:=N,bk:=D.nx } σ H1 else D.nx σ H1
theorem DL {c:Expr} {body:List Stmt} {tc:TT} {tb:TS} (hp:PassesOwn (model X.prog X.w) X.A X.env X.xe) (hc:PT X c tc) (hb:AG X body tb):PS X (.While c body [] pos) (Jg tc tb):=by
 intro pins s σ H D I h
 obtain ⟨W,⟨m0,w0⟩,turn⟩:=h
 refine wpAny_While (codeAny_whileLoop (fun n s'=> ∃ σ' H',Inv X pins σ' H' s'∧W n σ' H') ?_ m0 ⟨σ,H,I,w0⟩)
 rintro n s1 ⟨σ1,H1,I1,w1⟩
 refine wpAny_passesOwn hp (dD (hc pins s1 σ1 H1 _ I1 (turn n σ1 H1 w1)) fun b s2 ⟨H2,I2,q2⟩=>?_)
 cases b with
 | true=>
   obtain ⟨N,hN,q2⟩:=q2
   rw [if_pos rfl]
   refine wpAny_passesOwn hp (dD (hb pins s2 σ1 H2 _ I2 q2) fun f s3 q3=>?_)
   cases f with
   | next=>
     obtain ⟨σ3,H3,I3,n3⟩:=q3
     obtain ⟨m',hm,w3⟩:=hN σ3 H3 n3
     exact ⟨m',hm,σ3,H3,I3,w3⟩
   | cont=>
     obtain ⟨σ3,H3,I3,n3⟩:=q3
     obtain ⟨m',hm,w3⟩:=hN σ3 H3 n3
     exact ⟨m',hm,σ3,H3,I3,w3⟩
   | brk=>exact q3
   | ret v=>exact q3
 | false=>
   rw [if_neg Bool.false_ne_true]
   exact wpAny_execs_nil ⟨σ1,H2,I2,q2⟩
end
structure It where
 go:Nat→Hp→Prop
 FT:Nat→Hp→V→Hp→Prop
 stop:Nat→Hp→Prop
def iE (X:Cx) (pins:List (Addr ×Obj)) (H:Hp) (b:Addr):Prop:=
 H b=none∧b≠X.env.locals∧b∉X.fs∧(b∈X.ex∨X.s₀.heap.objs.size≤b)∧(∀ x c,X.env.cells.lookup x=some c→c≠b)∧∀ p∈X.pn ++ pins,p.1≠b
theorem Inv.CL {X:Cx} {pins:List (Addr ×Obj)} {σ:St} {H H':Hp} {s:Shared} {b:Addr} (I:Inv X pins σ H s) (hb:s.heap.objs.size≤b) (hn:H' b=none):iE X pins H' b:=by
 refine ⟨hn,Nat.ne_of_gt (Nat.lt_of_lt_of_le I.lt hb),I.N1 hb,.inr (Nat.le_trans I.sz hb),fun x c e z=>?_,fun p hp z=>?_⟩
 ·obtain ⟨v,q⟩:=I.cell x c e
  exact absurd (Nat.lt_of_lt_of_le q.lt (by rw [z];exact hb)) (Nat.lt_irrefl _)
 ·exact absurd (Nat.lt_of_lt_of_le (Heap.lt_size (I.pin p hp).1) (by rw [z];exact hb)) (Nat.lt_irrefl _)
structure Turn (P:Program) (w:World) (K:PySem.W.Frag) (tg:Expr) (J:It) (fp:List Addr) (it:Addr) (tn:Nat→Heap→Prop):Prop where
 mem:it∈fp
 obj:∀ i h,tn i h→∀ b∈fp,∃ o,h.get? b=some o∧∀ v,o.data≠ .cell v
 keep:∀ i h h',tn i h→(∀ b∈fp,∀ o,h.get? b=some o→h'.get? b=some o)→tn i h'
 item:∀ (X:Cx),X.prog=P→X.w=w→X.K=K→X.calm=true→∀ (i:Nat) (pins:List (Addr ×Obj)) (s:Shared) (σ:St) (H:Hp) (E:Value→Shared→Prop),Inv X pins σ H s→(∀ b∈fp,iE X pins H b)→tn i s.heap→J.go i H→
  wpAny (model P w) X.A (pyNext (.ref it)) (fun r s1=> ∃ u,r=some u∧
   wpAny (model P w) X.A (letOwnedTupleGo tg (.ref it) u) (fun _ s2=> ∃ x H',Inv X pins σ H' s2∧RelV x u∧J.FT i H x H'∧tn (i+1) s2.heap∧∀ b∈fp,H' b=none) E s1) E s
 done:∀ (X:Cx),X.prog=P→X.w=w→X.K=K→X.calm=true→∀ (i:Nat) (pins:List (Addr ×Obj)) (s:Shared) (σ:St) (H:Hp) (E:Value→Shared→Prop),Inv X pins σ H s→(∀ b∈fp,iE X pins H b)→tn i s.heap→J.stop i H→
  wpAny (model P w) X.A (pyNext (.ref it)) (fun r s1=>r=none∧Inv X pins σ H s1) E s
 self:∀ (A:Around) (i:Nat) (s:Shared) (Q:Value→Shared→Prop) (E:Value→Shared→Prop),tn i s.heap→Q (.ref it) s→wpAny (model P w) A (pyIter (.ref it)) Q E s
abbrev TI:=St→Hp→(It→Hp→Prop)→Prop
def NC (X:Cx) (pins:List (Addr ×Obj)) (σ:St) (tg:Expr) (R:It→Hp→Prop) (itv:Value) (s2:Shared):Prop:=
 ∃ (it:Addr) (fp:List Addr) (tn:Nat→Heap→Prop) (J:It) (H':Hp),itv= .ref it∧Inv X pins σ H' s2∧Turn X.prog X.w X.K tg J fp it tn∧tn 0 s2.heap∧(∀ b∈fp,iE X pins H' b)∧R J H'
def PI (X:Cx) (tg iter:Expr) (wi:TI):Prop:=
 ∀ (pins:List (Addr ×Obj)) (s:Shared) (σ:St) (H:Hp) (R:It→Hp→Prop),Inv X pins σ H s→wi σ H R→
   wpAny (model X.prog X.w) X.A (eval iter X.env) (fun v s1=>wpAny (model X.prog X.w) X.A (pyIter v) (NC X pins σ tg R) X.xe s1) X.xe s
theorem DM {M:Model} {A:Around} {E:Value→Shared→Prop} {s:Shared} {tg:Expr} {it:Addr} {u:Value} {o:Obj} {n:String} {vs:Array Value} {Q:Unit→Shared→Prop} (ho:s.heap.get? it=some o) (hc:o.cls= .type n) (hd:o.data= .fields vs)
 (hn: ["enumerate","zip","dict_itemiterator","dict_reverseitemiterator","odict_iterator","itertools.zip_longest","itertools.pairwise"].contains n=false) (hQ:Q () s):wpAny M A (letOwnedTupleGo tg (.ref it) u) Q E s:=by
 unfold letOwnedTupleGo
 cases tg <;> first
  | exact wpAny_pure hQ
  | (cases u <;> first
   | exact wpAny_pure hQ
   | (refine wpAny_bind (wpAny_load ho ?_)
      rw [hc,hd]
      show wpAny M A (if (["enumerate","zip","dict_itemiterator","dict_reverseitemiterator","odict_iterator","itertools.zip_longest","itertools.pairwise"].contains n && vs[0]? == some (rawInt _))=true then _ else _) Q E s
      rw [if_neg (by intro h;rw [hn,Bool.false_and] at h;cases h)]
      exact wpAny_pure hQ))
def Oe (K:PySem.W.Frag) (a:Addr):It:=
 ⟨fun i H=> ∃ xs x,gO K H a xs∧xs[i]?=some x,fun i H x H'=>H'=H∧∀ xs,gO K H a xs→xs[i]?=some x,fun i H=> ∃ xs,gO K H a xs∧xs.length≤i⟩
def Of (K:PySem.W.Frag) (a:Addr):It:=
 ⟨fun i H=> ∃ xs x,vz K H a xs∧xs[i]?=some x,fun i H x H'=>H'=H∧∀ xs,vz K H a xs→xs[i]?=some x,fun i H=> ∃ xs,vz K H a xs∧xs.length≤i⟩
def ND (lo:Int) (n:Nat):It:=⟨fun i _=>i < n,fun i H x H'=>H'=H∧x= .int (lo+i),fun i _=>n≤i⟩
theorem CM {P:Program} {w:World} {K:PySem.W.Frag} {tg:Expr} (a it:Addr):Turn P w K tg (Oe K a) [it] it (fun i h=>h.IsListIter it a i) where
 mem:=by simp
 obj:=fun i h st b hb=>by
  have e:b=it:=by simpa using hb
  subst e
  obtain ⟨o,e,c,d⟩:=st
  exact ⟨o,e,fun v z=>by rw [d] at z;cases z⟩
 keep:=fun i h h' st k=>st.at fun o e=>k it (by simp) o e
 item:=by
  intro X hP hw hK hc i pins s σ H E I hf st hg
  subst hP hw hK
  obtain ⟨xs,x,hq,hx⟩:=hg
  obtain ⟨its,rv,p,hz⟩:=I.list hq
  obtain ⟨u,hu,ru⟩:=rv.get hx
  obtain ⟨f0,f1,f2,f3,f4,f5⟩:=hf it (by simp)
  refine wpAny_pyNext_list_item st p.isList (x:=u) (by simpa using hu) fun h' st' sb=>?_
  have I1:Inv X pins σ H { s with heap:=h' }:=I.turned (t':=s.toks) (fun b o hb e=>(sb.2 b hb).trans e) f0 f1 f3 f4 f5
  obtain ⟨o,e,c,d⟩:=id st'
  exact ⟨u,rfl,DM (s:={ s with heap:=h' }) e c d (by decide) ⟨x,H,I1,ru,⟨rfl,fun ys hy=>by rw [I.DI hy hq];exact hx⟩,st',fun b hb=>(hf b hb).1⟩⟩
 done:=by
  intro X hP hw hK hc i pins s σ H E I hf st hg
  subst hP hw hK
  obtain ⟨xs,hq,hx⟩:=hg
  obtain ⟨its,rv,p,hz⟩:=I.list hq
  obtain ⟨f0,f1,f2,f3,f4,f5⟩:=hf it (by simp)
  have hl:=rv.length
  exact wpAny_pyNext_list_end (I.ok.hd hc) st p.isList (by simp;omega) fun h' eb=>⟨rfl,I.turned (t':=s.toks) (fun b o hb e=>eb b o hb e) f0 f1 f3 f4 f5⟩
 self:=fun _ _ _ _ _ st h=>wpAny_pyIter_listiter st h
theorem AH {P:Program} {w:World} {K:PySem.W.Frag} {tg:Expr} (a it:Addr):Turn P w K tg (Of K a) [it] it (fun i h=>h.IsTupleIter it a i) where
 mem:=by simp
 obj:=fun i h st b hb=>by
  have e:b=it:=by simpa using hb
  subst e
  obtain ⟨o,e,c,d⟩:=st
  exact ⟨o,e,fun v z=>by rw [d] at z;cases z⟩
 keep:=fun i h h' st k=>st.at fun o e=>k it (by simp) o e
 item:=by
  intro X hP hw hK hc i pins s σ H E I hf st hg
  subst hP hw hK
  obtain ⟨xs,x,hq,hx⟩:=hg
  obtain ⟨its,rv,p,hz⟩:=I.tuple hq
  obtain ⟨u,hu,ru⟩:=rv.get hx
  obtain ⟨f0,f1,f2,f3,f4,f5⟩:=hf it (by simp)
  refine wpAny_pyNext_tuple_item st (show s.heap.IsTuple a its.toArray from p) (x:=u) (by simpa using hu) fun h' st' sb=>?_
  have I1:Inv X pins σ H { s with heap:=h' }:=I.turned (t':=s.toks) (fun b o hb e=>(sb.2 b hb).trans e) f0 f1 f3 f4 f5
  obtain ⟨o,e,c,d⟩:=id st'
  exact ⟨u,rfl,DM (s:={ s with heap:=h' }) e c d (by decide) ⟨x,H,I1,ru,⟨rfl,fun ys hy=>by rw [I.CK hy hq];exact hx⟩,st',fun b hb=>(hf b hb).1⟩⟩
 done:=by
  intro X hP hw hK hc i pins s σ H E I hf st hg
  subst hP hw hK
  obtain ⟨xs,hq,hx⟩:=hg
  obtain ⟨its,rv,p,hz⟩:=I.tuple hq
  obtain ⟨f0,f1,f2,f3,f4,f5⟩:=hf it (by simp)
  have hl:=rv.length
  exact wpAny_pyNext_tuple_end (I.ok.hd hc) st (show s.heap.IsTuple a its.toArray from p) (by simp;omega) fun h' eb=>⟨rfl,I.turned (t':=s.toks) (fun b o hb e=>eb b o hb e) f0 f1 f3 f4 f5⟩
 self:=fun _ _ _ _ _ st h=>wpAny_pyIter_tupleiter st h
theorem AI {P:Program} {w:World} {K:PySem.W.Frag} {tg:Expr} (it:Addr) (lo:Int) (n:Nat):Turn P w K tg (ND lo n) [it] it (fun i h=>IsRangeIter h it (lo+(i:Nat)*1) ((n:Int) - (i:Nat)) 1) where
 mem:=by simp
 obj:=fun i h st b hb=>by
  have e:b=it:=by simpa using hb
  subst e
  exact ⟨_,st,fun v z=>by
   have z':Data.fields _=Data.cell v:=z
   cases z'⟩
 keep:=fun i h h' st k=>k it (by simp) _ st
 item:=by
  intro X hP hw hK hc i pins s σ H E I hf st hg
  subst hP hw hK
  obtain ⟨f0,f1,f2,f3,f4,f5⟩:=hf it (by simp)
  have W:=Walks.range (prog:=X.prog) (w:=X.w) (I.ok.hd hc) it lo 1 n
  refine W.item i s _ _ hg st fun v h' tk hv st' kk=>?_
  obtain ⟨t,rfl⟩:=hv
  have I1:Inv X pins σ H { s with heap:=h',toks:=tk }:=I.turned (fun b o hb e=>kk b o (by simpa using hb) e) f0 f1 f3 f4 f5
  refine ⟨_,rfl,DM (s:={ s with heap:=h',toks:=tk }) (n:= "range_iterator") st' rfl rfl (by decide) ⟨.int (lo+i),H,I1,⟨t,?_⟩,⟨rfl,rfl⟩,st',fun b hb=>(hf b hb).1⟩⟩
  rw [Int.mul_one]
 done:=by
  intro X hP hw hK hc i pins s σ H E I hf st hg
  subst hP hw hK
  obtain ⟨f0,f1,f2,f3,f4,f5⟩:=hf it (by simp)
  exact wpAny_pyNext_range_end (I.ok.hd hc) st (by have:n≤i:=hg;omega) fun h' eb=>⟨rfl,I.turned (t':=s.toks) (fun b o hb e=>eb b o hb e) f0 f1 f3 f4 f5⟩
 self:=fun _ _ _ _ _ st h=>wpAny_pyIter_rangeiter st h
end L2
namespace L2
open PySem PySem.Spec PyProof.Rows
section
variable {X:Cx} {tg:Expr}
def Lp (K:PySem.W.Frag) (tl:TE):TI:=fun σ H R=>tl σ H fun x H1=> ∃ a,x= .ref a∧(∃ xs,gO K H1 a xs)∧R (Oe K a) H1
def Og (K:PySem.W.Frag) (tl:TE):TI:=fun σ H R=>tl σ H fun x H1=> ∃ a,x= .ref a∧(∃ xs,vz K H1 a xs)∧R (Of K a) H1
theorem xV {l:Expr} {tl:TE} (hl:PE X l tl):PI X tg l (Lp X.K tl):=by
 intro pins s σ H R I h
 refine dD (hl pins s σ H _ I h) fun v s1 ⟨x,H1,I1,r1,q1⟩=>?_
 obtain ⟨a,e,⟨xs,hq⟩,q⟩:=q1
 subst e
 cases r1
 obtain ⟨its,rv,p,hz⟩:=I1.list hq
 refine wpAny_pyIter_list p.isList ?_
 refine ⟨s1.heap.objs.size,[s1.heap.objs.size],_,_,H1,rfl,I1.kept (t':=s1.toks) fun b o e=>Heap.get?_push_of_some _ e,CM a _,⟨_,Heap.get?_push_size _ rfl,rfl,rfl⟩,fun b hb=>?_,q⟩
 have e:b=s1.heap.objs.size:=by simpa using hb
 subst e
 exact I1.CL (Nat.le_refl _) (I1.hok.fresh (Nat.le_refl _))
theorem DN {l:Expr} {tl:TE} (hl:PE X l tl):PI X tg l (Og X.K tl):=by
 intro pins s σ H R I h
 refine dD (hl pins s σ H _ I h) fun v s1 ⟨x,H1,I1,r1,q1⟩=>?_
 obtain ⟨a,e,⟨xs,hq⟩,q⟩:=q1
 subst e
 cases r1
 obtain ⟨its,rv,p,hz⟩:=I1.tuple hq
 refine wpAny_pyIter_tuple (show s1.heap.IsTuple a its.toArray from p) ?_
 refine ⟨s1.heap.objs.size,[s1.heap.objs.size],_,_,H1,rfl,I1.kept (t':=s1.toks) fun b o e=>Heap.get?_push_of_some _ e,AH a _,⟨_,Heap.get?_push_size _ rfl,rfl,rfl⟩,fun b hb=>?_,q⟩
 have e:b=s1.heap.objs.size:=by simpa using hb
 subst e
 exact I1.CL (Nat.le_refl _) (I1.hok.fresh (Nat.le_refl _))
theorem DO {pins:List (Addr ×Obj)} {σ:St} {H:Hp} {s:Shared} {R:It→Hp→Prop} {E:Value→Shared→Prop} {lo hi:Int} {t u v:Tok} {tk:Nat} (I:Inv X pins σ H s) (h1: -(2 ^ 62)≤lo) (h2:lo < 2 ^ 62) (h3: -(2 ^ 62)≤hi) (h4:hi < 2 ^ 62)
 (q:R (ND lo (hi - lo).toNat) H):wpAny (model X.prog X.w) X.A (pyIter (.ref s.heap.objs.size)) (NC X pins σ tg R) E { s with heap:=s.heap.push { cls:= .type "range",data:= .fields #[.int lo t,.int hi u,.int 1 v] },toks:=tk }:=by
 refine wpAny_pyIter_range (IsRange.new ..) (small_one h1 h2 h3 h4) ?_
 have I1:Inv X pins σ H { s with heap:=s.heap.push { cls:= .type "range",data:= .fields #[.int lo t,.int hi u,.int 1 v] },toks:=tk }:=I.kept fun b o e=>Heap.get?_push_of_some _ e
 refine ⟨(s.heap.push { cls:= .type "range",data:= .fields #[.int lo t,.int hi u,.int 1 v] }).objs.size,[(s.heap.push { cls:= .type "range",data:= .fields #[.int lo t,.int hi u,.int 1 v] }).objs.size],_,_,H,rfl,
  I1.kept (t':=tk) fun b o e=>Heap.get?_push_of_some _ e,AI _ lo (hi - lo).toNat,?_,fun b hb=>?_,q⟩
 ·have e1:lo+((0:Nat):Int)*1=lo:=by simp
  have e2:(((hi - lo).toNat:Nat):Int) - ((0:Nat):Int)=Builtin.Range.rangeSize lo hi 1:=by rw [rangeSize_one];split <;> omega
  show IsRangeIter _ _ (lo+((0:Nat):Int)*1) ((((hi - lo).toNat:Nat):Int) - ((0:Nat):Int)) 1
  rw [e1,e2]
  exact Heap.get?_push_size _ rfl
 ·have e:b=(s.heap.push { cls:= .type "range",data:= .fields #[.int lo t,.int hi u,.int 1 v] }).objs.size:=by simpa using hb
  subst e
  exact I1.CL (Nat.le_refl _) (I1.hok.fresh (Nat.le_refl _))
def Lq (ta:TA):TI:=fun σ H R=>ta σ H fun vs H1=> ∃ j:Int,vs= [.int j]∧ -(2 ^ 62)≤j∧j < 2 ^ 62∧R (ND 0 j.toNat) H1
theorem wK {a:Expr} {ta:TA} {p pos:Pos} (hg:Gl X "range") (hm:X.mg "range" =none) (ha:PA X [a] ta) (hs:starEach [a] X.env= [(false,eval a X.env)]:=by rfl):PI X tg (.Call (.Name "range" p) [a] [] pos) (Lq ta):=by
 intro pins s σ H R I h
 refine Call_ (lN I hg hm boot_range (PyProof.Rows.callWith_type1 (dD (ha pos pins s σ H _ I h) fun us s1 ⟨vs,H1,I1,r1,q1⟩=>?_) hs rfl))
 obtain ⟨j,e,q1,q2,q⟩:=q1
 subst e
 cases r1 with
 | cons r rr=>
   cases rr
   obtain ⟨t,rfl⟩:=r
   exact call_range_1 (DO I1 (by omega) (by omega) q1 q2 (by simpa using q))
def Oh (wi:TI) (g:TG) (tb:TS):TS:=fun D σ H=>wi σ H fun J H1=> ∃ W:Nat→Nat→St→Hp→Prop,(∃ m,W 0 m σ H1)∧∀ i m σ H,W i m σ H→
 (J.stop i H∧D.nx σ H)∨(J.go i H∧∃ N:St→Hp→Prop,(∀ σ' H',N σ' H'→∃ m',m' < m∧W (i+1) m' σ' H')∧∀ x H',J.FT i H x H'→g x σ H' fun σ2 H2=>tb { D with nx:=N,ct:=N,bk:=D.nx } σ2 H2)
def qS (fp:List Addr) (h:Heap):List (Addr ×Obj):=fp.filterMap fun b=>(h.get? b).map fun o=>(b,o)
theorem lO {fp:List Addr} {h:Heap} {b:Addr} {o:Obj} (hb:b∈fp) (e:h.get? b=some o):(b,o)∈qS fp h:=List.mem_filterMap.mpr ⟨b,hb,by rw [e];rfl⟩
theorem CN {fp:List Addr} {h:Heap} {p:Addr ×Obj} (hp:p∈qS fp h):p.1∈fp∧h.get? p.1=some p.2:=by
 obtain ⟨b,hb,e⟩:=List.mem_filterMap.mp hp
 cases q:h.get? b with
 | none=>rw [q] at e;cases e
 | some o=>
   rw [q] at e
   have e':(b,o)=p:=Option.some.inj e
   subst e'
   exact ⟨hb,q⟩
theorem Inv.pinned {pins:List (Addr ×Obj)} {σ:St} {H:Hp} {s:Shared} {fp:List Addr} (I:Inv X pins σ H s) (hf:∀ b∈fp,iE X pins H b) (ho:∀ b∈fp,∃ o,s.heap.get? b=some o∧∀ v,o.data≠ .cell v):Inv X (pins ++ qS fp s.heap) σ H s:=
 I.sU fun p hp=>(List.mem_append.mp hp).elim (fun z=>I.pin p (List.mem_append_right _ z)) fun z=>by
   obtain ⟨hb,e⟩:=CN z
   obtain ⟨f0,f1,f2,_⟩:=hf p.1 hb
   obtain ⟨o,e',d⟩:=ho p.1 hb
   rw [e] at e';cases e'
   exact ⟨e,f0,f1,f2,d⟩
theorem Inv.iS {pins pl:List (Addr ×Obj)} {σ:St} {H:Hp} {s:Shared} (I:Inv X (pins ++ pl) σ H s):Inv X pins σ H s:=I.sU fun p hp=>I.pin p (List.mem_append_right _ (List.mem_append_left _ hp))
theorem AJ {iter:Expr} {body:List Stmt} {wi:TI} {g:TG} {tb:TS} {pos:Pos} (hp:PassesOwn (model X.prog X.w) X.A X.env X.xe) (hc:X.calm=true) (hi:PI X tg iter wi) (hg:PG X tg g) (hb:AG X body tb)
 (hs:∀ x,foldedSetIterable iter X.env x=pure x:=by intro _;rfl):PS X (.For tg iter body [] pos) (Oh wi g tb):=by
 intro pins s σ H D I h
 refine wpAny_For (dD (hi pins s σ H _ I h) fun v s1 h1=>dD h1 fun itv s2 h2=>?_) hs
 obtain ⟨it,fp,tn,J,H2,e,I2,T,st2,f2,W,⟨m0,w0⟩,turn⟩:=h2
 subst e
 have stat:∀ {H':Hp},(∀ b∈fp,H' b=none)→∀ b∈fp,iE X pins H' b:=fun hn b hb=>⟨hn b hb,(f2 b hb).2⟩
 refine codeAny_forLoop_any (fun n s'=> ∃ i σ' H',Inv X pins σ' H' s'∧tn i s'.heap∧(∀ b∈fp,H' b=none)∧W i n σ' H') ?_ m0 ⟨0,σ,H2,I2,st2,fun b hb=>(f2 b hb).1,w0⟩
 rintro n s3 ⟨i,σ3,H3,I3,st3,Qp,w3⟩
 rcases turn i n σ3 H3 w3 with ⟨stop,qn⟩ | ⟨go,N,hN,step⟩
 ·refine wpAny_passesOwn hp (dD (T.done X rfl rfl rfl hc i pins s3 σ3 H3 X.xe I3 (stat Qp) st3 stop) fun r s4 ⟨hr,I4⟩=>?_)
  subst hr
  exact wpAny_execs_nil ⟨σ3,H3,I4,qn⟩
 ·refine wpAny_passesOwn hp (dD (T.item X rfl rfl rfl hc i pins s3 σ3 H3 X.xe I3 (stat Qp) st3 go) fun r s4 ⟨u,hr,h4⟩=>?_)
  subst hr
  refine wpAny_passesOwn hp (dD h4 fun _ s5 ⟨x,H5,I5,r5,y5,Gk,BS⟩=>?_)
  have Ra:=I5.pinned (stat BS) (T.obj _ _ Gk)
  refine wpAny_passesOwn hp (dD (hg _ s5 σ3 H5 x u _ Ra r5 (step x H5 y5)) fun _ s6 ⟨σ6,H6,I6,q6⟩=>?_)
  refine wpAny_passesOwn hp (dD (hb _ s6 σ6 H6 _ I6 q6) fun f s7 q7=>?_)
  have again:∀ {σ7:St} {H7:Hp},Inv X (pins ++ qS fp s5.heap) σ7 H7 s7→N σ7 H7→∃ m,m < n∧∃ i σ' H',Inv X pins σ' H' s7∧tn i s7.heap∧(∀ b∈fp,H' b=none)∧W i m σ' H':=fun {σ7 H7} I7 n7=>by
   obtain ⟨m',hm,w7⟩:=hN σ7 H7 n7
   refine ⟨m',hm,i+1,σ7,H7,I7.iS,T.keep _ _ _ Gk fun b hb o e=>(I7.pin (b,o) (List.mem_append_right _ (List.mem_append_right _ (lO hb e)))).1,fun b hb=>?_,w7⟩
   obtain ⟨o,e,d⟩:=T.obj _ _ Gk b hb
   exact (I7.pin (b,o) (List.mem_append_right _ (List.mem_append_right _ (lO hb e)))).2.1
  cases f with
  | next=>obtain ⟨σ7,H7,I7,n7⟩:=q7;exact again I7 n7
  | cont=>obtain ⟨σ7,H7,I7,n7⟩:=q7;exact again I7 n7
  | brk=>obtain ⟨σ7,H7,I7,q7⟩:=q7;exact ⟨σ7,H7,I7.iS,q7⟩
  | ret v=>obtain ⟨x7,σ7,H7,I7,r7,q7⟩:=q7;exact ⟨x7,σ7,H7,I7.iS,r7,q7⟩
end
end L2
namespace L2
open PySem PySem.Spec PyProof.Rows
abbrev R2:=V→V→Hp→VK→Prop
def xW (X:Cx) (f:Value→Value→Sem Value) (r:R2):Prop:=
 ∀ (pins:List (Addr ×Obj)) (s:Shared) (σ:St) (H:Hp) (x y:V) (v u:Value) (Q:VK),Inv X pins σ H s→RelV x v→RelV y u→r x y H Q→
   wpAny (model X.prog X.w) X.A (f v u) (EP X pins σ Q) X.xe s
def Oi (X:Cx) (f:Value→Sem Value) (r:V→Hp→VK→Prop):Prop:=
 ∀ (pins:List (Addr ×Obj)) (s:Shared) (σ:St) (H:Hp) (x:V) (v:Value) (Q:VK),Inv X pins σ H s→RelV x v→r x H Q→
   wpAny (model X.prog X.w) X.A (f v) (EP X pins σ Q) X.xe s
def BU (X:Cx) (f:Value) (r:List V→Hp→VK→Prop):Prop:=
 ∀ (pins:List (Addr ×Obj)) (s:Shared) (σ:St) (H:Hp) (xs:List V) (us:List Value) (Q:VK),Inv X pins σ H s→Vals xs us→r xs H Q→
   wpAny (model X.prog X.w) X.A (call f us) (EP X pins σ Q) X.xe s
def Rb (r:R2) (ta tb:TE):TE:=fun σ H Q=>ta σ H fun x H1=>tb σ H1 fun y H2=>r x y H2 Q
def Rc (r:V→Hp→VK→Prop) (ta:TE):TE:=fun σ H Q=>ta σ H fun x H1=>r x H1 Q
def rI (C:Int→Int→Prop) (g:Int→Int→V):R2:=fun x y H Q=> ∃ i j,x= .int i∧y= .int j∧C i j∧Q (g i j) H
def FU (g:Int→Int→V):R2:=fun x y H Q=> ∃ i j,x= .int i∧y= .int j∧Q (g i j) H
def rU (g:Int→V):V→Hp→VK→Prop:=fun x H Q=> ∃ i,x= .int i∧Q (g i) H
section
variable {X:Cx} {a b c:Expr} {ta tb tc:TE} {pos:Pos}
theorem Oj (ha:PE X a ta) (hb:PE X b tb) {pins:List (Addr ×Obj)} {s:Shared} {σ:St} {H:Hp} {R:V→V→Hp→Prop} (I:Inv X pins σ H s)
 (h:ta σ H fun x H1=>tb σ H1 fun y H2=>R x y H2) {Q:Value→Shared→Prop} {f:Value→Value→Sem Value}
 (hf:∀ v u s2 x y H2,Inv X pins σ H2 s2→RelV x v→RelV y u→R x y H2→wpAny (model X.prog X.w) X.A (f v u) Q X.xe s2) :
 wpAny (model X.prog X.w) X.A (eval a X.env) (fun v s₁=>wpAny (model X.prog X.w) X.A (eval b X.env) (fun u s₂=>wpAny (model X.prog X.w) X.A (f v u) Q X.xe s₂) X.xe s₁) X.xe s:=by
 refine dD (ha pins s σ H _ I h) fun v s1 ⟨x,H1,I1,r1,q1⟩=>?_
 refine dD (hb pins s1 σ H1 _ I1 q1) fun u s2 ⟨y,H2,I2,r2,q2⟩=>?_
 exact hf v u s2 x y H2 I2 r1 r2 q2
theorem Lr {op:UnaryOp} {r:V→Hp→VK→Prop} (ho:Oi X (unaryOp op) r) (ha:PE X a ta):PE X (.UnaryOp op a pos) (Rc r ta):=by
 intro pins s σ H Q I h
 exact UnaryOp_ (dD (ha pins s σ H _ I h) fun v s1 ⟨x,H1,I1,r1,q1⟩=>ho pins s1 σ H1 x v Q I1 r1 q1)
theorem Lu {f:Value→Value→Sem Value} {C:Int→Int→Prop} {g:Int→Int→Int}
 (rule:∀ (i j:Int) (t u:Tok) (s:Shared) (Q:Value→Shared→Prop) (E:Value→Shared→Prop),C i j→Q (.int (g i j) s.toks) { s with toks:=s.toks+1 }→wpAny (model X.prog X.w) X.A (f (.int i t) (.int j u)) Q E s) :
 xW X f (rI C fun i j=> .int (g i j)):=by
 intro pins s σ H x y v u Q I rx ry h
 obtain ⟨i,j,rfl,rfl,hc,q⟩:=h
 obtain ⟨t,rfl⟩:=rx
 obtain ⟨t',rfl⟩:=ry
 exact rule i j t t' s _ _ hc ⟨.int (g i j),H,I.tok _,⟨_,rfl⟩,q⟩
theorem Lv {f:Value→Value→Sem Value} {g:Int→Int→Int}
 (rule:∀ (i j:Int) (t u:Tok) (s:Shared) (Q:Value→Shared→Prop) (E:Value→Shared→Prop),Q (.int (g i j) s.toks) { s with toks:=s.toks+1 }→wpAny (model X.prog X.w) X.A (f (.int i t) (.int j u)) Q E s) :
 xW X f (FU fun i j=> .int (g i j)):=by
 intro pins s σ H x y v u Q I rx ry h
 obtain ⟨i,j,rfl,rfl,q⟩:=h
 obtain ⟨t,rfl⟩:=rx
 obtain ⟨t',rfl⟩:=ry
 exact rule i j t t' s _ _ ⟨.int (g i j),H,I.tok _,⟨_,rfl⟩,q⟩
theorem Gm {f:Value→Value→Sem Value} {g:Int→Int→Bool}
 (rule:∀ (i j:Int) (t u:Tok) (s:Shared) (Q:Value→Shared→Prop) (E:Value→Shared→Prop),Q (.bool (g i j)) s→wpAny (model X.prog X.w) X.A (f (.int i t) (.int j u)) Q E s) :
 xW X f (FU fun i j=> .bl (g i j)):=by
 intro pins s σ H x y v u Q I rx ry h
 obtain ⟨i,j,rfl,rfl,q⟩:=h
 obtain ⟨t,rfl⟩:=rx
 obtain ⟨t',rfl⟩:=ry
 exact rule i j t t' s _ _ ⟨.bl (g i j),H,I,rfl,q⟩
def Jh (i j:Int):Prop:=(-(2 ^ 64) < i∧i < 2 ^ 64)∨(-(2 ^ 64) < j∧j < 2 ^ 64)
theorem Jh.ok {i j:Int} (h:Jh i j):IntMulOk i j:=by
 rcases h with ⟨h1,h2⟩ | ⟨h1,h2⟩
 ·exact .of_left (intBits_le_64 h1 h2)
 ·exact .of_right (intBits_le_64 h1 h2)
theorem Ji:xW X (binaryOp .Add) (FU fun i j=> .int (i+j)):=Lv fun _ _ _ _ _ _ _ q=>add_int q
theorem Jj:xW X (binaryOp .Sub) (FU fun i j=> .int (i - j)):=Lv fun _ _ _ _ _ _ _ q=>sub_int q
theorem Jk:xW X (binaryOp .Mod) (rI (fun _ j=>0 < j) fun i j=> .int (i % j)):=Lu fun i j _ _ _ _ _ hc q=>by
 have h1:(0:Int) < j:=hc
 exact mod_int' (by omega) (by rw [Int.fmod_eq_emod_of_nonneg i (by omega)];exact q)
theorem Rf {f:Value→Sem Value} {g:Int→Int}
 (rule:∀ (i:Int) (t:Tok) (s:Shared) (Q:Value→Shared→Prop) (E:Value→Shared→Prop),Q (.int (g i) s.toks) { s with toks:=s.toks+1 }→wpAny (model X.prog X.w) X.A (f (.int i t)) Q E s) :
 Oi X f (rU fun i=> .int (g i)):=by
 intro pins s σ H x v Q I rx h
 obtain ⟨i,rfl,q⟩:=h
 obtain ⟨t,rfl⟩:=rx
 exact rule i t s _ _ ⟨.int (g i),H,I.tok _,⟨_,rfl⟩,q⟩
theorem Jl:Oi X (unaryOp .USub) (rU fun i=> .int (-i)):=Rf fun _ _ _ _ _ q=>neg_int q
end
def Jm:V→V→Bool
 | .bK,.bK=>true | .bK,.int _=>true | .int _,.bK=>true | .bK,.bl _=>true | .bl _,.bK=>true | .bK,.str _=>true | .str _,.bK=>true
 | .int _,.int _=>true | .bl _,.bl _=>true | .str _,.str _=>true | .DF _,.DF _=>true
 | .int _,.str _=>true | .str _,.int _=>true | .bl _,.str _=>true | .str _,.bl _=>true
 | _,_=>false
def Rg:R2:=fun x y H Q=>Jm x y=true∧Q (.bl (decide (x=y))) H
def Rh:R2:=fun x y H Q=>Jm x y=true∧Q (.bl (!decide (x=y))) H
theorem BV {i j:Int}:decide (V.int i=V.int j)=(i == j):=by
 rw [Bool.eq_iff_iff]
 simp
theorem DP {i j:Bool}:decide (V.bl i=V.bl j)=(i == j):=by
 rw [Bool.eq_iff_iff]
 simp
theorem BW {i j:Str}:decide (V.str i=V.str j)=(i == j):=by
 rw [Bool.eq_iff_iff]
 simp
theorem BX {i j:Array UInt8}:decide (V.DF i=V.DF j)=(i.toList == j.toList):=by
 rw [Bool.eq_iff_iff]
 cases i
 cases j
 simp
section
variable {X:Cx} {a b c:Expr} {ta tb tc:TE} {pos:Pos}
theorem bS {pins:List (Addr ×Obj)} {σ:St} {H:Hp} {s:Shared} {Q:VK} {k k':Bool} (I:Inv X pins σ H s) (q:Q (.bl k) H) (e:k=k'):EP X pins σ Q (.bool k') s:=by
 subst e
 exact ⟨.bl k,H,I,rfl,q⟩
theorem Lw:xW X (compareOp .Eq) Rg:=by
 intro pins s σ H x y v u Q I rx ry h
 obtain ⟨hs,q⟩:=h
 cases x with
 | bK=>
   cases rx
   cases y with
   | bK=>cases ry;exact PySem.EqNone.eq_none_none (bS I q (by simp))
   | bl j=>cases ry;exact PySem.EqNone.eq_none_bool (bS I q (by simp))
   | int j=>obtain ⟨t',rfl⟩:=ry;exact PySem.EqNone.eq_none_int (bS I q (by simp))
   | str j=>obtain ⟨t',rfl⟩:=ry;exact PySem.EqNone.eq_none_str (bS I q (by simp))
   | _=>exact absurd (show false=true from hs) Bool.false_ne_true
 | bl i=>
   cases rx
   cases y with
   | bK=>cases ry;exact PySem.EqNone.eq_bool_none (bS I q (by simp))
   | bl j=>cases ry;exact eq_bool (bS I q DP)
   | str j=>obtain ⟨t',rfl⟩:=ry;exact PySem.EqMixed.eq_bool_str (bS I q (by simp))
   | _=>exact absurd (show false=true from hs) Bool.false_ne_true
 | int i=>
   obtain ⟨t,rfl⟩:=rx
   cases y with
   | bK=>cases ry;exact PySem.EqNone.eq_int_none (bS I q (by simp))
   | int j=>obtain ⟨t',rfl⟩:=ry;exact eq_int (bS I q BV)
   | str j=>obtain ⟨t',rfl⟩:=ry;exact PySem.EqMixed.eq_int_str (bS I q (by simp))
   | _=>exact absurd (show false=true from hs) Bool.false_ne_true
 | str i=>
   obtain ⟨t,rfl⟩:=rx
   cases y with
   | bK=>cases ry;exact PySem.EqNone.eq_str_none (bS I q (by simp))
   | bl j=>cases ry;exact PySem.EqMixed.eq_str_bool (bS I q (by simp))
   | int j=>obtain ⟨t',rfl⟩:=ry;exact PySem.EqMixed.eq_str_int (bS I q (by simp))
   | str j=>obtain ⟨t',rfl⟩:=ry;exact eq_str (bS I q BW)
   | _=>exact absurd (show false=true from hs) Bool.false_ne_true
 | DF i=>
   obtain ⟨t,rfl⟩:=rx
   cases y with
   | DF j=>obtain ⟨t',rfl⟩:=ry;exact PySem.W.eq_bytes (bS I q BX)
   | _=>exact absurd (show false=true from hs) Bool.false_ne_true
 | _=>cases y <;> exact absurd (show false=true from hs) Bool.false_ne_true
theorem Lx:xW X (compareOp .NotEq) Rh:=by
 intro pins s σ H x y v u Q I rx ry h
 obtain ⟨hs,q⟩:=h
 cases x with
 | bK=>
   cases rx
   cases y with
   | bK=>cases ry;exact PySem.EqNone.ne_none_none (bS I q (by simp))
   | bl j=>cases ry;exact PySem.EqNone.ne_none_bool (bS I q (by simp))
   | int j=>obtain ⟨t',rfl⟩:=ry;exact PySem.EqNone.ne_none_int (bS I q (by simp))
   | str j=>obtain ⟨t',rfl⟩:=ry;exact PySem.EqNone.ne_none_str (bS I q (by simp))
   | _=>exact absurd (show false=true from hs) Bool.false_ne_true
 | bl i=>
   cases rx
   cases y with
   | bK=>cases ry;exact PySem.EqNone.ne_bool_none (bS I q (by simp))
   | bl j=>cases ry;exact ne_bool (bS I q (congrArg not DP))
   | str j=>obtain ⟨t',rfl⟩:=ry;exact PySem.EqMixed.ne_bool_str (bS I q (by simp))
   | _=>exact absurd (show false=true from hs) Bool.false_ne_true
 | int i=>
   obtain ⟨t,rfl⟩:=rx
   cases y with
   | bK=>cases ry;exact PySem.EqNone.ne_int_none (bS I q (by simp))
   | int j=>obtain ⟨t',rfl⟩:=ry;exact ne_int (bS I q (congrArg not BV))
   | str j=>obtain ⟨t',rfl⟩:=ry;exact PySem.EqMixed.ne_int_str (bS I q (by simp))
   | _=>exact absurd (show false=true from hs) Bool.false_ne_true
 | str i=>
   obtain ⟨t,rfl⟩:=rx
   cases y with
   | bK=>cases ry;exact PySem.EqNone.ne_str_none (bS I q (by simp))
   | bl j=>cases ry;exact PySem.EqMixed.ne_str_bool (bS I q (by simp))
   | int j=>obtain ⟨t',rfl⟩:=ry;exact PySem.EqMixed.ne_str_int (bS I q (by simp))
   | str j=>obtain ⟨t',rfl⟩:=ry;exact ne_str (bS I q (congrArg not BW))
   | _=>exact absurd (show false=true from hs) Bool.false_ne_true
 | DF i=>
   obtain ⟨t,rfl⟩:=rx
   cases y with
   | DF j=>obtain ⟨t',rfl⟩:=ry;exact PySem.W.ne_bytes (bS I q (congrArg not BX))
   | _=>exact absurd (show false=true from hs) Bool.false_ne_true
 | _=>cases y <;> exact absurd (show false=true from hs) Bool.false_ne_true
theorem Ly:xW X (compareOp .Lt) (FU fun i j=> .bl (decide (i < j))):=Gm fun _ _ _ _ _ _ _ q=>lt_int q
theorem Lz:xW X (compareOp .LtE) (FU fun i j=> .bl (decide (i≤j))):=Gm fun _ _ _ _ _ _ _ q=>le_int q
theorem LA:xW X (compareOp .Gt) (FU fun i j=> .bl (decide (j < i))):=Gm fun _ _ _ _ _ _ _ q=>gt_int q
theorem LB:xW X (compareOp .GtE) (FU fun i j=> .bl (decide (j≤i))):=Gm fun _ _ _ _ _ _ _ q=>ge_int q
theorem Jo:xW X (compareOp .Is) (fun x y H Q=>y= .bK∧Q (.bl (decide (x= .bK))) H):=by
 intro pins s σ H x y v u Q I rx ry h
 obtain ⟨rfl,q⟩:=h
 cases ry
 refine is_none_gen (bS I q ?_)
 cases x <;> first
  | (cases rx;rfl)
  | (obtain ⟨t,rfl⟩:=rx;rfl)
theorem Gn:xW X (compareOp .IsNot) (fun x y H Q=>y= .bK∧Q (.bl (!decide (x= .bK))) H):=by
 intro pins s σ H x y v u Q I rx ry h
 obtain ⟨rfl,q⟩:=h
 cases ry
 refine isnot_none_gen (bS I q ?_)
 cases x <;> first
  | (cases rx;rfl)
  | (obtain ⟨t,rfl⟩:=rx;rfl)
theorem az (b:Expr) {op:CmpOp} (h:op≠ .In:=by decide) (h2:op≠ .NotIn:=by decide):behindInMarks op b=false:=by
 have e1:(op == CmpOp.In)=false:=by cases op <;> first | rfl | exact absurd rfl h
 have e2:(op == CmpOp.NotIn)=false:=by cases op <;> first | rfl | exact absurd rfl h2
 cases b <;> simp [behindInMarks,e1,e2]
theorem AK:(sizeLine:Nat) < 2 ^ 63:=by rw [sizeLine_eq];decide
theorem vals1 {x:V} {us:List Value} (r:Vals [x] us):∃ u,us= [u]∧RelV x u:=by
 cases r with
 | cons r1 r2=>cases r2;exact ⟨_,rfl,r1⟩
theorem vals2 {x y:V} {us:List Value} (r:Vals [x,y] us):∃ u w',us= [u,w']∧RelV x u∧RelV y w':=by
 cases r with
 | cons r1 r2=>
   cases r2 with
   | cons r3 r4=>cases r4;exact ⟨_,_,rfl,r1,r3⟩
theorem CO (hc:X.calm=true):BU X (.builtin "min") (fun xs H Q=> ∃ i j,xs= [.int i,.int j]∧Q (.int (if j < i then j else i)) H):=by
 intro pins s σ H xs us Q I r h
 obtain ⟨i,j,rfl,q⟩:=h
 obtain ⟨u,w',rfl,⟨t,rfl⟩,⟨t',rfl⟩⟩:=vals2 r
 refine min_two_ints (I.ok.hd hc) fun h' tk k=>⟨_,H,I.kept k,?_,q⟩
 by_cases hj:j < i
 ·rw [if_pos hj,if_pos hj];exact ⟨_,rfl⟩
 ·rw [if_neg hj,if_neg hj];exact ⟨_,rfl⟩
end
end L2
namespace L2
open PySem PySem.Spec PyProof.Rows
structure Jp (h:Heap) (x dx C:Addr) (mA:Str→Option Value):Prop where
 obj:h.get? x=some (PySem.W.instObj C dx)
 ns:h.Ns1 dx mA
 ne:dx≠x
theorem CP {h:Heap} {dx:Addr} {mA:Str→Option Value} (n:h.Ns1 dx mA):∃ od,h.get? dx=some od∧∀ name,PySem.W.lookIn name od=some (mA name):=by
 obtain ⟨o,es,ep,ho,hd,hk,_,hm⟩:=n
 refine ⟨o,ho,fun name=>?_⟩
 have e:=hm name
 unfold nsFind findBy at e
 rw [← Array.find?_toList] at e
 unfold PySem.W.lookIn
 rw [hd]
 dsimp only
 split
 ·rename_i y q
  rw [q] at e
  exact congrArg some e
 ·rename_i q
  rw [q] at e
  have a:es.toList.any (·.refKey)=false:=by
   rw [List.any_eq_false]
   intro y hy
   obtain ⟨z,t,hkey⟩:=hk y (Array.mem_toList_iff.mp hy)
   simp [DictEntry.refKey,hkey]
  have a':¬ es.toList.any (·.refKey)=true:=by rw [a];exact Bool.false_ne_true
  rw [if_neg a']
  exact congrArg some e
theorem Jp.look {h:Heap} {x dx C:Addr} {mA:Str→Option Value} (I:Jp h x dx C mA):∃ od,PySem.W.InstAt h x (PySem.W.instObj C dx) C (some od)∧∀ name,PySem.W.lookIn name od=some (mA name):=
 let ⟨od,ho,hl⟩:=CP I.ns
 ⟨od,⟨I.obj,rfl,rfl,ho⟩,hl⟩
section
variable {prog:Program} {w:World} {A:Around} {E:Value→Shared→Prop} {s:Shared} {K:PySem.W.Frag} {x dx C f:Addr} {mA:Str→Option Value} {name:Str} {v:Value}
end
section
variable {P:Program} {w:World} {H H':Hp} {h h':Heap} {a C dx:Addr} {fs fs':List (Str ×V)}
theorem Gp (hok:nF P w H h) (e:H a=some (.ins C dx fs)):∃ mA,Jp h a dx C mA∧(∀ f,IQ (fs.lookup f) (mA f))∧PySem.Within mA (fs.map (·.1))∧fs.length≤1000∧H dx=some (.own a):=by
 obtain ⟨d,z,ne,ob,mA,n,r,q⟩:=(show eK P w H h a (.ins C dx fs) from hok a _ e)
 exact ⟨mA,⟨ob,n,ne⟩,r,q,z,d⟩
end
structure Ol (K:PySem.W.Frag) (C:Addr):Prop where
 pg:PySem.W.plainGet K C Str.empty=true
 hd:PySem.W.hasDictIn K C=true
 po:PySem.W.plainOver K C=true
 sa:PySem.W.findIn K (.ref C) "__setattr__" =some (some (.builtin "object.__setattr__"))
theorem Ol.get {K:PySem.W.Frag} {C:Addr} (c:Ol K C) (f:Str):PySem.W.plainGet K C f=true:=c.pg
structure Uh (K:PySem.W.Frag) (C:Addr) (f:Str) (v:V) (u:Value):Prop where
 at_:PySem.W.findIn K (.ref C) f=some (some u)
 rel:RelV v u
 get:PySem.W.specialIn K u "__get__" =some none
 cp:PySem.W.copiedNames.contains f=false
structure Meth (K:PySem.W.Frag) (C:Addr) (m:Str) (f:Addr):Prop where
 at_:PySem.W.findIn K (.ref C) m=some (some (.ref f))
 fn:PySem.W.isFn K (.ref f)=true
 kp:PySem.W.keepIn K (.ref f)=true
section
variable {X:Cx} {pins:List (Addr ×Obj)} {σ:St} {H:Hp} {s:Shared} {a C dx:Addr} {fs:List (Str ×V)} {f:Str} {v:V} {A:Around} {E:Value→Shared→Prop}
end
section
variable {X:Cx} {o e value:Expr} {f:Str} {pos pos' tpos:Pos} {ta tv:TE}
end
section
variable {X:Cx} {pins:List (Addr ×Obj)} {σ:St} {H:Hp} {s:Shared} {A:Around} {E:Value→Shared→Prop} {Q:Value→Shared→Prop} {c:Value} {b:Bool}
inductive rV (K:PySem.W.Frag) (H:Hp):V→Value→Prop where
 | bK:rV K H .bK (.type "NoneType")
 | bl (x:Bool):rV K H (.bl x) (.type "bool")
 | int (i:Int):rV K H (.int i) (.type "int")
 | str (x:Str):rV K H (.str x) (.type "str")
 | K5 (x:UInt64):rV K H (.K5 x) (.type "float")
 | lst {a:Addr} {xs:List V} (e:H a=some (.lst xs)):rV K H (.ref a) (.type "list")
 | qd {a:Addr} {o:Obj} {xs:List V} (e:H a=some (.qd o (.lst xs))):rV K H (.ref a) (.type "list")
 | tup {a:Addr} {xs:List V} (e:H a=some (.tup xs)):rV K H (.ref a) (.type "tuple")
 | dK {a:Addr} {kvs:List (Key ×V)} (e:H a=some (.dK kvs)):rV K H (.ref a) (.type "dict")
 | dT {a:Addr} {kvs:List (List Key ×V)} (e:H a=some (.dT kvs)):rV K H (.ref a) (.type "dict")
 | ins {a C dx:Addr} {fs:List (Str ×V)} (e:H a=some (.ins C dx fs)) (cl:Ol K C) (ha:PySem.W.findIn K (.ref C) "__class__" =some (some (.builtin "object.__class__")))
  (hn:PySem.W.specialIn K (.builtin "object.__class__") "__get__" =some (some (.builtin "getset_descriptor.__get__"))) (htk:PySem.W.takesIn K (.builtin "object.__class__")=some true)
  (hm:PySem.W.mroIn K C (.type "object")=some true):rV K H (.ref a) (.ref C)
theorem iO {x:V} {u t:Value} (I:Inv X pins σ H s) (rx:RelV x u) (ty:rV X.K H x t) (e:PySem.W.kitOne X.K t c=some b) (h:∀ tk,Q (.bool b) { s with toks:=tk }) :
 wpAny (model X.prog X.w) A (call (.builtin "isinstance") [u,c]) Q E s:=by
 cases ty with
 | bK=>cases (show u=Value.none from rx);exact PySem.W.kia_one PySem.W.kitx_none I.zh True.intro e (fun z=>nomatch z) h
 | bl y=>cases (show u=Value.bool y from rx);exact PySem.W.kia_one PySem.W.kitx_bool I.zh True.intro e (fun z=>nomatch z) h
 | int i=>obtain ⟨t,q⟩:=(show ∃ t,u=Value.int i t from rx);cases q;exact PySem.W.kia_one PySem.W.kitx_int I.zh True.intro e (fun z=>nomatch z) h
 | str y=>obtain ⟨t,q⟩:=(show ∃ t,u=Value.str y t from rx);cases q;exact PySem.W.kia_one PySem.W.kitx_str I.zh True.intro e (fun z=>nomatch z) h
 | K5 y=>obtain ⟨t,q⟩:=(show ∃ t,u=Value.float y t from rx);cases q;exact PySem.W.kia_one PySem.W.kitx_float I.zh True.intro e (fun z=>nomatch z) h
 | @lst a xs ea=>
   cases (show u=Value.ref a from rx)
   obtain ⟨_,_,n,_,h1⟩:=(show eK X.prog X.w H s.heap a (.lst xs) from I.hok a _ ea)
   exact PySem.W.kia_one PySem.W.kitx_list I.zh ⟨_,h1,rfl⟩ e (fun z=>nomatch z) h
 | @qd a ob xs ea=>
   cases (show u=Value.ref a from rx)
   obtain ⟨_,_,_,n,_,h1⟩:=(show eK X.prog X.w H s.heap a (.qd ob (.lst xs)) from I.hok a _ ea)
   exact PySem.W.kia_one PySem.W.kitx_list I.zh ⟨_,h1,rfl⟩ e (fun z=>nomatch z) h
 | @tup a xs ea=>
   cases (show u=Value.ref a from rx)
   obtain ⟨_,_,_,p⟩:=(show eK X.prog X.w H s.heap a (.tup xs) from I.hok a _ ea)
   obtain ⟨o,h1,h2,_⟩:=p
   exact PySem.W.kia_one PySem.W.kitx_tuple I.zh ⟨o,h1,h2⟩ e (fun z=>nomatch z) h
 | @dK a kvs ea=>
   cases (show u=Value.ref a from rx)
   obtain ⟨_,_,vs,_,p⟩:=(show eK X.prog X.w H s.heap a (.dK kvs) from I.hok a _ ea)
   obtain ⟨o,es,ep,h1,h2,_⟩:=p
   exact PySem.W.kia_one PySem.W.kitx_dict I.zh ⟨o,h1,h2.1⟩ e (fun z=>nomatch z) h
 | @dT a kvs ea=>
   cases (show u=Value.ref a from rx)
   obtain ⟨_,_,xs,_,o,es,ep,h1,h2,_⟩:=(show eK X.prog X.w H s.heap a (.dT kvs) from I.hok a _ ea)
   exact PySem.W.kia_one PySem.W.kitx_dict I.zh ⟨o,h1,h2.1⟩ e (fun z=>nomatch z) h
 | @ins a C dx fs ea cl ha hn htk hm=>
   cases (show u=Value.ref a from rx)
   obtain ⟨mA,O,_⟩:=Gp I.hok ea
   obtain ⟨od,J,_⟩:=O.look
   exact PySem.W.kia_one (PySem.W.kitx_own (cl.get _) cl.hd ha hn htk hm) I.zh J e (fun z=>nomatch z) h
end
end L2
namespace L2
open PySem PySem.Spec PyProof.Rows
structure jN (k:Nat) (A:Around):Prop where
 hd:A.handled=none
 dp:A.depth+3*k+5 < recursionLimit
 un:A.units+16*k+200 < cLine
theorem jN.mono {j k:Nat} {A:Around} (r:jN k A) (h:j≤k):jN j A:=⟨r.hd,by have:=r.dp;omega,by have:=r.un;omega⟩
theorem jN.deeper {k:Nat} {A:Around} (r:jN (k+1) A) (env:Env):jN k (A.deeper env):=
 ⟨r.hd,by have:=r.dp;show A.depth+1+3*k+5 < _;omega,by have:=r.un;show A.units+3+16*k+200 < _;omega⟩
theorem jN.depth {k:Nat} {A:Around} (r:jN k A):A.depth < recursionLimit:=by have:=r.dp;omega
theorem jN.units {k:Nat} {A:Around} (r:jN k A):A.units+64 < cLine:=by have:=r.un;omega
def DQ:TA:=fun _ H Q=>Q [] H
def zq (ta:TE) (tr:TA):TA:=fun σ H Q=>ta σ H fun x H1=>tr σ H1 fun xs H2=>Q (x :: xs) H2
section
variable {X:Cx} {e:Expr} {es:List Expr} {te:TE} {t:TA} {pos:Pos}
theorem lP:PA X [] DQ:=fun _ _ _ _ H Q I h=>Calls.spliced_nil ⟨[],H,I,.nil,h⟩
theorem iF (ha:PE X e te) (hr:PA X es t) (hs:starEach (e :: es) X.env=(false,eval e X.env) :: starEach es X.env:=by rfl):PA X (e :: es) (zq te t):=by
 intro pos pins s σ H Q I h
 rw [hs]
 show wpAny _ _ (spliced ((false,eval e X.env) :: backTo pos (starEach es X.env))) _ _ s
 refine Calls.spliced_cons (dD (ha pins s σ H _ I h) fun u s1 ⟨x,H1,I1,r1,q1⟩=>?_)
 exact dD (hr pos pins s1 σ H1 _ I1 q1) fun us s2 ⟨xs,H2,I2,r2,q2⟩=>⟨x :: xs,H2,I2,.cons r1 r2,q2⟩
def Om (t:TA):TE:=fun σ H Q=>t σ H fun xs H1=>xs.length≤sizeLine∧∀ p,H1 p=none→Q (.ref p) (upd H1 p (.tup xs))
def Oo (t:TA):TE:=fun σ H Q=>t σ H fun xs H1=>xs.length≤sizeLine∧∀ p,H1 p=none→Q (.ref p) (upd H1 p (.lst xs))
theorem Jq {x1} (h:PA X es t):PE X (.Tuple es x1 pos) (Om t):=by
 intro pins s σ H Q I hq
 refine wpAny_Tuple_spliced (dD (h pos pins s σ H _ I hq) fun us s1 ⟨xs,H1,I1,r,z,q⟩=>⟨by rw [← r.length];exact z,?_⟩)
 have hf:H1 s1.heap.objs.size=none:=I1.hok.fresh (Nat.le_refl _)
 refine ⟨.ref s1.heap.objs.size,upd H1 s1.heap.objs.size (.tup xs),I1.laid (t':=s1.toks) (fun b u e=>Heap.get?_push_of_some _ e) (Nat.le_refl _) ?_,rfl,q _ hf⟩
 exact ⟨z,us,r,⟨_,Heap.get?_push_size _ rfl,rfl,_,rfl⟩⟩
theorem Jr (h:PA X es t):PE X (.List es pos) (Oo t):=by
 intro pins s σ H Q I hq
 refine wpAny_List_spliced (dD (h pos pins s σ H _ I hq) fun us s1 ⟨xs,H1,I1,r,z,q⟩=>⟨by rw [← r.length];exact z,?_⟩)
 have hf:H1 s1.heap.objs.size=none:=I1.hok.fresh (Nat.le_refl _)
 refine ⟨.ref s1.heap.objs.size,upd H1 s1.heap.objs.size (.lst xs),I1.laid (t':=s1.toks) (fun b u e=>Heap.get?_push_of_some _ e) (Nat.le_refl _) ?_,rfl,q _ hf⟩
 exact ⟨z,us,0,r,Heap.get?_push_size _ rfl⟩
end
abbrev Sp:=List V→Hp→VK→XK→Prop
abbrev DR:=List Env→Hp→Shared→XK→Value→Shared→Prop
structure Gq (P:Program) (w:World) (K:PySem.W.Frag) (mg:Str→Option Value) (base:Heap) (A:Around) (outer:List Env) (s:Shared) (H:Hp):Prop where
 frames:A.frames=some outer
 mod:Mod K mg base
 bs:∀ b o,base.get? b=some o→s.heap.get? b=some o∧H b=none
 FP:base.objs.size≤s.heap.objs.size
 qR:s.heap.FunFrames base outer
 Ih:∀ b∈frs outer,H b=none
 hok:nF P w H s.heap
 bare:AllBare s.gens
def CE (outer:List Env) (P:Program) (w:World) (H:Hp) (s:Shared) (Q:VK) (u:Value) (s':Shared):Prop:=
 ∃ v H',s'.os=s.os∧AllBare s'.gens∧Un (frs outer) [] H H' s.heap s'.heap∧nF P w H' s'.heap∧RelV v u∧Q v H'
def CR (CX:DR) (outer:List Env) (P:Program) (w:World) (H:Hp) (s:Shared) (Q:VK) (E:XK) (r:Result) (s':Shared):Prop:=
 match r with
 | .ok (.ret u)=>CE outer P w H s Q u s'
 | .ok _=>False
 | .error e=>CX outer H s E e s'
structure bP (P:Program) (w:World) (K:PySem.W.Frag) (mg:Str→Option Value) (base:Heap) (CX:DR) (k:Nat) (f:Addr) (fd:FuncData) (ps:List Str) (sp:Sp):Prop where
 len:∀ vs H Q E,sp vs H Q E→vs.length=ps.length
 run:∀ (A:Around) (outer:List Env) (s:Shared) (H:Hp) (args:Args) (us:List Value) (vs:List V) (Q:VK) (E:XK),jN k A→Gq P w K mg base A outer s H→BindsTo s fd args (ps.zip us)→Vals vs us→sp vs H Q E→
  codeAny (model P w) A (.call (.ref f) args) (CR CX outer P w H s Q E) s
section
variable {X:Cx} {pins:List (Addr ×Obj)} {σ:St} {H:Hp} {s s':Shared}
theorem Inv.Oq (I:Inv X pins σ H s):Gq X.prog X.w X.K X.mg X.base X.A X.stack s H:=
 ⟨I.ok.frames,I.ok.mod,I.bs,Nat.le_trans I.ok.FP I.sz,I.stack,I.xU,I.hok,I.bare⟩
theorem Inv.after {Q:VK} {u:Value} (I:Inv X pins σ H s) (h:CE X.stack X.prog X.w H s Q u s'):EP X pins σ Q u s':=by
 obtain ⟨v,H',os,bare,un,hok,r,q⟩:=h
 obtain ⟨hh,g,d,t,os'⟩:=s'
 obtain rfl:os'=s.os:=os
 exact ⟨v,H',I.call (h':=hh) (g':=g) (d':=d) (t':=t) (ch:=[]) un hok bare (fun b z=>absurd z (by simp)),r,q⟩
end
def LC (sp:Sp) (Dz:List V) (E:XK) (t:TA):TE:=fun σ H Q=>t σ H fun vs H1=>sp (vs ++ Dz) H1 Q E
def Binds (K:PySem.W.Frag) (fd:FuncData) (ps:List Str) (ds:List Value):Prop:=
 ∀ (s:Shared) (us:List Value),K.In s.heap→(us ++ ds).length=ps.length→BindsTo s fd ⟨us,[]⟩ (ps.zip (us ++ ds))
theorem Binds.all {K:PySem.W.Frag} {fd:FuncData} {ps:List Str} (h:∀ us:List Value,us.length=ps.length→bindArgs fd ⟨us,[]⟩=pure (ps.zip us)):Binds K fd ps []:=fun s us _ hl=>by
 rw [List.append_nil] at hl ⊢
 exact .of_eq (h us hl)
def Passes (CX:DR) (X:Cx) (E:XK):Prop:= ∀ (pins:List (Addr ×Obj)) (σ:St) (H:Hp) (s:Shared) (e:Value) (s':Shared),Inv X pins σ H s→CX X.stack H s E e s'→X.xe e s'
section
variable {X:Cx} {CX:DR} {k:Nat} {f C:Addr} {fd:FuncData} {ps:List Str} {sp:Sp} {Dz:List V} {ds:List Value} {E:XK} {x m:Str} {p pos apos:Pos} {e o:Expr} {es:List Expr} {ta:TE} {t:TA}
theorem Js {pins:List (Addr ×Obj)} {σ:St} {H:Hp} {s:Shared} {Q:VK} {us:List Value} {vs:List V} (F:bP X.prog X.w X.K X.mg X.base CX k f fd ps sp) (hr:jN k X.A) (hb:Binds X.K fd ps ds) (hd:Vals Dz ds) (hx:Passes CX X E)
 (I:Inv X pins σ H s) (r:Vals vs us) (h:sp (vs ++ Dz) H Q E):wpAny (model X.prog X.w) X.A (call (.ref f) us) (EP X pins σ Q) X.xe s:=by
 have r2:Vals (vs ++ Dz) (us ++ ds):=r.append hd
 have hl:(us ++ ds).length=ps.length:=by rw [← r2.length];exact F.len _ _ _ _ h
 refine wpAny_call (codeAny_mono (F.run X.A X.stack s H ⟨us,[]⟩ (us ++ ds) (vs ++ Dz) Q E hr I.Oq (hb s us I.zh hl) r2 h) fun r s' hq=>?_)
 cases r with
 | error e=>exact hx pins σ H s e s' I hq
 | ok fl=>
   cases fl with
   | ret u=>exact I.after hq
   | next=>exact False.elim hq
   | brk=>exact False.elim hq
   | cont=>exact False.elim hq
theorem BY (F:bP X.prog X.w X.K X.mg X.base CX k f fd ps sp) (hr:jN k X.A) (hg:Gl X x) (hm:X.mg x=some (.ref f)) (hk:PySem.W.keepIn X.K (.ref f)=true) (hb:Binds X.K fd ps ds) (hd:Vals Dz ds) (hx:Passes CX X E)
 (ha:PA X (e :: es) t) (hdb:(x == ("__debug__" :Str))=false:=by decide) (he:starEach (e :: es) X.env=(false,eval e X.env) :: starEach es X.env:=by rfl) (hpl:(backTo pos (starEach es X.env)).any (·.1)=false:=by rfl) :
 PE X (.Call (.Name x p) (e :: es) [] pos) (LC sp Dz E t):=by
 intro pins s σ H Q I h
 refine wpAny_Call_Name_kw (Ge I hg hm ?_ hdb)
 refine PySem.W.callWith_K (h₀:=X.base) I.ok.mod.NX hk (dD (ha pos pins s σ H _ I h) fun us s1 ⟨vs,H1,I1,r,q⟩=>⟨I1.zh,?_⟩) he hpl
 exact Js F hr hb hd hx I1 r q
structure Mk (K:PySem.W.Frag) (C f:Addr):Prop where
 makes:PySem.W.makesIn K C=true
 init:PySem.W.findIn K (.ref C) "__init__" =some (some (.ref f))
 fn:PySem.W.isFn K (.ref f)=true
 kp:PySem.W.keepIn K (.ref C)=true
end
section
variable {X:Cx} {CX:DR} {k:Nat} {f C:Addr} {fd:FuncData} {ps ks:List Str} {sp:Sp} {E:XK} {x m:Str} {p pos apos kpos:Pos} {e o:Expr} {es:List Expr} {kws:List Keyword} {te ta:TE} {t tk:TA} {nm:Option Str}
structure Ot (K:PySem.W.Frag) (fd:FuncData) (ps ks:List Str) (g:List Value→List Value→List Value) (gV:List V→List V→List V):Prop where
 to:∀ (s:Shared) (us ws:List Value),K.In s.heap→(g us ws).length=ps.length→BindsTo s fd ⟨us,ks.zip ws⟩ (ps.zip (g us ws))
 rel:∀ {vs:List V} {us:List Value} {zs:List V} {ws:List Value},Vals vs us→Vals zs ws→Vals (gV vs zs) (g us ws)
variable {g:List Value→List Value→List Value} {gV:List V→List V→List V}
end
structure aH (N P:List Str) (sc:Scope):Prop where
 kind:sc.kind= .function
 co:sc.isCoroutine=false
 gen:sc.isGenerator=false
 nd:N.Nodup
 pre:N.take P.length=P
 par:∀ x∈P,sc.names.lookup x=some .local∨sc.names.lookup x=some .cell
 Jt:∀ y∈sc.names,y.2≠ .free
theorem wL {kindOf:Str→Option NameKind} {x:Str}:∀ {binds:List (Str ×Value)} {m:Str→Option Value},(∀ v,(x,v)∉binds)→bindL kindOf binds m x=m x
 | [],_,_=>rfl
 | (n,v) :: r,m,h=>by
   unfold bindL
   rw [wL fun w hw=>h w (List.mem_cons_of_mem _ hw)]
   split
   ·have:x≠n:=by rintro rfl;exact h v List.mem_cons_self
    simp [this]
   ·rfl
theorem wM {kindOf:Str→Option NameKind} {x:Str}:∀ {binds:List (Str ×Value)} {m:Str→Option Value},(∀ v,(x,v)∉binds)→bindC kindOf binds m x=m x
 | [],_,_=>rfl
 | (n,v) :: r,m,h=>by
   unfold bindC
   rw [wM fun w hw=>h w (List.mem_cons_of_mem _ hw)]
   split
   ·rfl
   ·have:x≠n:=by rintro rfl;exact h v List.mem_cons_self
    simp [this]
theorem wN {kindOf:Str→Option NameKind} {x:Str} {v:Value}:∀ {P:List Str} {vs:List Value} {i:Nat} {m:Str→Option Value},P.Nodup→P[i]?=some x→vs[i]?=some v→kindOf x=some .local→
 bindL kindOf (P.zip vs) m x=some v
 | [],_,_,_,_,h,_,_=>by simp at h
 | _ :: _,[],_,_,_,_,h,_=>by simp at h
 | p :: P,w :: vs,0,m,nd,h1,h2,hk=>by
   simp at h1 h2;subst h1;subst h2
   show bindL kindOf ((p,w) :: P.zip vs) m p=_
   unfold bindL
   rw [wL fun v hv=>(List.nodup_cons.mp nd).1 (List.of_mem_zip hv).1,if_pos hk]
   simp
 | p :: P,w :: vs,i+1,m,nd,h1,h2,hk=>by
   show bindL kindOf ((p,w) :: P.zip vs) m x=_
   unfold bindL
   exact wN (i:=i) (List.nodup_cons.mp nd).2 (by simpa using h1) (by simpa using h2) hk
theorem wO {kindOf:Str→Option NameKind} {x:Str} {v:Value}:∀ {P:List Str} {vs:List Value} {i:Nat} {m:Str→Option Value},P.Nodup→P[i]?=some x→vs[i]?=some v→kindOf x≠some .local→
 bindC kindOf (P.zip vs) m x=some v
 | [],_,_,_,_,h,_,_=>by simp at h
 | _ :: _,[],_,_,_,_,h,_=>by simp at h
 | p :: P,w :: vs,0,m,nd,h1,h2,hk=>by
   simp at h1 h2;subst h1;subst h2
   show bindC kindOf ((p,w) :: P.zip vs) m p=_
   unfold bindC
   rw [wM fun v hv=>(List.nodup_cons.mp nd).1 (List.of_mem_zip hv).1,if_neg hk]
   simp
 | p :: P,w :: vs,i+1,m,nd,h1,h2,hk=>by
   show bindC kindOf ((p,w) :: P.zip vs) m x=_
   unfold bindC
   exact wO (i:=i) (List.nodup_cons.mp nd).2 (by simpa using h1) (by simpa using h2) hk
def start (N:List Str) (vs:List V):St:=vs.map some ++ List.replicate (N.length - vs.length) none
def rW (CX:DR) (P:Program) (w:World) (K:PySem.W.Frag) (mg:Str→Option Value) (base:Heap) (N:List Str) (qual:Str) (scope:Scope) (f:Addr) (cd:Value) (A:Around) (outer:List Env) (s:Shared) (H:Hp) (E:XK):Cx where
 prog:=P
 w:=w
 K:=K
 mg:=mg
 base:=base
 A:=A.deeper (envOfC qual scope s.heap.objs.size f cd)
 N:=N
 s₀:=s
 H₀:=H
 env:=envOfC qual scope s.heap.objs.size f cd
 outer:=outer
 stack:=envOfC qual scope s.heap.objs.size f cd :: outer
 ex:=[]
 calm:=true
 fn:=fun _=>true
 pn:=[]
 xe:=fun e s'=>wpAny (model P w) (A.deeper (envOfC qual scope s.heap.objs.size f cd)) (leaving (envOfC qual scope s.heap.objs.size f cd) e) (fun _ s''=>CX outer H s E e s'') (fun e' s''=>CX outer H s E e' s'') s'
theorem zu {sc:Scope} {n:Nat} {x:Str} (h:sc.names.lookup x=some .cell):∃ c,(cellsFrom n sc.names []).lookup x=some c:=by
 have q:=PySem.W.cellsFrom_some sc.names n [] (.inl h)
 exact Option.isSome_iff_exists.mp q
theorem CQ {CX:DR} {P:Program} {w:World} {K:PySem.W.Frag} {mg:Str→Option Value} {base:Heap} {N ps:List Str} {qual:Str} {scope:Scope} {f:Addr} {cd:Value} {A:Around} {outer:List Env} {s s1:Shared} {H:Hp} {E:XK} {us:List Value} {vs:List V}
 (S:aH N ps scope) (hd:A.handled=none) (e0:Gq P w K mg base A outer s H) (hl:vs.length=ps.length) (r:Vals vs us)
 (x:InCallC s s.heap.objs.size (bindL (envOfC qual scope s.heap.objs.size f cd).kindOf (ps.zip us) fun _=>none) (cellsFrom (s.heap.objs.size+1) scope.names []) (bindC (envOfC qual scope s.heap.objs.size f cd).kindOf (ps.zip us) fun _=>none) s1) :
 Inv (rW CX P w K mg base N qual scope f cd A outer s H E) [] (start N vs) H s1:=by
 have hpl:ps.length≤N.length:=by have:=congrArg List.length S.pre;rw [List.length_take] at this;omega
 obtain ⟨h1,tk,rfl,hk⟩:=x.done
 have LD:∀ b:Addr,b∉(rW CX P w K mg base N qual scope f cd A outer s H E).ex:=fun b z=>absurd (show b∈([]:List Addr) from z) (by simp)
 refine ⟨⟨e0.mod,S.kind,rfl,rfl,Nat.le_refl _,fun y z c h1 h2=>?_,fun y hy=>?_,fun y c _ h=>?_,fun _=>hd,Around.frames_deeper e0.frames,.inr ⟨rfl,rfl⟩,fun b z=>absurd z (LD b),e0.bs,e0.FP,fun b _ _=>LD b,fun b z=>absurd z (LD b),e0.qR,e0.Ih⟩,
  rfl,e0.bare,Un.kept hk,⟨_,x.toInCall.ns,fun i y v h1 h2 h3=>?_⟩,fun y c h=>⟨_,x.cell y c h⟩,e0.hok.fresh (Nat.le_refl _),fun y c h=>?_,fun p hp=>absurd (show p∈([]:List (Addr ×Obj)) from hp) (by simp),e0.hok.kept hk,?_⟩
 ·exact name_of_addr x.apart (PySem.mem_of_lookup h1) (PySem.mem_of_lookup h2)
 ·have hy:scope.names.lookup y=some .cell∨scope.names.lookup y=some .free:=hy
  rcases hy with hy | hy
  ·exact zu hy
  ·exact absurd rfl (S.Jt _ (PySem.mem_of_lookup hy))
 ·exact Nat.le_of_lt (x.above y c (PySem.mem_of_lookup h))
 ·have hi:i < vs.length:=by
   unfold start at h2
   by_cases hi:i < vs.length
   ·exact hi
   ·rw [List.getElem?_append_right (by simpa using hi)] at h2
    rw [List.getElem?_replicate] at h2
    split at h2 <;> cases h2
  have ha:vs[i]?=some v:=by
   unfold start at h2
   rw [List.getElem?_append_left (by simpa using hi),List.getElem?_map] at h2
   cases e:vs[i]? with
   | none=>rw [e] at h2;cases h2
   | some a=>rw [e] at h2;cases h2;rfl
  obtain ⟨u,hu,rv⟩:=r.get ha
  have hp:ps[i]?=some y:=by
   rw [← S.pre,List.getElem?_take_of_lt (by omega)];exact h1
  have Qq:ps.Nodup:=by rw [← S.pre];exact S.nd.sublist (List.take_sublist _ _)
  refine ⟨u,rv,?_⟩
  rcases S.par y (List.mem_of_getElem? hp) with k | k
  ·exact .inl ⟨k,wN Qq hp hu k⟩
  ·obtain ⟨c,e⟩:=zu (n:=s.heap.objs.size+1) k
   refine .inr ⟨.inl k,c,e,?_⟩
   have q:=x.cell y c e
   rw [wO Qq hp hu (by show scope.names.lookup y≠_;rw [k];decide)] at q
   exact q
 ·exact e0.hok.fresh (Nat.le_of_lt (x.above y c (PySem.mem_of_lookup h)))
 ·unfold start
  show _=N.length
  rw [List.length_append,List.length_map,List.length_replicate]
  omega
theorem LF {CX:DR} {P:Program} {w:World} {K:PySem.W.Frag} {mg:Str→Option Value} {base:Heap} {k:Nat} {f:Addr} {name qual:Str} {params:Arguments} {body:List Stmt} {scope:Scope} {dV kV doc pm cdv ct oc:Value} {an od:Option Addr}
 {osl:Array (Option Value)} {N ps:List Str} {sp:Sp} (lk:K.lookup f=some ⟨oc,od,.func (PySem.W.fnOf name qual params body scope dV kV doc pm an cdv ct),osl⟩) (hcd:PySem.W.codeIn K cdv qual=true) (S:aH N ps scope)
 (len:∀ vs H Q E,sp vs H Q E→vs.length=ps.length)
 (hbody:∀ (A:Around) (outer:List Env) (s:Shared) (H:Hp) (vs:List V) (Q:VK) (E:XK),jN k (A.deeper (envOfC qual scope s.heap.objs.size f cdv))→sp vs H Q E→
  ∃ t,AG (rW CX P w K mg base N qual scope f cdv A outer s H E) body t∧t { nx:=fun _ H'=>Q .bK H',rt:=Q } (start N vs) H) :
 bP P w K mg base CX (k+1) f (PySem.W.fnOf name qual params body scope dV kV doc pm an cdv ct) ps sp:=by
 refine ⟨len,fun A outer s H args us vs Q E hr e0 hb r CS=>?_⟩
 have hl:=len _ _ _ _ CS
 have KX:K.In s.heap:=e0.mod.NX.keeps fun b o e=>(e0.bs b o e).1
 have lim:s.heap.NoLimit:=e0.mod.nolimit.keeps fun b o e=>(e0.bs b o e).1
 have hkind:∀ y∈ps.zip us,scope.names.lookup y.1=some .local∨(scope.names.lookup y.1=some .cell∧((cellsFrom (s.heap.objs.size+1) scope.names []).lookup y.1).isSome=true):=fun ⟨n,v⟩ hy=>by
  rcases S.par n (List.of_mem_zip hy).1 with q | q
  ·exact .inl q
  ·exact .inr ⟨q,PySem.W.cellsFrom_some _ _ _ (.inl q)⟩
 refine codeAny_call_function hr.depth (KX _ _ lk) rfl S.co S.gen rfl (PySem.W.codeRec_of KX hcd) (hb _ _ _ _ ?_)
 refine wpAny_newFunctionEnv_cells S.kind hkind fun env he s1 x=>?_
 subst he
 refine ⟨lim.keeps x.toInCall.keep,codeAny_func ?_⟩
 obtain ⟨t,ht,hq⟩:=hbody A outer s H vs Q E (hr.deeper _) CS
 have I:Inv (rW CX P w K mg base N qual scope f cdv A outer s H E) [] (start N vs) H s1:=CQ S hr.hd e0 hl r x
 refine wpAny_mono (ht [] s1 (start N vs) H _ I hq) (fun fl s' hs=>?_) fun e s' hs=>hs
 have fin:∀ {σ':St} {H':Hp} {v:V} {u:Value},Inv (rW CX P w K mg base N qual scope f cdv A outer s H E) [] σ' H' s'→RelV v u→Q v H'→CE outer P w H s Q u s':=
  fun {σ' H' v u} J rv q=>⟨v,H',J.os,J.bare,J.base,J.hok,rv,q⟩
 cases fl with
 | ret u=>
   obtain ⟨v,σ',H',J,rv,q⟩:=hs
   exact fin J rv q
 | next=>
   obtain ⟨σ',H',J,q⟩:=hs
   exact fin (v:=V.bK) (u:=Value.none) J rfl q
 | brk=>
   obtain ⟨_,_,_,q⟩:=hs
   exact False.elim q
 | cont=>
   obtain ⟨_,_,_,q⟩:=hs
   exact False.elim q
end L2
namespace L2
open PySem PySem.Spec PyProof.Rows
section
variable {X:Cx} {x:Str} {p pos:Pos} {e:Expr} {es:List Expr} {t:TA} {id T:String} {r:List V→Hp→VK→Prop}
end
end L2
namespace HT
open PySem PyProof.Rows
def lexLt:List Int→List Int→Bool
 | [],[]=>false
 | [],_ :: _=>true
 | _ :: _,[]=>false
 | x :: xs,y :: ys=>if x=y then lexLt xs ys else decide (x < y)
theorem lQ (x y:Int) (xs ys:List Int):lexLt (x :: xs) (y :: ys)=if x=y then lexLt xs ys else decide (x < y):=rfl
theorem jO:lexLt [] []=false:=rfl
theorem nI (y:Int) (ys:List Int):lexLt [] (y :: ys)=true:=rfl
theorem nJ (x:Int) (xs:List Int):lexLt (x :: xs) []=false:=rfl
theorem zx (A:Around) (s:Shared) (a:Int) (t:Tok) (c:Int) (u:Tok):∃ e,SeqAt.EqAt A s (.int a t) (.int c u) e∧(e=true↔a=c):=
 ⟨(a == c),SeqAt.EqAt.int_int a t c u,by simp⟩
theorem DS (A:Around) (s:Shared) (a:Int) (t:Tok) (c:Int) (u:Tok) (prog:Program) (w:World) (E:Value→Shared→Prop) (Q:Value→Shared→Prop) (h:Q (.bool (decide (a < c))) s) :
 wpAny (model prog w) A (richCompare .Lt (.int a t) (.int c u)) Q E s:=
 (PyProof.Rows.lt_int h:wpAny (model prog w) A (compareOp .Lt (.int a t) (.int c u)) Q E s)
section
open PySem.SeqAt
open PySem.AutoSeq1 (wpAny_loadPart')
open PySem.MeetsSeq PySem.MeetsSeq2 PySem.MeetsSeq3
theorem vE (l b:Addr) (items items2:Array Value) (n n2:Nat) (dd dd2:Option Addr) (sl sl2:Array (Option Value)) (ns ms:List Int) (hi:IntsAre items.toList ns) (hj:IntsAre items2.toList ms) :
 Meets (Builtin.«tuple.__lt__» ⟨[.ref l,.ref b],[]⟩)
  (fun _ R s=>s.heap.get? l=some { cls:= .type "tuple",dict:=dd,data:= .seq items n,slots:=sl }∧s.heap.get? b=some { cls:= .type "tuple",dict:=dd2,data:= .seq items2 n2,slots:=sl2 }∧
   R (.ok (.ret (.bool (lexLt ns ms)))) s):=
 .of_wp fun prog w A R s h=>by
  obtain ⟨hp,g,d,tk,os⟩:=s;obtain ⟨hl,hb,h⟩:=h
  have f2:=AutoSeq1.sub_tuple_tuple
  have z1:items.size=ns.length:=by rw [← hi.length];simp
  have z2:items2.size=ms.length:=by rw [← hj.length];simp
  wp_walk using wpAny_loadPart' hl,wpAny_loadPart' hb,wpAny_forIn_list _ (fun rest b s'=>b.1=none∧s'= ⟨hp,g,d,tk,os⟩∧∃ (vs ws:List Value) (ns' ms':List Int),rest=vs.zip ws∧
   IntsAre vs ns'∧IntsAre ws ms'∧ns'.length+items2.size=ms'.length+items.size∧R (.ok (.ret (.bool (lexLt ns' ms')))) ⟨hp,g,d,tk,os⟩) _
  case turn=>
   rintro ⟨y,x⟩ rest b s' ⟨hb',rfl,vs,ws,ns',ms',hz,DT,hwi,hlen,hR⟩
   cases DT with
   | nil=>rw [List.zip_nil_left] at hz;cases hz
   | cons a t DU=>
     cases hwi with
     | nil=>rw [List.zip_nil_right] at hz;cases hz
     | cons c u DV=>
       rw [List.zip_cons_cons] at hz
       injection hz with hyx hrest
       injection hyx with hy hx
       subst hy hx
       rw [lQ] at hR
       simp only [List.length_cons] at hlen
       obtain ⟨e,he,hiff⟩:=zx A.in1 ⟨hp,g,d,tk,os⟩ a t c u
       refine wpAny_bind (he prog w _ _ ?_)
       cases e with
       | true=>
         rw [if_pos (hiff.mp rfl)] at hR
         wp_walk
         exact ⟨rfl,rfl,_,_,_,_,hrest,DU,DV,by omega,hR⟩
       | false=>
         rw [if_neg (fun q=>absurd (hiff.mpr q) Bool.false_ne_true)] at hR
         have LG:=DS A.in1 ⟨hp,g,d,tk,os⟩ a t c u prog w
         wp_walk using LG
         exact ⟨_,rfl,by simpa using hR⟩
  case fin=>
   rintro ⟨b1,b2⟩ s' ⟨hb',rfl,vs,ws,ns',ms',hz,DT,hwi,hlen,hR⟩
   simp only at hb'
   subst hb'
   have hv:lexLt ns' ms'=decide (items.size < items2.size):=by
    cases DT with
    | nil=>
      cases hwi with
      | nil=>
        simp only [List.length_nil] at hlen
        rw [jO]
        exact (decide_eq_false (by omega)).symm
      | cons c u hw=>
        simp only [List.length_nil,List.length_cons] at hlen
        rw [nI]
        exact (decide_eq_true (by omega)).symm
    | cons a t hv=>
      cases hwi with
      | nil=>
        simp only [List.length_nil,List.length_cons] at hlen
        rw [nJ]
        exact (decide_eq_false (by omega)).symm
      | cons c u hw=>
        rw [List.zip_cons_cons] at hz
        cases hz
   rw [hv] at hR
   wp_walk
   exact ⟨_,rfl,by simpa [Builtin.Tuple.tupleCompareSizes] using hR⟩
  case h=>
   exact ⟨rfl,rfl,items.toList,items2.toList,ns,ms,rfl,hi,hj,by omega,h⟩
end
section
variable {prog:Program} {w:World} {A:Around} {E:Value→Shared→Prop} {s:Shared}
theorem fm {l b:Addr} {items items2:Array Value} {ns ms:List Int} {Q:Value→Shared→Prop} (hl:IsTup s.heap l items) (hb:IsTup s.heap b items2) (hi:IntsAre items.toList ns) (hj:IntsAre items2.toList ms)
 (hu:A.units < cLine) (h:Q (.bool (lexLt ns ms)) s):wpAny (model prog w) A (compareOp .Lt (.ref l) (.ref b)) Q E s:=by
 obtain ⟨⟨cls,dd,data,sl⟩,ho,hc,n,hd⟩:=id hl
 obtain ⟨⟨Ju,dd2,data2,sl2⟩,ho2,hc2,n2,hd2⟩:=id hb
 simp only at hc hd hc2 hd2
 subst hc hd hc2 hd2
 exact richCompare_meets_room (op:= .Lt) ⟨_,ho,rfl⟩ ⟨_,ho2,rfl⟩ PySem.F.slot_tuple_lt PySem.F.entry_tuple_lt (PySem.F.args_tuple_lt_2 _ _) (vE l b items items2 n n2 dd dd2 sl sl2 ns ms hi hj)
  ⟨ho,ho2,show Value.bool (lexLt ns ms)≠Value.notImplemented∧Q (.bool (lexLt ns ms)) s from ⟨(fun x=>nomatch x),h⟩⟩ hu
def rN (n d:Nat):Option Int→Nat
 | none=>d
 | some v=>if v < 0 then (v+(n:Int)).toNat else min v.toNat n
theorem zy (n d:Nat):rN n d none=d:=rfl
theorem BZ (n d k:Nat):rN n d (some (k:Int))=min k n:=by
 show (if (k:Int) < 0 then ((k:Int)+(n:Int)).toNat else min (k:Int).toNat n)=min k n
 rw [if_neg (by omega),Int.toNat_natCast]
end
end HT
namespace L2
open PySem PySem.Spec PyProof.Rows
abbrev TO:=St→Hp→(Option Int→Hp→Prop)→Prop
def PO (X:Cx) (e:Option Expr) (t:TO):Prop:=
 ∀ (pins:List (Addr ×Obj)) (s:Shared) (σ:St) (H:Hp) (Q:Option Int→Hp→Prop),Inv X pins σ H s→t σ H Q→
   wpAny (model X.prog X.w) X.A (evalPart e X.env) (fun u s'=> ∃ o H',Inv X pins σ H' s'∧IsPart u o∧Q o H') X.xe s
def B0:TO:=fun _ H Q=>Q none H
def Il (t:TE):TO:=fun σ H Q=>t σ H fun x H1=> ∃ i,x= .int i∧Q (some i) H1
theorem intsAre_of {ns:List Int}:∀ {us:List Value},Vals (ns.map V.int) us→IntsAre us ns:=by
 induction ns with
 | nil=>intro us r;rw [List.map_nil] at r;cases r;exact .nil
 | cons n ns ih=>
   intro us r
   rw [List.map_cons] at r
   cases r with
   | cons r1 r2=>
     obtain ⟨t,e⟩:=r1
     subst e
     exact .cons n t (ih r2)
section
variable {X:Cx} {e:Expr} {te:TE} {lo hi:Option Expr} {tl th:TO} {pos p2:Pos}
theorem Gr:PO X none B0:=by
 intro pins s σ H Q I h
 rw [evalPart_none]
 exact wpAny_pure ⟨none,H,I,.none,h⟩
theorem Gs (h:PE X e te):PO X (some e) (Il te):=by
 intro pins s σ H Q I hw
 rw [evalPart_some]
 refine dD (h pins s σ H _ I hw) fun u s1 ⟨x,H1,I1,r1,q1⟩=>?_
 obtain ⟨i,rfl,q⟩:=q1
 obtain ⟨t,rfl⟩:=r1
 exact ⟨some i,H1,I1,.int i t,q⟩
def Qt (X:Cx) (r:V→Option Int→Option Int→Hp→VK→Prop):Prop:=
 ∀ (pins:List (Addr ×Obj)) (s:Shared) (σ:St) (H:Hp) (x:V) (v vl vu:Value) (lo hi:Option Int) (sl:Addr) (Q:VK),Inv X pins σ H s→RelV x v→s.heap.IsSliceOf sl vl vu .none→IsPart vl lo→IsPart vu hi→r x lo hi H Q→
   ∃ T id,typeLookup (.type T) "__getitem__" =pure (some (.builtin id))∧s.TypeIs v T∧wpAny (model X.prog X.w) X.A (getItem v (.ref sl)) (EP X pins σ Q) X.xe s
def Ri (r:V→Option Int→Option Int→Hp→VK→Prop) (te:TE) (tl th:TO):TE:=fun σ H Q=>te σ H fun x H1=>tl σ H1 fun l H2=>th σ H2 fun u H3=>r x l u H3 Q
theorem DW {r:V→Option Int→Option Int→Hp→VK→Prop} (hr:Qt X r) (he:PE X e te) (hl:PO X lo tl) (hu:PO X hi th):PE X (.Subscript e (.Slice lo hi none p2) pos) (Ri r te tl th):=by
 intro pins s σ H Q I h
 refine Subscript_ (dD (he pins s σ H _ I h) fun v s1 ⟨x,H1,I1,r1,q1⟩=>?_)
 refine wpAny_Slice (dD (hl pins s1 σ H1 _ I1 q1) fun vl s2 ⟨l,H2,I2,pl,q2⟩=>dD (hu pins s2 σ H2 _ I2 q2) fun vu s3 ⟨u,H3,I3,pu,q3⟩=>?_)
 rw [evalPart_none]
 refine wpAny_pure ?_
 have I4:Inv X pins σ H3 { s3 with heap:=s3.heap.push { cls:= .type "slice",data:= .fields #[vl,vu,.none] } }:=I3.kept (t':=s3.toks) fun b ob q=>Heap.get?_push_of_some _ q
 obtain ⟨T,id,hT,ht,hg⟩:=hr pins { s3 with heap:=s3.heap.push { cls:= .type "slice",data:= .fields #[vl,vu,.none] } } σ H3 x v vl vu l u s3.heap.objs.size Q I4 r1 (Heap.IsSliceOf.new ..) pl pu q3
 show wpAny (model X.prog X.w) X.A (subscriptTail e (.Slice lo hi none p2) v (.ref s3.heap.objs.size)) (EP X pins σ Q) X.xe { s3 with heap:=s3.heap.push { cls:= .type "slice",data:= .fields #[vl,vu,.none] } }
 exact tail_any (ops:=[.ref s3.heap.objs.size,v]) ht hT hg (by with_unfolding_all rfl)
def Gu (xs:List V) (lo hi:Option Int):List V:=(xs.drop (HT.rN xs.length 0 lo)).take (HT.rN xs.length xs.length hi - HT.rN xs.length 0 lo)
theorem zz (xs:List V) (lo hi:Option Int):(Gu xs lo hi).length≤xs.length:=by
 unfold Gu
 rw [List.length_take,List.length_drop]
 omega
def LH (K:PySem.W.Frag):R2:=fun x y H Q=> ∃ a b ns ms,x= .ref a∧y= .ref b∧vz K H a (ns.map V.int)∧vz K H b (ms.map V.int)∧Q (.bl (HT.lexLt ns ms)) H
end
end L2
namespace L2
open PySem PySem.Spec PyProof.Rows
def DA (n:Nat) (i:Int):Option Nat:=if 0≤i then (if i < n then some i.toNat else none) else if -(n:Int)≤i then some (i+n).toNat else none
def pR {α:Type} (xs:List α) (i:Int):Option α:=(DA xs.length i).bind fun j=>xs[j]?
theorem Gv {n:Nat} {i:Int} {j:Nat} (h:DA n i=some j):seqIndex? i n=some j∧j < n∧ -(n:Int)≤i∧i < n:=by
 unfold DA at h
 by_cases h0:0≤i
 ·rw [if_pos h0] at h
  by_cases h1:i < n
  ·rw [if_pos h1] at h
   have e:i.toNat=j:=Option.some.inj h
   exact ⟨by rw [seqIndex_of h0 h1,e],by omega,by omega,h1⟩
  ·rw [if_neg h1] at h;cases h
 ·rw [if_neg h0] at h
  by_cases h1: -(n:Int)≤i
  ·rw [if_pos h1] at h
   have e:(i+n).toNat=j:=Option.some.inj h
   exact ⟨by rw [seqIndex_neg (by omega) h1,e],by omega,h1,by omega⟩
  ·rw [if_neg h1] at h;cases h
theorem B3 {α:Type} {xs:List α} {i:Int} {v:α} (h:pR xs i=some v):∃ j,seqIndex? i xs.length=some j∧xs[j]?=some v∧j < xs.length∧ -(xs.length:Int)≤i∧i < xs.length:=by
 unfold pR at h
 cases e:DA xs.length i with
 | none=>rw [e] at h;cases h
 | some j=>
   rw [e] at h
   obtain ⟨h1,h2,h3,h4⟩:=Gv e
   exact ⟨j,h1,h,h2,h3,h4⟩
theorem br {α:Type} {xs:List α} {j:Nat} {v:α} (h:xs[j]?=some v):pR xs (j:Int)=some v:=by
 have hj:j < xs.length:=(List.getElem?_eq_some_iff.mp h).1
 have e:DA xs.length (j:Int)=some j:=by
  unfold DA
  rw [if_pos (by omega),if_pos (by omega)];simp
 unfold pR;rw [e];exact h
theorem zA {α:Type} (xs:List α) (v:α):pR (xs ++ [v]) (-1)=some v:=by
 have hl:(xs ++ [v]).length=xs.length+1:=by simp
 have e:DA (xs ++ [v]).length (-1)=some xs.length:=by
  unfold DA
  rw [hl,if_neg (by decide),if_pos (by omega)]
  congr 1
  omega
 unfold pR
 rw [e]
 show (xs ++ [v])[xs.length]?=some v
 simp
def B4 (b:Expr):Prop:= ∀ o i,subscripted b false o i=operate [o,i] (getItem o i)
def Jv (X:Cx) (r:R2):Prop:=
 ∀ (value slice:Expr) (pins:List (Addr ×Obj)) (s:Shared) (σ:St) (H:Hp) (x y:V) (v u:Value) (Q:VK),Inv X pins σ H s→RelV x v→RelV y u→r x y H Q→
   subscripted slice false v u=operate [v,u] (getItem v u)→wpAny (model X.prog X.w) X.A (subscriptTail value slice v u) (EP X pins σ Q) X.xe s
def Qu (X:Cx) (id:String) (r:V→List V→Hp→VK→Prop):Prop:=
 ∀ (pins:List (Addr ×Obj)) (s:Shared) (σ:St) (H:Hp) (x:V) (xs:List V) (v:Value) (us:List Value) (Q:VK),Inv X pins σ H s→RelV x v→Vals xs us→r x xs H Q→
   wpAny (model X.prog X.w) X.A (call (.builtin id) (v :: us)) (EP X pins σ Q) X.xe s
section
variable {X:Cx} {a b:Expr} {ta tb:TE} {pos:Pos}
theorem Jv.or {r r':R2} (h:Jv X r) (h':Jv X r'):Jv X (fun x y H Q=>r x y H Q∨r' x y H Q):=by
 intro value slice pins s σ H x y v u Q I rx ry q hs
 rcases q with q | q
 ·exact h value slice pins s σ H x y v u Q I rx ry q hs
 ·exact h' value slice pins s σ H x y v u Q I rx ry q hs
theorem LI {r:R2} (hr:Jv X r) (ha:PE X a ta) (hb:PE X b tb) (hs:B4 b):PE X (.Subscript a b pos) (Rb r ta tb):=by
 intro pins s σ H Q I h
 exact Subscript_ (Oj ha hb I h fun v u s2 x y H2 I2 rx ry q=>hr a b pins s2 σ H2 x y v u Q I2 rx ry q (hs _ _))
def Ou (K:PySem.W.Frag):R2:=fun x y H Q=> ∃ p xs i v,x= .ref p∧y= .int i∧gO K H p xs∧pR xs i=some v∧Q v H
def Ov (K:PySem.W.Frag):R2:=fun x y H Q=> ∃ p xs i v,x= .ref p∧y= .int i∧vz K H p xs∧pR xs i=some v∧Q v H
theorem Gw:Jv X (Ou X.K):=by
 intro value slice pins s σ H x y v u Q I rx ry h hs
 obtain ⟨p,xs,i,z,rfl,rfl,hq,he,q⟩:=h
 cases rx
 obtain ⟨t,rfl⟩:=ry
 obtain ⟨its,r,pl,hz⟩:=I.list hq
 obtain ⟨j,h1,h2,h3,h4,h5⟩:=B3 he
 obtain ⟨w,ew,rw'⟩:=r.get h2
 have hl:=r.length
 have hn:=AK
 have fin:EP X pins σ Q w s:=⟨z,H,I,rw',q⟩
 by_cases h0:0≤i
 ·have hj:i.toNat=j:=by
   rw [seqIndex_of h0 h5] at h1
   exact Option.some.inj h1
  exact item_listR pl.isList h0 (by omega) (by rw [hj];simpa using ew) fin hs
 ·have hj:(i+(its.toArray.size:Int)).toNat=j:=by
   rw [seqIndex_neg (by omega) h4] at h1
   rw [List.size_toArray,← hl]
   exact Option.some.inj h1
  exact subscriptTail_builtinR (x:=w) pl.isList.typeIs slot_list_getitem.lookup
   (wpAny_getItem_list_neg (Q:=fun r s'=>r=w∧EP X pins σ Q r s') pl.isList (by omega) (by rw [List.size_toArray] <;> omega) (by omega) (by rw [hj];simpa using ew) ⟨rfl,fin⟩) hs
theorem Jw:Jv X (Ov X.K):=by
 intro value slice pins s σ H x y v u Q I rx ry h hs
 obtain ⟨p,xs,i,z,rfl,rfl,hq,he,q⟩:=h
 cases rx
 obtain ⟨t,rfl⟩:=ry
 obtain ⟨its,r,pl,hz⟩:=I.tuple hq
 obtain ⟨j,h1,h2,h3,h4,h5⟩:=B3 he
 obtain ⟨w,ew,rw'⟩:=r.get h2
 have hl:=r.length
 have hn:=AK
 have fin:EP X pins σ Q w s:=⟨z,H,I,rw',q⟩
 exact subscriptTail_builtinR (x:=w) pl.typeIs slot_tuple_getitem.lookup
  (getItem_tuple (j:=j) (Q:=fun r s'=>r=w∧EP X pins σ Q r s') pl (by omega) (by omega) (by rw [List.size_toArray,← hl];exact h1) (by simpa using ew) ⟨rfl,fin⟩) hs
theorem xX (lo hi:Option Int) (n:Nat):(sliceBounds lo hi none n).1=((HT.rN n 0 lo:Nat):Int)∧(sliceBounds lo hi none n).2.1=((HT.rN n n hi:Nat):Int)∧(sliceBounds lo hi none n).2.2=1:=by
 refine ⟨?_,?_,rfl⟩
 ·cases lo with
  | none=>simp [sliceBounds,HT.rN]
  | some i=>
    simp only [sliceBounds,HT.rN,Option.getD_none,show (1:Int) > 0 by decide,if_true]
    by_cases h:i < 0
    ·simp only [h,if_true] <;> omega
    ·simp only [h,if_false] <;> omega
 ·cases hi with
  | none=>simp [sliceBounds,HT.rN]
  | some i=>
    simp only [sliceBounds,HT.rN,Option.getD_none,show (1:Int) > 0 by decide,if_true]
    by_cases h:i < 0
    ·simp only [h,if_true] <;> omega
    ·simp only [h,if_false] <;> omega
theorem vF (its:List Value) (lo hi:Option Int):slicePick its.toArray lo hi none=((its.drop (HT.rN its.length 0 lo)).take (HT.rN its.length its.length hi - HT.rN its.length 0 lo)).toArray:=by
 obtain ⟨h1,h2,h3⟩:=xX lo hi its.toArray.size
 unfold slicePick
 rw [h1,h2,h3]
 simp only [sliceRange_one,pick_run,List.size_toArray] <;> rfl
def Ow (K:PySem.W.Frag):V→Option Int→Option Int→Hp→VK→Prop:=fun x lo hi H Q=> ∃ a xs,x= .ref a∧gO K H a xs∧∀ p,H p=none→Q (.ref p) (upd H p (.lst (Gu xs lo hi)))
theorem Gx:Qt X (Ow X.K):=by
 intro pins s σ H x v vl vu lo hi sl Q I rx hs pl pu h
 obtain ⟨a,xs,rfl,hx,q⟩:=h
 cases rx
 obtain ⟨its,r,ht,hz⟩:=I.list hx
 have hlen:=r.length
 refine ⟨"list",_,slot_list_getitem.lookup,ht.isList.typeIs,?_⟩
 refine wpAny_getItem_list_slice ht.isList hs pl pu .none (by simp) ?_ (by rw [List.size_toArray] <;> omega)
 rw [vF,← hlen]
 refine ⟨.ref s.heap.objs.size,_,I.laid (t':=s.toks) (o:= .lst (Gu xs lo hi)) (fun b ob q=>Heap.get?_push_of_some _ q) (Nat.le_refl _) ?_,rfl,q _ (I.hok.fresh (Nat.le_refl _))⟩
 exact ⟨Nat.le_trans (zz xs lo hi) hz,_,0,(r.drop (HT.rN xs.length 0 lo)).take (HT.rN xs.length xs.length hi - HT.rN xs.length 0 lo),Heap.get?_push_size _ rfl⟩
theorem xY:BU X (.builtin "len") (fun xs H Q=> ∃ p ys,xs= [.ref p]∧(gO X.K H p ys∨vz X.K H p ys)∧Q (.int ys.length) H):=by
 intro pins s σ H xs us Q I r h
 obtain ⟨p,ys,rfl,hq,q⟩:=h
 obtain ⟨u,rfl,rx⟩:=vals1 r
 cases rx
 have hn:=AK
 rcases hq with hq | hq
 ·obtain ⟨its,r',pl,hz⟩:=I.list hq
  have hlen:=r'.length
  exact Calls.call_len_list pl.isList (by simp only [List.size_toArray] <;> omega) ⟨.int ys.length,H,I.tok _,⟨s.toks+1,by rw [List.size_toArray,hlen]⟩,q⟩
 ·obtain ⟨its,r',pl,hz⟩:=I.tuple hq
  have hlen:=r'.length
  exact len_tuple pl (by simp only [List.size_toArray] <;> omega) ⟨.int ys.length,H,I.tok _,⟨s.toks+1,by rw [List.size_toArray,hlen]⟩,q⟩
theorem xZ:BU X (.type "list") (fun xs H Q=> ∃ p ys,xs= [.ref p]∧(gO X.K H p ys∨vz X.K H p ys)∧∀ l,H l=none→Q (.ref l) (upd H l (.lst ys))):=by
 intro pins s σ H xs us Q I r h
 obtain ⟨p,ys,rfl,hq,q⟩:=h
 obtain ⟨u,rfl,rx⟩:=vals1 r
 cases rx
 have fin:∀ (its:List Value),Vals ys its→ys.length≤sizeLine→∀ (h':Heap) (c':Nat),(∀ b o',s.heap.get? b=some o'→h'.get? b=some o')→
  h'.get? s.heap.objs.size=some { cls:= .type "list",dict:=none,data:= .seq its.toArray c',slots:= #[] }→EP X pins σ Q (.ref s.heap.objs.size) { s with heap:=h' }:=fun its r' hz h' c' kp e=>
  ⟨.ref s.heap.objs.size,_,I.laid (t':=s.toks) kp (Nat.le_refl _) (show eK X.prog X.w _ h' _ (.lst ys) from ⟨hz,its,c',r',e⟩),rfl,q _ (I.hok.fresh (Nat.le_refl _))⟩
 rcases hq with hq | hq
 ·obtain ⟨its,r',pl,hz⟩:=I.list hq
  have hlen:=r'.length
  obtain ⟨o,ho,hc,n,hd⟩:=pl.isList
  exact call_list_seq p (.inl rfl) ho hc hd (fun h' c' kp e=>fin its r' hz h' c' kp e) (by simp only [List.size_toArray] <;> omega)
 ·obtain ⟨its,r',pl,hz⟩:=I.tuple hq
  have hlen:=r'.length
  obtain ⟨o,ho,hc,n,hd⟩:=pl
  exact call_list_seq p (.inr rfl) ho hc hd (fun h' c' kp e=>fin its r' hz h' c' kp e) (by simp only [List.size_toArray] <;> omega)
def Ox (K:PySem.W.Frag) (T:String) (x:V) (H:Hp):Prop:=match x with
 | .str _=>T= "str"
 | .int _=>T= "int"
 | .ref p=>(T= "list"∧∃ xs,gO K H p xs)∨(T= "tuple"∧∃ o,K.lookup p=some o∧o.cls= .type "tuple"∧o.dict=none)∨
  (T= "dict"∧((∃ kvs,H p=some (.dK kvs))∨∃ kvs,H p=some (.dT kvs)))∨(T= "set"∧∃ S n,H p=some (.set S n))
 | _=>False
theorem DY {pins:List (Addr ×Obj)} {σ:St} {H:Hp} {s:Shared} {T:String} {x:V} {v:Value} (I:Inv X pins σ H s) (r:RelV x v) (ty:Ox X.K T x H) :
 s.TypeIs v T∧∀ a,v= .ref a→∃ ob,s.heap.get? a=some ob∧ob.dict=none:=by
 cases x with
 | str z=>
   obtain ⟨t,rfl⟩:=r
   cases (show T= "str" from ty)
   exact ⟨typeIs_str s z t,fun _ e=>nomatch e⟩
 | int i=>
   obtain ⟨t,rfl⟩:=r
   cases (show T= "int" from ty)
   exact ⟨typeIs_int s i t,fun _ e=>nomatch e⟩
 | ref p=>
   cases r
   rcases ty with ⟨rfl,xs,hq⟩ | ⟨rfl,o,hk,hc,hd⟩ | ⟨rfl,hk⟩ | ⟨rfl,S,n,hk⟩
   ·obtain ⟨its,_,pl,_⟩:=I.list hq
    refine ⟨pl.isList.typeIs,fun a e=>?_⟩
    cases e
    obtain ⟨o,n,e,c,hd,_⟩:=pl
    exact ⟨o,e,hd⟩
   ·refine ⟨⟨o,I.zh p o hk,hc⟩,fun a e=>?_⟩
    cases e
    exact ⟨o,I.zh _ o hk,hd⟩
   ·have z:∃ o,s.heap.get? p=some o∧o.ExactDict:=by
     rcases hk with ⟨kvs,hk⟩ | ⟨kvs,hk⟩
     ·obtain ⟨_,_,_,_,o,_,_,e,ex,_⟩:=I.hok p _ hk
      exact ⟨o,e,ex⟩
     ·obtain ⟨_,_,_,_,o,_,_,e,ex,_⟩:=I.hok p _ hk
      exact ⟨o,e,ex⟩
    obtain ⟨o,e,ex⟩:=z
    refine ⟨⟨o,e,ex.1⟩,fun a e2=>?_⟩
    cases e2
    exact ⟨o,e,ex.2.1⟩
   ·obtain ⟨o,_,_,_,e,ex,_⟩:=I.hok p _ hk
    refine ⟨⟨o,e,ex.1⟩,fun a e2=>?_⟩
    cases e2
    exact ⟨o,e,ex.2.1⟩
 | _=>exact False.elim ty
def LJ (K:PySem.W.Frag) (T:String) (r:V→List V→Hp→VK→Prop) (to:TE):TE:=fun σ H Q=>to σ H fun x H1=>Ox K T x H1∧r x [] H1 Q
def LK (K:PySem.W.Frag) (T:String) (r:V→List V→Hp→VK→Prop) (to:TE) (t:TA):TE:=fun σ H Q=>to σ H fun x H1=>Ox K T x H1∧t σ H1 fun xs H2=>r x xs H2 Q
variable {o e:Expr} {es:List Expr} {to:TE} {t:TA} {name:Str} {apos cpos:Pos} {T id:String} {r:V→List V→Hp→VK→Prop}
theorem Jx (pa:PlainAttrs T) (slot:Slot T name id) (hty:typeOf (.builtin id)=pure (.type "method_descriptor")) (hm:Qu X id r) (ho:PE X o to)
 (hbase:attributeBase o name X.env (eval o X.env)=eval o X.env:=by rfl) (hline:(apos.endLine == cpos.line)=true:=by rfl):PE X (.Call (.Attribute o name apos) [] [] cpos) (LJ X.K T r to):=by
 intro pins s σ H Q I h
 refine wpAny_Call_method0_late hbase hline (dD (ho pins s σ H _ I h) fun v s1 ⟨x,H1,I1,r1,ty,q1⟩=>?_)
 obtain ⟨h1,h2⟩:=DY I1 r1 ty
 exact ⟨T,id,pa,slot,hty,h1,h2,Calls.callWith_builtin rfl (PySem.evalArgs_none (hm pins s1 σ H1 x [] v [] Q I1 r1 .nil q1))⟩
theorem rO (pa:PlainAttrs T) (slot:Slot T name id) (hty:typeOf (.builtin id)=pure (.type "method_descriptor")) (hm:Qu X id r) (ho:PE X o to) (ha:PA X (e :: es) t)
 (hbase:attributeBase o name X.env (eval o X.env)=eval o X.env:=by rfl)
 (hfew:((backTo cpos (starEach (e :: es) X.env)).all (fun x=>!x.1) && (backToKw cpos (keywordEach [] X.env)).all (fun x=>x.1.isSome)
  && decide ((e :: es).length+([]:List Keyword).length+(if ([]:List Keyword).isEmpty then 0 else 1) < 30))=true:=by rfl)
 (hline:(apos.endLine == cpos.line)=true:=by rfl) (hs:starEach (e :: es) X.env=(false,eval e X.env) :: starEach es X.env:=by rfl) (hplain:(backTo cpos (starEach es X.env)).any (·.1)=false:=by rfl) :
 PE X (.Call (.Attribute o name apos) (e :: es) [] cpos) (LK X.K T r to t):=by
 intro pins s σ H Q I h
 refine wpAny_Call_method_late hbase hfew hline rfl (dD (ho pins s σ H _ I h) fun v s1 ⟨x,H1,I1,r1,ty,q1⟩=>?_)
 obtain ⟨h1,h2⟩:=DY I1 r1 ty
 refine ⟨T,id,pa,slot,hty,h1,h2,?_⟩
 have hA:=ha cpos pins s1 σ H1 _ I1 q1
 rw [hs] at hA ⊢
 refine Calls.callWith_builtin (by show (false || (backTo cpos (starEach es X.env)).any (·.1))=false;rw [hplain] <;> rfl) (Calls.evalArgs_plain ?_)
 exact dD hA fun us s2 ⟨vs,H2,I2,r2,q2⟩=>hm pins s2 σ H2 x vs v us Q I2 r1 r2 q2
end
end L2
namespace L2
open PySem PySem.Spec PyProof.Rows
def LL (X:Cx) (id:String) (r:V→List V→Hp→VK→Prop):Prop:=
 ∀ (pins:List (Addr ×Obj)) (s:Shared) (σ:St) (H:Hp) (x:V) (xs:List V) (v:Value) (us:List Value) (Q:VK),Inv X pins σ H s→RelV x v→Vals xs us→r x xs H Q→
   wpAny (model X.prog X.w) X.A (call (.builtin id) (v :: us)) (EP X pins σ Q) X.xe s
theorem Vals.one:∀ {x:V} {us:List Value},Vals [x] us→∃ u,us= [u]∧RelV x u
 | _,_,.cons r .nil=>⟨_,rfl,r⟩
theorem Vals.zero:∀ {us:List Value},Vals [] us→us= []
 | _,.nil=>rfl
theorem Vals.dropLast {xs:List V} {us:List Value} (h:Vals xs us):Vals xs.dropLast us.dropLast:=by
 induction h with
 | nil=>exact .nil
 | cons r t ih=>
   cases t with
   | nil=>exact .nil
   | cons q t'=>exact .cons r ih
theorem AL {α:Type} (l:List α):l.eraseIdx (l.length - 1)=l.dropLast:=by
 induction l with
 | nil=>rfl
 | cons a r ih=>
   cases r with
   | nil=>rfl
   | cons b r=>
     have e:(a :: b :: r).length - 1=((b :: r).length - 1)+1:=by
      have h1:(a :: b :: r).length=r.length+2:=rfl
      have h2:(b :: r).length=r.length+1:=rfl
      omega
     rw [e,List.eraseIdx_cons_succ,ih]
     all_goals rfl
section
variable {X:Cx} {pins:List (Addr ×Obj)} {σ:St} {H:Hp} {s:Shared} {l b:Addr} {xs ys zs:List V}
theorem Inv.Gy {its its':List Value} {n:Nat} {f:Array Value→Array Value} {t':Nat} (I:Inv X pins σ H s) (hH:H l=some (.lst xs))
 (e:s.heap.get? l=some { cls:= .type "list",data:= .seq its.toArray n }) (hf:f its.toArray=its'.toArray) (hv:Vals ys its') (hz:ys.length≤sizeLine) :
 Inv X pins σ (upd H l (.lst ys)) { s with heap:=s.heap.update l (Obj.mapSeq f),toks:=t' }:=by
 have q:=PySem.IsL.update e f
 rw [hf] at q
 refine I.write (x:=l) (e:=l) (by rw [hH];exact trivial) (.inl rfl) (fun b' u hb hu=>(Heap.get?_update_other s.heap (Obj.mapSeq f) (Ne.symm hb)).trans hu) ⟨_,q⟩ ?_
 exact ⟨hz,its',_,hv,q⟩
theorem Inv.Oz {its:List Value} {t':Nat} (I:Inv X pins σ H s) (hv:Vals ys its) (hz:ys.length≤sizeLine) :
 Inv X pins σ (upd H s.heap.objs.size (.lst ys)) { s with heap:=s.heap.push { cls:= .type "list",data:= .seq its.toArray },toks:=t' }:=
 I.laid (fun _ _ q=>Heap.get?_push_of_some _ q) (Nat.le_refl _) ⟨hz,its,0,hv,Heap.get?_push_size _ rfl⟩
theorem Inv.fresh (I:Inv X pins σ H s):H s.heap.objs.size=none:=I.hok.fresh (Nat.le_refl _)
theorem Inv.zB (I:Inv X pins σ H s) (hH:H l=some (.lst xs)):xs.length≤sizeLine∧∃ (its:List Value) (n:Nat),Vals xs its∧xs.length=its.length∧s.heap.get? l=some { cls:= .type "list",data:= .seq its.toArray n }:=by
 obtain ⟨z,its,n,r,e⟩:=I.hok l _ hH
 exact ⟨z,its,n,r,r.length,e⟩
theorem zC {n:Nat} (h:n≤sizeLine):Builtin.List.listTooLong n=false:=by
 unfold Builtin.List.listTooLong
 exact decide_eq_false (by omega)
end
section
variable {X:Cx}
def B5:V→List V→Hp→VK→Prop:=fun x vs H Q=> ∃ l xs y,x= .ref l∧vs= [y]∧H l=some (.lst xs)∧xs.length < sizeLine∧Q .bK (upd H l (.lst (xs ++ [y])))
theorem kI:LL X "list.append" B5:=by
 intro pins s σ H x vs v us Q I rx rv h
 obtain ⟨l,xs,y,rfl,rfl,hH,hz,q⟩:=h
 cases rx
 obtain ⟨u,rfl,ru⟩:=rv.one
 obtain ⟨z,its,n,r,hl,e⟩:=I.zB hH
 refine call_meets F.slot_list_append ⟨_,e,rfl⟩ F.entry_list_append (F.args_list_append_2 _ _) (PySem.list_append l its.toArray n u (by rw [List.size_toArray];omega)) ⟨e,?_⟩
 refine ⟨.bK,_,I.Gy (its':=its ++ [u]) hH e (by simp) (r.append (.cons ru .nil)) ?_,rfl,q⟩
 rw [List.length_append,List.length_singleton]
 omega
def B6:V→List V→Hp→VK→Prop:=fun x vs H Q=> ∃ l b xs zs,x= .ref l∧vs= [.ref b]∧H l=some (.lst xs)∧H b=some (.lst zs)∧xs.length+zs.length≤sizeLine∧Q .bK (upd H l (.lst (xs ++ zs)))
theorem wQ:LL X "list.extend" B6:=by
 intro pins s σ H x vs v us Q I rx rv h
 obtain ⟨l,b,xs,zs,rfl,rfl,hH,hB,hz,q⟩:=h
 cases rx
 obtain ⟨u,rfl,ru⟩:=rv.one
 cases ru
 obtain ⟨z,its,n,r,hl,e⟩:=I.zB hH
 obtain ⟨z2,its2,n2,r2,hl2,e2⟩:=I.zB hB
 have hsz:its.toArray.size+its2.toArray.size≤sizeLine:=by rw [List.size_toArray,List.size_toArray];omega
 have DZ:¬ (!its.toArray.isEmpty && Builtin.List.listTooLong (its.toArray.size+its2.toArray.size))=true:=by
  rw [zC hsz,Bool.and_false]
  exact Bool.false_ne_true
 refine call_meets F.slot_list_extend ⟨_,e,rfl⟩ F.entry_list_extend (F.args_list_extend_2 _ _)
  (AutoSeq1.list_extend_list_list_0 l its.toArray n b its2.toArray n2 DZ (by rw [List.size_toArray];omega) (by omega)) ⟨e,e2,?_⟩
 refine ⟨.bK,_,I.Gy (its':=its ++ its2) hH e (by simp) (r.append r2) ?_,rfl,q⟩
 rw [List.length_append]
 omega
def LM:V→List V→Hp→VK→Prop:=fun x vs H Q=> ∃ l xs y,x= .ref l∧vs= []∧H l=some (.lst xs)∧xs[xs.length - 1]?=some y∧Q y (upd H l (.lst xs.dropLast))
theorem Jy:LL X "list.pop" LM:=by
 intro pins s σ H x vs v us Q I rx rv h
 obtain ⟨l,xs,y,rfl,rfl,hH,hy,q⟩:=h
 cases rx
 have Rj:=rv.zero
 subst Rj
 obtain ⟨z,its,n,r,hl,e⟩:=I.zB hH
 obtain ⟨u,hu,ru⟩:=r.get hy
 have hy':its.toArray[its.toArray.size - 1]?=some u:=by
  show its.toArray[its.length - 1]?=some u
  rw [← Array.getElem?_toList,← hl]
  exact hu
 refine call_meets F.slot_list_pop ⟨_,e,rfl⟩ F.entry_list_pop (F.args_list_pop_1 _) (MeetsSeq.list_pop_last l its.toArray n u hy' (by rw [List.size_toArray];omega)) ⟨e,?_⟩
 refine ⟨y,_,I.Gy (its':=its.dropLast) hH e ?_ r.dropLast ?_,ru,q⟩
 ·show its.toArray.eraseIdxIfInBounds (its.toArray.size - 1)=its.dropLast.toArray
  rw [List.size_toArray,List.eraseIdxIfInBounds_toArray,AL]
 ·rw [List.length_dropLast]
  omega
def OA:R2:=fun x y H Q=> ∃ l b xs zs,x= .ref l∧y= .ref b∧H l=some (.lst xs)∧H b=some (.lst zs)∧xs.length+zs.length≤sizeLine∧∀ p,H p=none→Q (.ref p) (upd H p (.lst (xs ++ zs)))
theorem Jz:xW X (binaryOp .Add) OA:=by
 intro pins s σ H x y v u Q I rx ry h
 obtain ⟨l,b,xs,zs,rfl,rfl,hH,hB,hz,q⟩:=h
 cases rx
 cases ry
 obtain ⟨z,its,n,r,hl,e⟩:=I.zB hH
 obtain ⟨z2,its2,n2,r2,hl2,e2⟩:=I.zB hB
 refine PySem.P.add_list e e2 ?_ (by rw [List.size_toArray,List.size_toArray];omega)
 have ea:its.toArray ++ its2.toArray=(its ++ its2).toArray:=by simp
 rw [ea]
 exact ⟨.ref _,_,I.Oz (t':=s.toks) (r.append r2) (by rw [List.length_append];omega),rfl,q _ I.fresh⟩
end
section
variable {prog:Program} {w:World} {A:Around} {E:Value→Shared→Prop} {s:Shared}
end
section
variable {X:Cx}
end
end L2
namespace Att
open PySem PySem.W PySem.Calls PyProof.Rows
theorem rX {P:Params} {h:Heap}:∀ (ns:List Int) (vs:List Value),WellAll P h vs (ns.map WData.int)→IntsAre vs ns:=by
 intro ns
 induction ns with
 | nil=>
   intro vs w
   rw [List.map_nil] at w
   cases w
   exact .nil
 | cons n ns ih=>
   intro vs w
   rw [List.map_cons] at w
   cases w with
   | cons a b=>
     cases a
     exact .cons _ _ (ih _ b)
theorem CT {l:OpenLaw} {n:Nat} (hn:l.most=some n) {P:Params} {h:Heap} {args:List WData} {vals:List Value}
 (hpre:l.row.toRowW.claim.pre args=true) (hwl:WellAll P h vals args) :
 ∃ a vs ns,vals= [Value.ref a]∧args= [WData.list (ns.map WData.int)]∧h.get? a=some { cls:= .type "list",data:= .seq vs.toArray }∧IntsAre vs ns∧ns.length≤n:=by
 have hsh:WShape.hasAll [] args [.list .int]=true:=(pre_splitW hpre).1
 have hc:l.pre.holds [] { args:=args }=true:=(pre_splitW hpre).2
 obtain ⟨d,r,rfl,h1,h2⟩:=hasAllW_cons hsh
 obtain rfl:=hasAllW_nil h2
 obtain ⟨xs,rfl,h3⟩:=hasW_list h1
 obtain ⟨ns,rfl⟩:=items_int h3
 have hlen:ns.length≤n:=by
  unfold OpenLaw.pre at hc
  have h4:(WTm.not (.lt (.lit (.int (n:Int))) (.len (.arg 0)))).holds [] { args:=[.list (ns.map .int)] }=true:=by
   have h4:=(holds_andW hc).1
   rw [hn] at h4
   exact h4
  have h5:=condW_of h4 (w_not (w_lt w_lit (w_len_list (w_arg rfl))))
  rw [List.length_map] at h5
  refine Nat.le_of_not_lt fun q=>?_
  have q':(n:Int) < ((ns.length:Nat):Int):=by omega
  first
   | (rw [decide_eq_true q'] at h5;exact absurd h5 (by decide))
   | (simp at h5;omega)
 cases hwl with
 | cons w1 w2=>
   cases w2
   cases w1 with
   | list ho hall=>exact ⟨_,_,ns,rfl,rfl,ho,rX ns _ hall,hlen⟩
theorem CU (l:OpenLaw) (args:List WData):l.row.toRowW.claim.post args (.bool true) args=true:=
 postW_of (r:=l.row.toRowW) (X:=(true == true))
  (show WShape.has [] (.bool true) .bool=true by first | rfl | decide | simp [WShape.has,WShape.arms,WShape.armsAll])
  (show (WTm.eq .res (.lit (.bool true))).value [] { args:=args,res:=some (.bool true),after:=args }=some (.bool (true == true)) from w_eq_bool (w_res rfl) w_lit) rfl
section
variable {prog:Program} {w:World} {A:Around} {E:Value→Shared→Prop} {s:Shared} {K:Frag}
end
end Att
namespace L2
open PySem PySem.Spec PyProof.Rows
theorem wR:∀ {vs:List Value} {ns:List Int},IntsAre vs ns→Vals (ns.map V.int) vs
 | _,_,.nil=> .nil
 | _,_,.cons n t h=> .cons ⟨t,rfl⟩ (wR h)
def Gz (H:Hp):Prop:= ∀ b,H b=none∨∃ o xs,H b=some (.qd o (.lst xs))
theorem D0 {P:Program} {w:World} {K:PySem.W.Frag} {mg mb:Str→Option Value} {CX:DR} {k:Nat} {fa a:Addr} {fd:FuncData} {x:Str} {sp:Sp} {s₁:Shared} {vs:List Value} {ns:List Int}
 (KX:K.In s₁.heap) (hns:s₁.heap.Ns mainGlobals mg) (hb:s₁.heap.Ns builtinsNs mb) (Rk:∀ x:Str,x≠"__name__"→mb x=bootBuiltins x) (hlim:s₁.heap.NoLimit) (hg:s₁.gens= #[])
 (ha:s₁.heap.get? a=some { cls:= .type "list",data:= .seq vs.toArray }) (hi:IntsAre vs ns) (hl:ns.length≤sizeLine) (hr:jN k callerA)
 (F:∀ base:Heap,K.In base→base.Ns mainGlobals mg→bP P w K mg base CX k fa fd [x] sp) (hbind:∀ (s:Shared) (u:Value),BindsTo s fd ⟨[u],[]⟩ [(x,u)])
 (CS:∀ H:Hp,Gz H→gO K H a (ns.map V.int)→sp [.ref a] H (fun v _=>v= .bl true) fun _ _ _=>False)
 (OB:∀ H e s',CX [] H s₁ (fun _ _ _=>False) e s'→False) :
 codeAny (model P w) callerA (.call (.ref fa) ⟨[.ref a],[]⟩) (fun r s'=>r= .ok (.ret (.bool true))∧OldK s₁.heap s'.heap∧s'.os=s₁.os∧AllBare s'.gens) s₁:=by
 have rv:=wR hi
 have OC:=hi.length
 have core:∀ H:Hp,Gz H→gO K H a (ns.map V.int)→nF P w H s₁.heap→(∀ b,H b≠none→b=a)→(H a≠none→K.lookup a=none)→
  codeAny (model P w) callerA (.call (.ref fa) ⟨[.ref a],[]⟩) (fun r s'=>r= .ok (.ret (.bool true))∧OldK s₁.heap s'.heap∧s'.os=s₁.os∧AllBare s'.gens) s₁:=by
  intro H hO hS hok hA hK
  have B7:∀ {b:Addr} {o:Obj},s₁.heap.get? b=some o→H b=none→(xS s₁.heap H).get? b=some o:=fun e n=>DG e n
  have LD:∀ {b:Addr} {o:Obj} {es:Array DictEntry} {ep:Nat},s₁.heap.get? b=some o→o.data= .dict es ep→H b=none:=fun {b o es ep} e d=>by
   cases q:H b with
   | none=>rfl
   | some u=>
     have e':b=a:=hA b (by rw [q];simp)
     subst e'
     rw [ha] at e;cases e
     have d':Data.seq vs.toArray _=Data.dict es ep:=d
     cases d'
  have NF:∀ {b:Addr} {m:Str→Option Value},s₁.heap.Ns b m→(xS s₁.heap H).Ns b m:=fun {b m} ⟨o,es,ep,e,d,r⟩=>⟨o,es,ep,B7 e (LD e d),d,r⟩
  have Qv:K.In (xS s₁.heap H):=fun b o e=>B7 (KX b o e) (by
   cases q:H b with
   | none=>rfl
   | some u=>
     have e':b=a:=hA b (by rw [q];simp)
     subst e'
     rw [hK (by rw [q];simp)] at e;cases e)
  have hM:Mod K mg (xS s₁.heap H):=⟨Qv,NF hns,⟨mb,NF hb,Rk⟩,let ⟨mc,h1,h2⟩:=hlim;⟨mc,NF h1,h2⟩⟩
  have e0:Gq P w K mg (xS s₁.heap H) callerA [] s₁ H:=⟨rfl,hM,fun b o e=>Gb e,Nat.le_of_eq (CI _ _),trivial,fun b hb=>absurd (show b∈([]:List Addr) from hb) (by simp),hok,.of_eq hg⟩
  refine codeAny_mono ((F _ Qv (NF hns)).run callerA [] s₁ H ⟨[.ref a],[]⟩ [.ref a] [.ref a] _ _ hr e0 (hbind s₁ (.ref a)) (.cons rfl .nil) (CS H hO hS)) fun r s' h=>?_
  cases r with
  | error e=>exact (OB H e s' h).elim
  | ok fl=>
    cases fl with
    | next=>exact False.elim h
    | brk=>exact False.elim h
    | cont=>exact False.elim h
    | ret u=>
      obtain ⟨v,H',os,bare,un,OD,r',q⟩:=h
      have q':v= .bl true:=q
      subst q'
      obtain rfl:u=Value.bool true:=r'
      refine ⟨rfl,OldK.of_keep fun b o e=>?_,os,bare⟩
      cases q:H b with
      | none=>exact un.keep b o e q (by intro z;exact absurd (show b∈([]:List Addr) from z) (by simp)) (by simp)
      | some u=>
        rcases hO b with z | ⟨ob,xs,z⟩
        ·rw [q] at z;cases z
        ·have z2:=un.xR b ob _ z
         obtain ⟨e1,_⟩:=hok b _ z
         obtain ⟨e2,_⟩:=OD b _ z2
         rw [e] at e1;cases e1
         exact e2
 cases hk:K.lookup a with
 | some o=>
   have e:=KX a o hk
   rw [ha] at e
   cases e
   refine core (fun _=>none) (fun _=> .inl rfl) (.inr ⟨_,vs.toArray,_,hk,rfl,rfl,rfl,by rw [List.size_toArray,OC];exact hl,by simpa using rv⟩) (fun b u z=>by have z':(none:Option HO)=some u:=z;cases z') (fun b z=>absurd rfl z) fun z=>absurd rfl z
 | none=>
   refine core (fun b=>if b=a then some (.qd { cls:= .type "list",data:= .seq vs.toArray } (.lst (ns.map V.int))) else none) (fun b=>?_) (.inl (.inr ⟨{ cls:= .type "list",data:= .seq vs.toArray },if_pos rfl⟩)) (fun b u z=>?_) (fun b z=>?_) fun _=>hk
   ·by_cases hb:b=a
    ·exact .inr ⟨_,_,if_pos hb⟩
    ·exact .inl (if_neg hb)
   ·by_cases hb:b=a
    ·have z':=(if_pos hb).symm.trans z
     cases z'
     subst hb
     exact ⟨ha,by rw [List.length_map];exact hl,vs,_,rv,ha⟩
    ·have z':=(if_neg hb).symm.trans z
     cases z'
   ·by_cases hb:b=a
    ·exact hb
    ·exact absurd (if_neg hb) z
end L2
namespace L2
open PySem PySem.Spec PyProof.Rows
end L2
namespace L2
open PySem PySem.Spec PyProof.Rows
def oW (s:Stmt):Arguments:=match s with
 | .FunctionDef _ a _ _ _ _ _ _ _ _=>a
 | _=>{ posonlyargs:=[],args:=[],vararg:=none,kwonlyargs:=[],kw_defaults:=[],kwarg:=none,defaults:=[] }
def iG (s:Stmt):List Stmt:=match s with
 | .FunctionDef _ _ b _ _ _ _ _ _ _=>b
 | _=>[]
def au (s:Stmt):Scope:=match s with
 | .FunctionDef _ _ _ _ _ _ sc _ _ _=>sc
 | _=>{ kind:= .function,names:=[],isGenerator:=false,isCoroutine:=false }
abbrev dZ:DR:=fun _ _ _ _ _ _=>False
abbrev E0:XK:=fun _ _ _=>False
theorem Im {X:Cx}:Passes dZ X E0:=fun _ _ _ _ _ _ _ h=>h.elim
structure gq (K:PySem.W.Frag) (x qual:Str) (st:Stmt) (f:Addr) (fd:FuncData):Prop where
 ex:∃ (oc:Value) (od:Option Addr) (kV doc pm:Value) (an:Option Addr) (cdv ct:Value) (osl:Array (Option Value)),
  fd=PySem.W.fnOf x qual (oW st) (iG st) (au st) .none kV doc pm an cdv ct∧K.lookup f=some ⟨oc,od,.func fd,osl⟩∧PySem.W.codeIn K cdv qual=true
 kp:PySem.W.keepIn K (.ref f)=true
section
variable {P:Program} {w:World} {K:PySem.W.Frag} {mg:Str→Option Value} {base:Heap}
theorem gq.ok {x qual:Str} {st:Stmt} {f:Addr} {fd:FuncData} {N ps:List Str} {k:Nat} {sp:Sp} (F:gq K x qual st f fd) (S:aH N ps (au st)) (len:∀ vs H Q E,sp vs H Q E→vs.length=ps.length)
 (hbody:∀ (cdv:Value) (A:Around) (outer:List Env) (s:Shared) (H:Hp) (vs:List V) (Q:VK) (E:XK),jN k (A.deeper (envOfC qual (au st) s.heap.objs.size f cdv))→sp vs H Q E→
  ∃ t,AG (rW dZ P w K mg base N qual (au st) f cdv A outer s H E).FQ (iG st) t∧t { nx:=fun _ H'=>Q .bK H',rt:=Q } (start N vs) H):bP P w K mg base dZ (k+1) f fd ps sp:=by
 obtain ⟨oc,od,kV,doc,pm,an,cdv,ct,osl,rfl,lk,hcd⟩:=F.ex
 refine LF lk hcd S len fun A outer s H vs Q E hr CS=>?_
 obtain ⟨t,h,q⟩:=hbody cdv A outer s H vs Q E hr CS
 exact ⟨t,h.FQ,q⟩
theorem gq.binds {x qual:Str} {st:Stmt} {f:Addr} {fd:FuncData} {ps:List Str} (F:gq K x qual st f fd)
 (h:∀ (kV doc pm:Value) (an:Option Addr) (cdv ct:Value) (us:List Value),us.length=ps.length→bindArgs (PySem.W.fnOf x qual (oW st) (iG st) (au st) .none kV doc pm an cdv ct) ⟨us,[]⟩=pure (ps.zip us)):Binds K fd ps []:=by
 obtain ⟨oc,od,kV,doc,pm,an,cdv,ct,osl,rfl,lk,hcd⟩:=F.ex
 exact .all (h kV doc pm an cdv ct)
end
section
variable {X:Cx}
end
theorem aR {c A B:Prop} [Decidable c] (h1:c→A) (h2:¬ c→B):if c then A else B:=by
 by_cases h:c
 ·rw [if_pos h]
  exact h1 h
 ·rw [if_neg h]
  exact h2 h
end L2
set_option maxHeartbeats 4000000
namespace L3
open PySem PySem.Spec PyProof.Rows L2
abbrev St:=L2.St
inductive D where
 | bK | bl (b:Bool) | int (i:Int) | str (x:Str) | ty (n:String) | ref (a:Addr) | tup (xs:List D) | tF (xs:List D) | Io (n:String) | exc (C:Addr) (nm:Str) (xs:List D)
def Kl (K:PySem.W.Frag) (a:Addr) (xs:List V):Prop:=
 ∃ (o:Obj) (its:Array Value) (n:Nat),K.lookup a=some o∧o.cls= .type "list"∧o.dict=none∧o.data= .seq its n∧its.size≤sizeLine∧Vals xs its.toList
def Fz (K:PySem.W.Frag) (H:Hp) (a:Addr) (xs:List V):Prop:=(∃ o,H a=some (.qd o (.lst xs)))∨Kl K a xs
theorem Fz.sq {K:PySem.W.Frag} {H:Hp} {a:Addr} {xs:List V} (h:Fz K H a xs):gO K H a xs:=by
 rcases h with ⟨o,h⟩ | h
 ·exact .inl (.inr ⟨o,h⟩)
 ·exact .inr h
abbrev xO (C t:Addr):Obj:={ cls:= .ref C,data:= .fields #[.ref t,.none,.none,.none,.bool false,.none] }
abbrev yO (C t d:Addr):Obj:={ cls:= .ref C,dict:=some d,data:= .fields #[.ref t,.none,.none,.none,.bool false,.none] }
def Xo (H:Hp) (C:Addr) (nm:Str) (o:Obj) (xs:List V):Prop:=(xs= []∧∃ t,o=xO C t)∨∃ t dx od vx,xs= [vx]∧o=yO C t dx∧H dx=some (.qd od (.xd [(nm,vx)]))
mutual
def Dat (K:PySem.W.Frag) (H:Hp):D→V→Prop
 | .bK,v=>v= .bK
 | .bl b,v=>v= .bl b
 | .int i,v=>v= .int i
 | .str x,v=>v= .str x
 | .ty n,v=>v= .ty n
 | .ref a,v=>v= .ref a
 | .tup ds,v=> ∃ a xs,v= .ref a∧H a=some (.tup xs)∧aL K H ds xs
 | .tF ds,v=> ∃ a xs,v= .ref a∧Fz K H a xs∧aL K H ds xs
 | .Io n,v=> ∃ a o u,v= .ref a∧H a=some (.qd o u)∧o.cls= .type n
 | .exc C nm ds,v=> ∃ a o u xs,v= .ref a∧H a=some (.qd o u)∧Xo H C nm o xs∧aL K H ds xs
def aL (K:PySem.W.Frag) (H:Hp):List D→List V→Prop
 | [],xs=>xs= []
 | d :: ds,xs=> ∃ v vs,xs=v :: vs∧Dat K H d v∧aL K H ds vs
end
structure Ext (H H':Hp):Prop where
 tup:∀ b xs,H b=some (.tup xs)→H' b=some (.tup xs)
 qd:∀ b o u,H b=some (.qd o u)→H' b=some (.qd o u)
theorem Fz.mono {K:PySem.W.Frag} {H H':Hp} {a:Addr} {xs:List V} (e:Ext H H') (h:Fz K H a xs):Fz K H' a xs:=by
 rcases h with ⟨o,h⟩ | h
 ·exact .inl ⟨o,e.qd _ _ _ h⟩
 ·exact .inr h
theorem Xo.mono {H H':Hp} {C:Addr} {nm:Str} {o:Obj} {xs:List V} (e:Ext H H') (h:Xo H C nm o xs):Xo H' C nm o xs:=by
 rcases h with h | ⟨t,dx,od,vx,e1,e2,e3⟩
 ·exact .inl h
 ·exact .inr ⟨t,dx,od,vx,e1,e2,e.qd _ _ _ e3⟩
mutual
theorem Dat.mono {K:PySem.W.Frag} {H H':Hp} (e:Ext H H'):∀ (d:D) (v:V),Dat K H d v→Dat K H' d v
 | .bK,v,h=>by simpa [Dat] using h
 | .bl b,v,h=>by simpa [Dat] using h
 | .int i,v,h=>by simpa [Dat] using h
 | .str x,v,h=>by simpa [Dat] using h
 | .ty n,v,h=>by simpa [Dat] using h
 | .ref a,v,h=>by simpa [Dat] using h
 | .tup ds,v,h=>by
   obtain ⟨a,xs,e1,e2,e3⟩:=(show ∃ a xs,v= .ref a∧H a=some (.tup xs)∧aL K H ds xs from by simpa only [Dat] using h)
   have:=aL.mono e ds xs e3
   simp only [Dat]
   exact ⟨a,xs,e1,e.tup _ _ e2,this⟩
 | .tF ds,v,h=>by
   obtain ⟨a,xs,e1,e2,e3⟩:=(show ∃ a xs,v= .ref a∧Fz K H a xs∧aL K H ds xs from by simpa only [Dat] using h)
   have:=aL.mono e ds xs e3
   simp only [Dat]
   exact ⟨a,xs,e1,e2.mono e,this⟩
 | .Io n,v,h=>by
   obtain ⟨a,o,u,e1,e2,e3⟩:=(show ∃ a o u,v= .ref a∧H a=some (.qd o u)∧o.cls= .type n from by simpa only [Dat] using h)
   simp only [Dat]
   exact ⟨a,o,u,e1,e.qd _ _ _ e2,e3⟩
 | .exc C nm ds,v,h=>by
   obtain ⟨a,o,u,xs,e1,e2,e3,e4⟩:=(show ∃ a o u xs,v= .ref a∧H a=some (.qd o u)∧Xo H C nm o xs∧aL K H ds xs from by simpa only [Dat] using h)
   have:=aL.mono e ds xs e4
   simp only [Dat]
   exact ⟨a,o,u,xs,e1,e.qd _ _ _ e2,e3.mono e,this⟩
theorem aL.mono {K:PySem.W.Frag} {H H':Hp} (e:Ext H H'):∀ (ds:List D) (xs:List V),aL K H ds xs→aL K H' ds xs
 | [],xs,h=>by simpa [aL] using h
 | d :: ds,xs,h=>by
   obtain ⟨v,vs,e1,e2,e3⟩:=(show ∃ v vs,xs=v :: vs∧Dat K H d v∧aL K H ds vs from by simpa only [aL] using h)
   have h1:=Dat.mono e d v e2
   have h2:=aL.mono e ds vs e3
   simp only [aL]
   exact ⟨v,vs,e1,h1,h2⟩
end
section
variable {K:PySem.W.Frag} {H:Hp}
theorem cF {v:V}:Dat K H .bK v↔v= .bK:=by simp only [Dat]
theorem bx {b:Bool} {v:V}:Dat K H (.bl b) v↔v= .bl b:=by simp only [Dat]
theorem aU {i:Int} {v:V}:Dat K H (.int i) v↔v= .int i:=by simp only [Dat]
theorem gG {x:Str} {v:V}:Dat K H (.str x) v↔v= .str x:=by simp only [Dat]
theorem AM {n:String} {v:V}:Dat K H (.ty n) v↔v= .ty n:=by simp only [Dat]
theorem aO {a:Addr} {v:V}:Dat K H (.ref a) v↔v= .ref a:=by simp only [Dat]
theorem bB {ds:List D} {v:V}:Dat K H (.tup ds) v↔∃ a xs,v= .ref a∧H a=some (.tup xs)∧aL K H ds xs:=by simp only [Dat]
theorem qf {ds:List D} {v:V}:Dat K H (.tF ds) v↔∃ a xs,v= .ref a∧Fz K H a xs∧aL K H ds xs:=by simp only [Dat]
theorem B8 {n:String} {v:V}:Dat K H (.Io n) v↔∃ a o u,v= .ref a∧H a=some (.qd o u)∧o.cls= .type n:=by simp only [Dat]
theorem GA {C:Addr} {nm:Str} {ds:List D} {v:V}:Dat K H (.exc C nm ds) v↔∃ a o u xs,v= .ref a∧H a=some (.qd o u)∧Xo H C nm o xs∧aL K H ds xs:=by simp only [Dat]
theorem aS {xs:List V}:aL K H [] xs↔xs= []:=by simp only [aL]
theorem aP {d:D} {ds:List D} {xs:List V}:aL K H (d :: ds) xs↔∃ v vs,xs=v :: vs∧Dat K H d v∧aL K H ds vs:=by simp only [aL]
theorem aL.length:∀ {ds:List D} {xs:List V},aL K H ds xs→ds.length=xs.length
 | [],xs,h=>by rw [aS.mp h];rfl
 | d :: ds,xs,h=>by
   obtain ⟨v,vs,rfl,_,h⟩:=aP.mp h
   simp [aL.length h]
theorem aL.get:∀ {ds:List D} {xs:List V} {i:Nat} {d:D},aL K H ds xs→ds[i]?=some d→∃ v,xs[i]?=some v∧Dat K H d v
 | [],xs,_,_,_,e=>by simp at e
 | d :: ds,xs,i,d',h,e=>by
   obtain ⟨v,vs,rfl,h1,h2⟩:=aP.mp h
   cases i with
   | zero=>simp at e;subst e;exact ⟨v,rfl,h1⟩
   | succ i=>exact aL.get (i:=i) h2 (by simpa using e)
theorem aL.back:∀ {ds:List D} {xs:List V} {i:Nat} {v:V},aL K H ds xs→xs[i]?=some v→∃ d,ds[i]?=some d∧Dat K H d v
 | [],xs,i,v,h,e=>by rw [aS.mp h] at e;simp at e
 | d :: ds,xs,i,v',h,e=>by
   obtain ⟨v,vs,rfl,h1,h2⟩:=aP.mp h
   cases i with
   | zero=>simp at e;subst e;exact ⟨d,rfl,h1⟩
   | succ i=>exact aL.back (i:=i) h2 (by simpa using e)
theorem aL.append:∀ {ds es:List D} {xs ys:List V},aL K H ds xs→aL K H es ys→aL K H (ds ++ es) (xs ++ ys)
 | [],es,xs,ys,h,h'=>by rw [aS.mp h];exact h'
 | d :: ds,es,xs,ys,h,h'=>by
   obtain ⟨v,vs,rfl,h1,h2⟩:=aP.mp h
   exact aP.mpr ⟨v,vs ++ ys,rfl,h1,h2.append h'⟩
theorem aL.one {d:D} {v:V} (h:Dat K H d v):aL K H [d] [v]:=aP.mpr ⟨v,[],rfl,h,aS.mpr rfl⟩
end
inductive MO where
 | lst (ds:List D)
 | OE (kvs:List (List (List Int) ×D))
abbrev Mp:=Addr→Option MO
def aA (M:Mp) (a:Addr) (o:MO):Mp:=fun b=>if b=a then some o else M b
def LN:Mp:=fun _=>none
theorem ah {M:Mp} {a:Addr} {o:MO}:aA M a o a=some o:=by unfold aA;rw [if_pos rfl]
theorem bG {M:Mp} {a b:Addr} {o:MO} (h:b≠a):aA M a o b=M b:=by unfold aA;rw [if_neg h]
theorem iT {M:Mp} {a:Addr} {o u:MO}:aA (aA M a o) a u=aA M a u:=by
 funext b;unfold aA;split <;> rfl
theorem ai {M:Mp} {a b:Addr} {o u:MO} (h:M b=some o) (n:M a=none):aA M a u b=some o:=by
 rw [bG (fun e=>by subst e;rw [h] at n;cases n)];exact h
def Le (M M':Mp):Prop:= ∀ a o,M a=some o→M' a=some o
theorem Le.refl (M:Mp):Le M M:=fun _ _ h=>h
theorem Le.trans {M M1 M2:Mp} (a:Le M M1) (b:Le M1 M2):Le M M2:=fun c o h=>b c o (a c o h)
theorem Le.new {M:Mp} {a:Addr} {o:MO} (n:M a=none):Le M (aA M a o):=fun _ _ h=>ai h n
def Rl (ks:List (List Int)):Int:=reduceHash (Builtin.Tuple.tupleHashOf (ks.map fun k=>reduceHash (Builtin.Tuple.tupleHashOf (k.map hashInt))))
abbrev DX:=List (List (List Int) ×Addr ×Value)
def OF (x:List (List Int) ×Addr ×Value):DictEntry:=⟨Rl x.1,.ref x.2.1,x.2.2⟩
def OG (a:Addr) (xs:DX):Heap→Prop:=fun h=> ∃ o es ep,h.get? a=some o∧o.ExactDict∧o.data= .dict es ep∧es.toList=xs.map OF
def kD (k:List (List Int)):D:= .tup (k.map fun l=> .tup (l.map .int))
def GB (K:PySem.W.Frag) (H:Hp) (p:List (List Int) ×D) (x:List (List Int) ×Addr ×Value):Prop:=p.1=x.1∧Dat K H (kD p.1) (.ref x.2.1)∧∃ v,Dat K H p.2 v∧RelV v x.2.2
theorem GB.mono {K:PySem.W.Frag} {H H':Hp} (e:Ext H H') {p:List (List Int) ×D} {x:List (List Int) ×Addr ×Value} (h:GB K H p x):GB K H' p x:=by
 obtain ⟨h1,h2,v,h3,h4⟩:=h
 exact ⟨h1,Dat.mono e _ _ h2,v,Dat.mono e _ _ h3,h4⟩
def K7 (K:PySem.W.Frag) (H:Hp) (a:Addr):MO→Prop
 | .lst ds=> ∃ xs,H a=some (.lst xs)∧aL K H ds xs
 | .OE kvs=> ∃ xs:DX,H a=some (.ext (OG a xs))∧(a == sysModules)=false∧(xs.map (·.1)).Nodup∧Paired (GB K H) kvs xs
theorem K7.mono {K:PySem.W.Frag} {H H':Hp} {a:Addr} {o:MO} (h:K7 K H a o) (e:Ext H H') (s:∀ u,H a=some u→H' a=some u):K7 K H' a o:=by
 cases o with
 | lst ds=>
   obtain ⟨xs,e1,e2⟩:=h
   exact ⟨xs,s _ e1,aL.mono e _ _ e2⟩
 | OE kvs=>
   obtain ⟨xs,e1,y,nd,p⟩:=h
   exact ⟨xs,s _ e1,y,nd,Paired.IT p fun _ _ z=>z.mono e⟩
theorem K7.has {K:PySem.W.Frag} {H:Hp} {a:Addr} {o:MO} (h:K7 K H a o):∃ u,H a=some u∧((∃ xs,u= .lst xs)∨∃ φ,u= .ext φ):=by
 cases o with
 | lst ds=>
   obtain ⟨xs,e1,_⟩:=h
   exact ⟨_,e1,.inl ⟨_,rfl⟩⟩
 | OE kvs=>
   obtain ⟨xs,e1,_⟩:=h
   exact ⟨_,e1,.inr ⟨_,rfl⟩⟩
def cK (K:PySem.W.Frag) (H:Hp) (M:Mp):Prop:= ∀ a o,M a=some o→K7 K H a o
theorem cK.no {K:PySem.W.Frag} {H:Hp}:cK K H LN:=fun _ _ h=>by cases h
theorem cK.le {K:PySem.W.Frag} {H:Hp} {M M':Mp} (h:cK K H M') (l:Le M M'):cK K H M:=fun a o e=>h a o (l a o e)
theorem cK.lst {K:PySem.W.Frag} {H:Hp} {M:Mp} {a:Addr} {ds:List D} (h:cK K H M) (e:M a=some (.lst ds)):∃ xs,H a=some (.lst xs)∧aL K H ds xs:=h a _ e
theorem cK.free {K:PySem.W.Frag} {H:Hp} {M:Mp} {a:Addr} (h:cK K H M) (e:H a=none):M a=none:=by
 cases q:M a with
 | none=>rfl
 | some o=>
   obtain ⟨u,e',_⟩:=(h a o q).has
   rw [e] at e';cases e'
theorem cK.x6 {K:PySem.W.Frag} {H:Hp} {M:Mp} {a:Addr} {u:HO} (h:cK K H M) (e:H a=some u) (n:∀ xs,u≠ .lst xs) (n2:∀ φ,u≠ .ext φ:=by intro _ z;cases z):M a=none:=by
 cases q:M a with
 | none=>rfl
 | some o=>
   obtain ⟨u',e',h'⟩:=(h a o q).has
   rw [e] at e'
   cases e'
   rcases h' with ⟨xs,z⟩ | ⟨φ,z⟩
   ·exact absurd z (n xs)
   ·exact absurd z (n2 φ)
def Fr (M:Mp) (H:Hp) (M':Mp) (H':Hp):Prop:= ∀ b o,M b=none→H b=some o→H' b=some o∧M' b=none
theorem Fr.refl (M:Mp) (H:Hp):Fr M H M H:=fun _ _ n e=>⟨e,n⟩
theorem Fr.trans {M M1 M2:Mp} {H H1 H2:Hp} (a:Fr M H M1 H1) (b:Fr M1 H1 M2 H2):Fr M H M2 H2:=fun c o n e=>
 let ⟨e1,n1⟩:=a c o n e
 b c o n1 e1
theorem Fr.le {M M1 M2:Mp} {H H1:Hp} (a:Fr M H M1 H1) (l:Le M2 M1):Fr M H M2 H1:=fun b o n e=>by
 obtain ⟨e1,n1⟩:=a b o n e
 refine ⟨e1,?_⟩
 cases q:M2 b with
 | none=>rfl
 | some u=>rw [l b u q] at n1;cases n1
theorem Fr.ext {K:PySem.W.Frag} {M M':Mp} {H H':Hp} (f:Fr M H M' H') (r:cK K H M):Ext H H':=
 ⟨fun b xs e=>(f b _ (r.x6 e (fun _ z=>by cases z)) e).1,fun b o u e=>(f b _ (r.x6 e (fun _ z=>by cases z)) e).1⟩
theorem Ext.new {H:Hp} {p:Addr} {o:HO} (n:H p=none):Ext H (upd H p o):=
 ⟨fun b xs e=>by rw [bh (bX e n)];exact e,fun b o' u e=>by rw [bh (bX e n)];exact e⟩
theorem Fr.new {M M':Mp} {H:Hp} {p:Addr} {o:HO} (n:H p=none) (h:∀ b,b≠p→M' b=M b):Fr M H M' (upd H p o):=fun b u m e=>by
 have hb:b≠p:=bX e n
 rw [bh hb,h b hb]
 exact ⟨e,m⟩
theorem Fr.write {K:PySem.W.Frag} {M:Mp} {H:Hp} {p:Addr} {o:HO} {u:MO} {v:MO} (m:M p=some u):Fr M H (aA M p v) (upd H p o):=fun b w n e=>by
 have hb:b≠p:=fun z=>by subst z;rw [m] at n;cases n
 rw [bh hb,bG hb]
 exact ⟨e,n⟩
theorem cK.new {K:PySem.W.Frag} {M:Mp} {H:Hp} {p:Addr} {o:HO} (r:cK K H M) (n:H p=none):cK K (upd H p o) M:=fun a u e=>
 (r a u e).mono (Ext.new n) fun v q=>by rw [bh (bX q n)];exact q
theorem Ext.jP {H:Hp} {p:Addr} {xs ys:List V} (h:H p=some (.lst xs)):Ext H (upd H p (.lst ys)):=
 ⟨fun b zs e=>by rw [bh (Ie e h (by intro z;cases z))];exact e,fun b o u e=>by rw [bh (Ie e h (by intro z;cases z))];exact e⟩
theorem cK.newL {K:PySem.W.Frag} {M:Mp} {H:Hp} {p:Addr} {xs:List V} {ds:List D} (r:cK K H M) (n:H p=none) (d:aL K H ds xs):cK K (upd H p (.lst xs)) (aA M p (.lst ds)):=fun a u e=>by
 by_cases ha:a=p
 ·subst ha
  rw [ah] at e;cases e
  exact ⟨xs,dR,aL.mono (Ext.new n) _ _ d⟩
 ·rw [bG ha] at e
  exact r.new n a u e
theorem cK.jP {K:PySem.W.Frag} {M:Mp} {H:Hp} {p:Addr} {xs ys:List V} {ds:List D} (r:cK K H M) (h:H p=some (.lst xs)) (d:aL K H ds ys):cK K (upd H p (.lst ys)) (aA M p (.lst ds)):=fun a u e=>by
 by_cases ha:a=p
 ·subst ha
  rw [ah] at e;cases e
  exact ⟨ys,dR,aL.mono (Ext.jP h) _ _ d⟩
 ·rw [bG ha] at e
  exact (r a u e).mono (Ext.jP h) fun v q=>by rw [bh ha];exact q
abbrev En:=List (Option D)
structure Rep (K:PySem.W.Frag) (H:Hp) (σ:St) (ρ:En) (M:Mp):Prop where
 env:∀ (i:Nat) d,ρ[i]?=some (some d)→∃ v,σ[i]?=some (some v)∧Dat K H d v
 len:ρ.length=σ.length
 mem:cK K H M
theorem Rep.go {K:PySem.W.Frag} {H H':Hp} {σ:St} {ρ:En} {M M':Mp} (r:Rep K H σ ρ M) (f:Fr M H M' H') (r':cK K H' M'):Rep K H' σ ρ M':=
 ⟨fun i d e=>let ⟨v,e1,e2⟩:=r.env i d e;⟨v,e1,Dat.mono (f.ext r.mem) _ _ e2⟩,r.len,r'⟩
theorem Rep.set {K:PySem.W.Frag} {H:Hp} {σ:St} {ρ:En} {M:Mp} {i:Nat} {d:D} {v:V} (r:Rep K H σ ρ M) (h:Dat K H d v):Rep K H (σ.set i (some v)) (ρ.set i (some d)) M:=by
 refine ⟨fun j e q=>?_,by simp [r.len],r.mem⟩
 by_cases hj:i=j
 ·subst hj
  by_cases hl:i < ρ.length
  ·rw [List.getElem?_set_self hl] at q
   cases q
   exact ⟨v,List.getElem?_set_self (by rw [← r.len];exact hl),h⟩
  ·rw [List.getElem?_eq_none (by simp;omega)] at q;cases q
 ·rw [List.getElem?_set_ne hj] at q ⊢
  exact r.env j e q
abbrev DK:=D→Mp→Prop
abbrev cY:=En→Mp→DK→Prop
abbrev pH:=En→Mp→(Bool→Mp→Prop)→Prop
abbrev vA:=En→Mp→(List D→Mp→Prop)→Prop
def Post (K:PySem.W.Frag) (M:Mp) (H:Hp) (Q:DK):VK:=fun v H'=> ∃ d M',Fr M H M' H'∧Dat K H' d v∧cK K H' M'∧Q d M'
def rP (K:PySem.W.Frag) (M:Mp) (H:Hp) (Q:Bool→Mp→Prop):Bool→Hp→Prop:=fun b H'=> ∃ M',Fr M H M' H'∧cK K H' M'∧Q b M'
def Ip (K:PySem.W.Frag) (M:Mp) (H:Hp) (Q:List D→Mp→Prop):List V→Hp→Prop:=fun vs H'=> ∃ ds M',Fr M H M' H'∧aL K H' ds vs∧cK K H' M'∧Q ds M'
structure cE (X:Cx) (e:Expr) (t:cY):Prop where
 run:∀ (pins:List (Addr ×Obj)) (s:Shared) (σ:St) (H:Hp) (ρ:En) (M:Mp) (Q:DK),Inv X pins σ H s→Rep X.K H σ ρ M→t ρ M Q→wpAny (model X.prog X.w) X.A (eval e X.env) (EP X pins σ (Post X.K M H Q)) X.xe s
structure Av (X:Cx) (e:Expr) (t:pH):Prop where
 run:∀ (pins:List (Addr ×Obj)) (s:Shared) (σ:St) (H:Hp) (ρ:En) (M:Mp) (Q:Bool→Mp→Prop),Inv X pins σ H s→Rep X.K H σ ρ M→t ρ M Q→wpAny (model X.prog X.w) X.A (isTrue e X.env (eval e X.env)) (TP X pins σ (rP X.K M H Q)) X.xe s
structure nK (X:Cx) (e:Expr) (t:pH):Prop where
 run:∀ (whole:Sem Value) (pins:List (Addr ×Obj)) (s:Shared) (σ:St) (H:Hp) (ρ:En) (M:Mp) (Q:Bool→Mp→Prop),Inv X pins σ H s→Rep X.K H σ ρ M→t ρ M Q→wpAny (model X.prog X.w) X.A (isTrue e X.env whole) (TP X pins σ (rP X.K M H Q)) X.xe s
theorem nK.pt {X:Cx} {e:Expr} {t:pH} (h:nK X e t):Av X e t:=⟨h.run _⟩
structure AN (X:Cx) (es:List Expr) (t:vA):Prop where
 run:∀ (pos:Pos) (pins:List (Addr ×Obj)) (s:Shared) (σ:St) (H:Hp) (ρ:En) (M:Mp) (Q:List D→Mp→Prop),Inv X pins σ H s→Rep X.K H σ ρ M→t ρ M Q→wpAny (model X.prog X.w) X.A (spliced (backTo pos (starEach es X.env))) (AP X pins σ (Ip X.K M H Q)) X.xe s
structure Iq where
 nx:En→Mp→Prop
 rt:DK
 bk:En→Mp→Prop:=fun _ _=>False
 ct:En→Mp→Prop:=fun _ _=>False
abbrev oX:=Iq→En→Mp→Prop
def kJ (K:PySem.W.Frag) (M:Mp) (H:Hp) (Q:En→Mp→Prop):St→Hp→Prop:=fun σ' H'=> ∃ ρ' M',Fr M H M' H'∧Rep K H' σ' ρ' M'∧Q ρ' M'
def ends (K:PySem.W.Frag) (M:Mp) (H:Hp) (D:Iq):Ends:={ nx:=kJ K M H D.nx,rt:=Post K M H D.rt,bk:=kJ K M H D.bk,ct:=kJ K M H D.ct }
structure zD (X:Cx) (st:Stmt) (t:oX):Prop where
 run:∀ (pins:List (Addr ×Obj)) (s:Shared) (σ:St) (H:Hp) (ρ:En) (M:Mp) (D:Iq),Inv X pins σ H s→Rep X.K H σ ρ M→t D ρ M→wpAny (model X.prog X.w) X.A (exec st X.env) (SP X pins (ends X.K M H D)) X.xe s
structure nL (X:Cx) (st:List Stmt) (t:oX):Prop where
 run:∀ (pins:List (Addr ×Obj)) (s:Shared) (σ:St) (H:Hp) (ρ:En) (M:Mp) (D:Iq),Inv X pins σ H s→Rep X.K H σ ρ M→t D ρ M→wpAny (model X.prog X.w) X.A (execs st X.env) (SP X pins (ends X.K M H D)) X.xe s
section
variable {X:Cx}
theorem up {e:Expr} {te:TE} {t:cY} (h:PE X e te) (g:∀ σ H ρ M Q,Rep X.K H σ ρ M→t ρ M Q→te σ H (Post X.K M H Q)):cE X e t:=
 ⟨fun pins s σ H ρ M Q I r q=>h pins s σ H _ I (g σ H ρ M Q r q)⟩
theorem Rm {e:Expr} {te:TT} {t:pH} (h:PT X e te) (g:∀ σ H ρ M Q,Rep X.K H σ ρ M→t ρ M Q→te σ H (rP X.K M H Q)):Av X e t:=
 ⟨fun pins s σ H ρ M Q I r q=>h pins s σ H _ I (g σ H ρ M Q r q)⟩
theorem GC {st:Stmt} {te:TS} {t:oX} (h:PS X st te) (g:∀ σ H ρ M D,Rep X.K H σ ρ M→t D ρ M→te (ends X.K M H D) σ H):zD X st t:=
 ⟨fun pins s σ H ρ M D I r q=>h pins s σ H _ I (g σ H ρ M D r q)⟩
def dn (K:PySem.W.Frag) (t:cY):TE:=fun σ H Q'=> ∃ ρ M Q,Rep K H σ ρ M∧t ρ M Q∧∀ v H',Post K M H Q v H'→Q' v H'
def OH (K:PySem.W.Frag) (t:pH):TT:=fun σ H Q'=> ∃ ρ M Q,Rep K H σ ρ M∧t ρ M Q∧∀ v H',rP K M H Q v H'→Q' v H'
def Qw (K:PySem.W.Frag) (t:vA):TA:=fun σ H Q'=> ∃ ρ M Q,Rep K H σ ρ M∧t ρ M Q∧∀ v H',Ip K M H Q v H'→Q' v H'
def NG (K:PySem.W.Frag) (t:oX):TS:=fun D' σ H=> ∃ ρ M D,Rep K H σ ρ M∧t D ρ M∧(∀ σ' H',kJ K M H D.nx σ' H'→D'.nx σ' H')∧(∀ v H',Post K M H D.rt v H'→D'.rt v H')∧(∀ σ' H',kJ K M H D.bk σ' H'→D'.bk σ' H')∧(∀ σ' H',kJ K M H D.ct σ' H'→D'.ct σ' H')
theorem cE.dn {e:Expr} {t:cY} (h:cE X e t):PE X e (dn X.K t):=fun pins s σ H Q' I ⟨ρ,M,Q,r,q,k⟩=>
 dD (h.run pins s σ H ρ M Q I r q) fun _ _ ⟨v,H',I',rv,p⟩=>⟨v,H',I',rv,k v H' p⟩
theorem Av.dn {e:Expr} {t:pH} (h:Av X e t):PT X e (OH X.K t):=fun pins s σ H Q' I ⟨ρ,M,Q,r,q,k⟩=>
 dD (h.run pins s σ H ρ M Q I r q) fun _ _ ⟨H',I',p⟩=>⟨H',I',k _ H' p⟩
theorem nK.dn {e:Expr} {t:pH} (h:nK X e t):PW X e (OH X.K t):=fun wh pins s σ H Q' I ⟨ρ,M,Q,r,q,k⟩=>
 dD (h.run wh pins s σ H ρ M Q I r q) fun _ _ ⟨H',I',p⟩=>⟨H',I',k _ H' p⟩
theorem AN.dn {es:List Expr} {t:vA} (h:AN X es t):PA X es (Qw X.K t):=fun pos pins s σ H Q' I ⟨ρ,M,Q,r,q,k⟩=>
 dD (h.run pos pins s σ H ρ M Q I r q) fun _ _ ⟨vs,H',I',rv,p⟩=>⟨vs,H',I',rv,k vs H' p⟩
theorem nL.dn {sts:List Stmt} {t:oX} (h:nL X sts t):AG X sts (NG X.K t):=fun pins s σ H D' I ⟨ρ,M,D,r,q,k1,k2,k3,k4⟩=>
 dD (h.run pins s σ H ρ M D I r q) fun f s' z=>by
  cases f with
  | next=>obtain ⟨σ',H',I',p⟩:=z;exact ⟨σ',H',I',k1 _ _ p⟩
  | brk=>obtain ⟨σ',H',I',p⟩:=z;exact ⟨σ',H',I',k3 _ _ p⟩
  | cont=>obtain ⟨σ',H',I',p⟩:=z;exact ⟨σ',H',I',k4 _ _ p⟩
  | ret u=>obtain ⟨v,σ',H',I',rv,p⟩:=z;exact ⟨v,σ',H',I',rv,k2 _ _ p⟩
theorem dF {K:PySem.W.Frag} {t:cY} {σ:St} {H:Hp} {ρ:En} {M:Mp} {Q:DK} {Q':VK} (r:Rep K H σ ρ M) (q:t ρ M Q) (k:∀ v H' d M',Fr M H M' H'→Dat K H' d v→Rep K H' σ ρ M'→Q d M'→Q' v H'):dn K t σ H Q':=
 ⟨ρ,M,Q,r,q,fun v H' ⟨d,M',f,dv,rm,p⟩=>k v H' d M' f dv (r.go f rm) p⟩
theorem qT {K:PySem.W.Frag} {t:pH} {σ:St} {H:Hp} {ρ:En} {M:Mp} {Q:Bool→Mp→Prop} {Q':Bool→Hp→Prop} (r:Rep K H σ ρ M) (q:t ρ M Q) (k:∀ b H' M',Fr M H M' H'→Rep K H' σ ρ M'→Q b M'→Q' b H'):OH K t σ H Q':=
 ⟨ρ,M,Q,r,q,fun b H' ⟨M',f,rm,p⟩=>k b H' M' f (r.go f rm) p⟩
theorem nM {K:PySem.W.Frag} {t:vA} {σ:St} {H:Hp} {ρ:En} {M:Mp} {Q:List D→Mp→Prop} {Q':List V→Hp→Prop} (r:Rep K H σ ρ M) (q:t ρ M Q) (k:∀ vs H' ds M',Fr M H M' H'→aL K H' ds vs→Rep K H' σ ρ M'→Q ds M'→Q' vs H'):Qw K t σ H Q':=
 ⟨ρ,M,Q,r,q,fun v H' ⟨d,M',f,dv,rm,p⟩=>k v H' d M' f dv (r.go f rm) p⟩
theorem aG {K:PySem.W.Frag} {M:Mp} {H:Hp} {Q:DK} {d:D} {v:V} (rm:cK K H M) (h:Dat K H d v) (q:Q d M):Post K M H Q v H:=⟨d,M,.refl _ _,h,rm,q⟩
theorem Post.back {K:PySem.W.Frag} {M M1:Mp} {H H1:Hp} {Q:DK} {v:V} {H':Hp} (f:Fr M H M1 H1) (p:Post K M1 H1 Q v H'):Post K M H Q v H':=by
 obtain ⟨d,M',f',dv,rm,q⟩:=p
 exact ⟨d,M',f.trans f',dv,rm,q⟩
theorem rP.back {K:PySem.W.Frag} {M M1:Mp} {H H1:Hp} {Q:Bool→Mp→Prop} {b:Bool} {H':Hp} (f:Fr M H M1 H1) (p:rP K M1 H1 Q b H'):rP K M H Q b H':=by
 obtain ⟨M',f',rm,q⟩:=p
 exact ⟨M',f.trans f',rm,q⟩
theorem kJ.back {K:PySem.W.Frag} {M M1:Mp} {H H1:Hp} {Q:En→Mp→Prop} {σ:St} {H':Hp} (f:Fr M H M1 H1) (p:kJ K M1 H1 Q σ H'):kJ K M H Q σ H':=by
 obtain ⟨ρ',M',f',r,q⟩:=p
 exact ⟨ρ',M',f.trans f',r,q⟩
end
end L3
namespace L3
open PySem PySem.Spec PyProof.Rows L2
section
variable {X:Cx} {a b c:Expr} {ta tb tc:cY} {pos:Pos}
def LO (i:Nat):cY:=fun ρ M Q=> ∃ d,ρ[i]?=some (some d)∧Q d M
def LP (d:D):cY:=fun _ M Q=>Q d M
theorem aa (i:Nat) {x:Str} {pos:Pos} (hN:X.N[i]?=some x:=by rfl) (hv:NY X.env.scope x:=by first | exact Or.inl rfl | exact Or.inr (Or.inl rfl) | exact Or.inr (Or.inr rfl)) (hd:(x == ("__debug__" :Str))=false:=by decide)
 (hcd:(x == ("__classdict__" :Str))=false:=by decide):cE X (.Name x pos) (LO i):=
 up (IX hN hv hd hcd) fun σ H ρ M Q r ⟨d,e,q⟩=>by
  obtain ⟨v,e1,e2⟩:=r.env i d e
  exact ⟨v,e1,aG r.mem e2 q⟩
theorem aj {i j pos}:cE X (.Constant (.int i) j pos) (LP (.int i)):=up IY fun _ _ _ _ _ r q=>aG r.mem (aU.mpr rfl) q
theorem jQ {b j pos}:cE X (.Constant (.bool b) j pos) (LP (.bl b)):=up Lh fun _ _ _ _ _ r q=>aG r.mem (bx.mpr rfl) q
theorem cG {j pos}:cE X (.Constant .none j pos) (LP .bK):=up IZ fun _ _ _ _ _ r q=>aG r.mem (cF.mpr rfl) q
theorem m6 {x j pos}:cE X (.Constant (.str x) j pos) (LP (.str x)):=up I0 fun _ _ _ _ _ r q=>aG r.mem (gG.mpr rfl) q
theorem bA {x:Str} {n:String} {pos:Pos} (hg:Gl X x) (hm:X.mg x=none) (hv:bootBuiltins x=some (.type n)) (hn:x≠"__name__" :=by decide) (hd:(x == ("__debug__" :Str))=false:=by decide):cE X (.Name x pos) (LP (.ty n)):=
 up (Gf (v:= .ty n) hg hm hv rfl hn hd) fun _ _ _ _ _ r q=>aG r.mem (AM.mpr rfl) q
abbrev R3:=D→D→Mp→DK→Prop
structure pS (X:Cx) (f:Value→Value→Sem Value) (t:R3):Prop where
 run:∀ (pins:List (Addr ×Obj)) (s:Shared) (σ:St) (H:Hp) (M:Mp) (x y:V) (d e:D) (v u:Value) (Q:DK),Inv X pins σ H s→cK X.K H M→RelV x v→RelV y u→Dat X.K H d x→Dat X.K H e y→t d e M Q→
  wpAny (model X.prog X.w) X.A (f v u) (EP X pins σ (Post X.K M H Q)) X.xe s
theorem K8 {f:Value→Value→Sem Value} {r:R2} {t:R3} (h:xW X f r) (g:∀ H M x y d e Q,cK X.K H M→Dat X.K H d x→Dat X.K H e y→t d e M Q→r x y H (Post X.K M H Q)):pS X f t:=
 ⟨fun pins s σ H M x y d e v u Q I rm rx ry dx dy q=>h pins s σ H x y v u _ I rx ry (g H M x y d e Q rm dx dy q)⟩
def GD (t:R3) (ta tb:cY):cY:=fun ρ M Q=>ta ρ M fun x M1=>tb ρ M1 fun y M2=>t x y M2 Q
theorem LQ (ha:cE X a ta) (hb:cE X b tb) {pins:List (Addr ×Obj)} {s:Shared} {σ:St} {H:Hp} {ρ:En} {M:Mp} {R:D→D→Mp→Prop} (I:Inv X pins σ H s) (r:Rep X.K H σ ρ M)
 (h:ta ρ M fun x M1=>tb ρ M1 fun y M2=>R x y M2) {Q:Value→Shared→Prop} {f:Value→Value→Sem Value}
 (hf:∀ v u s2 x y d e H2 M2,Inv X pins σ H2 s2→Rep X.K H2 σ ρ M2→Fr M H M2 H2→RelV x v→RelV y u→Dat X.K H2 d x→Dat X.K H2 e y→R d e M2→wpAny (model X.prog X.w) X.A (f v u) Q X.xe s2) :
 wpAny (model X.prog X.w) X.A (eval a X.env) (fun v s₁=>wpAny (model X.prog X.w) X.A (eval b X.env) (fun u s₂=>wpAny (model X.prog X.w) X.A (f v u) Q X.xe s₂) X.xe s₁) X.xe s:=by
 refine dD (ha.run pins s σ H ρ M _ I r h) fun v s1 ⟨x,H1,I1,r1,d,M1,f1,d1,oY,q1⟩=>?_
 have R1:=r.go f1 oY
 refine dD (hb.run pins s1 σ H1 ρ M1 _ I1 R1 q1) fun u s2 ⟨y,H2,I2,r2,e,M2,f2,d2,Ir,q2⟩=>?_
 exact hf v u s2 x y d e H2 M2 I2 (R1.go f2 Ir) (f1.trans f2) r1 r2 (Dat.mono (f2.ext oY) _ _ d1) d2 q2
theorem aq {op:Operator} {t:R3} (ho:pS X (binaryOp op) t) (ha:cE X a ta) (hb:cE X b tb):cE X (.BinOp a op b pos) (GD t ta tb):=by
 constructor
 intro pins s σ H ρ M Q I r h
 refine wpAny_BinOp (LQ ha hb I r h fun v u s2 x y d e H2 M2 I2 R2 f rx ry dx dy q=>?_)
 exact dD (ho.run pins s2 σ H2 M2 x y d e v u Q I2 R2.mem rx ry dx dy q) fun _ _ ⟨z,H3,I3,r3,p⟩=>⟨z,H3,I3,r3,p.back f⟩
theorem dG {op:CmpOp} {t:R3} (ho:pS X (compareOp op) t) (ha:cE X a ta) (hb:cE X b tb) (hm:behindInMarks op b=false):cE X (.Compare a [op] [b] pos) (GD t ta tb):=by
 constructor
 intro pins s σ H ρ M Q I r h
 refine wpAny_Compare1 (LQ ha hb I r h fun v u s2 x y d e H2 M2 I2 R2 f rx ry dx dy q=>?_) hm
 exact dD (ho.run pins s2 σ H2 M2 x y d e v u Q I2 R2.mem rx ry dx dy q) fun _ _ ⟨z,H3,I3,r3,p⟩=>⟨z,H3,I3,r3,p.back f⟩
def D3 (t:cY):pH:=fun ρ M Q=>t ρ M fun x M'=> ∃ k,x= .bl k∧Q k M'
theorem aD {op:CmpOp} {t:R3} (ho:pS X (compareOp op) t) (ha:cE X a ta) (hb:cE X b tb) (hm:behindInMarks op b=false):Av X (.Compare a [op] [b] pos) (D3 (GD t ta tb)):=by
 constructor
 intro pins s σ H ρ M Q I r h
 refine wpAny_isTrue_Compare1 (dD (ha.run pins s σ H ρ M _ I r h) fun v s1 ⟨x,H1,I1,r1,d,M1,f1,d1,oY,q1⟩=>dD (hb.run pins s1 σ H1 ρ M1 _ I1 (r.go f1 oY) q1) fun u s2 ⟨y,H2,I2,r2,e,M2,f2,d2,Ir,q2⟩=>
  dD (ho.run pins s2 σ H2 M2 x y d e v u _ I2 Ir r1 r2 (Dat.mono (f2.ext oY) _ _ d1) d2 q2) fun w s3 ⟨z,H3,I3,r3,dz,M3,f3,d3,Rn,k,ek,q3⟩=>?_) hm
 subst ek
 obtain rfl:=bx.mp d3
 cases r3
 exact wpAny_truthy_bool ⟨H3,I3,M3,(f1.trans f2).trans f3,Rn,q3⟩
theorem fW {e:Expr} {t:cY} (h:cE X e t) (he:∀ whole,isTrue e X.env whole=(do let v ← whole;standAt e.pos;holding [v] (truthy v)):=by intro _;rfl):Av X e (D3 t):=by
 constructor
 intro pins s σ H ρ M Q I r hw
 refine isTrue_plain (dD (h.run pins s σ H ρ M _ I r hw) fun v s1 ⟨x,H1,I1,r1,d,M1,f1,d1,oY,k,ek,q1⟩=>?_) (he _)
 subst ek
 obtain rfl:=bx.mp d1
 cases r1
 exact wpAny_truthy_bool ⟨H1,I1,M1,f1,oY,q1⟩
variable {tA tB:pH} {rest:List Expr}
def LR (t u:pH):pH:=fun ρ M Q=>t ρ M fun c M1=>if c=true then u ρ M1 Q else Q false M1
def OI (t u:pH):pH:=fun ρ M Q=>t ρ M fun c M1=>if c=true then Q true M1 else u ρ M1 Q
def LS (t:pH):pH:=fun ρ M Q=>t ρ M fun c M1=>Q (!c) M1
theorem gU (ha:Av X a tA):nK X (.BoolOp .And [a] pos) tA:=⟨fun wh pins s σ H ρ M Q I r h=>dD (pw_and1 ha.dn wh pins s σ H _ I ⟨ρ,M,Q,r,h,fun _ _ z=>z⟩) fun _ _ z=>z⟩
theorem kK (ha:Av X a tA):nK X (.BoolOp .Or [a] pos) tA:=⟨fun wh pins s σ H ρ M Q I r h=>dD (pw_or1 ha.dn wh pins s σ H _ I ⟨ρ,M,Q,r,h,fun _ _ z=>z⟩) fun _ _ z=>z⟩
theorem kL (ha:Av X a tA) (hb:nK X (.BoolOp .And (b :: rest) pos) tB):nK X (.BoolOp .And (a :: b :: rest) pos) (LR tA tB):=⟨fun wh pins s σ H ρ M Q I r h=>
 pw_and ha.dn hb.dn wh pins s σ H _ I (qT r h fun c H' M' f r' q=>by
  cases c with
  | true=>exact ⟨ρ,M',Q,r',q,fun _ _ p=>p.back f⟩
  | false=>exact ⟨M',f,r'.mem,q⟩)⟩
theorem qg (ha:Av X a tA) (hb:nK X (.BoolOp .Or (b :: rest) pos) tB):nK X (.BoolOp .Or (a :: b :: rest) pos) (OI tA tB):=⟨fun wh pins s σ H ρ M Q I r h=>
 pw_or ha.dn hb.dn wh pins s σ H _ I (qT r h fun c H' M' f r' q=>by
  cases c with
  | true=>exact ⟨M',f,r'.mem,q⟩
  | false=>exact ⟨ρ,M',Q,r',q,fun _ _ p=>p.back f⟩)⟩
theorem k_not (ha:Av X a tA):Av X (.UnaryOp .Not a pos) (LS tA):=Rm (Ja ha.dn) fun σ H ρ M Q r h=>qT r h fun _ _ M' f r' q=>⟨M',f,r'.mem,q⟩
def JA (ta tb:cY):cY:=fun ρ M Q=>ta ρ M fun x M1=> ∃ c,x= .bl c∧if c=true then tb ρ M1 Q else Q (.bl false) M1
def LU (ta tb:cY):cY:=fun ρ M Q=>ta ρ M fun x M1=> ∃ c,x= .bl c∧if c=true then Q (.bl true) M1 else tb ρ M1 Q
def JB (ta:cY):cY:=fun ρ M Q=>ta ρ M fun x M1=> ∃ c,x= .bl c∧Q (.bl (!c)) M1
theorem m7 {op} {t:cY} (h:cE X a t):cE X (.BoolOp op [a] pos) t:=⟨fun pins s σ H ρ M Q I r hw=>BoolOp_one (h.run pins s σ H ρ M Q I r hw)⟩
theorem iU (ha:cE X a ta) (hb:cE X (.BoolOp .And (b :: rest) pos) tb):cE X (.BoolOp .And (a :: b :: rest) pos) (JA ta tb):=up (Jb ha.dn hb.dn) fun σ H ρ M Q r h=>dF r h fun v H' d M' f dv r' ⟨k,ek,q⟩=>by
 subst ek
 obtain rfl:=bx.mp dv
 refine ⟨k,rfl,?_⟩
 cases k with
 | true=>exact ⟨ρ,M',Q,r',q,fun _ _ p=>p.back f⟩
 | false=>exact ⟨.bl false,M',f,bx.mpr rfl,r'.mem,q⟩
theorem OJ (ha:cE X a ta) (hb:cE X (.BoolOp .Or (b :: rest) pos) tb):cE X (.BoolOp .Or (a :: b :: rest) pos) (LU ta tb):=up (Lk ha.dn hb.dn) fun σ H ρ M Q r h=>dF r h fun v H' d M' f dv r' ⟨k,ek,q⟩=>by
 subst ek
 obtain rfl:=bx.mp dv
 refine ⟨k,rfl,?_⟩
 cases k with
 | true=>exact ⟨.bl true,M',f,bx.mpr rfl,r'.mem,q⟩
 | false=>exact ⟨ρ,M',Q,r',q,fun _ _ p=>p.back f⟩
theorem B9 (ha:cE X a ta):cE X (.UnaryOp .Not a pos) (JB ta):=up (Jc ha.dn) fun σ H ρ M Q r h=>dF r h fun v H' d M' f dv r' ⟨k,ek,q⟩=>by
 subst ek
 obtain rfl:=bx.mp dv
 exact ⟨k,rfl,.bl (!k),M',f,bx.mpr rfl,r'.mem,q⟩
def OL (t:pH) (ta tb:cY):cY:=fun ρ M Q=>t ρ M fun c M1=>if c=true then ta ρ M1 Q else tb ρ M1 Q
theorem GF {c:Expr} (hc:Av X c tA) (ha:cE X a ta) (hb:cE X b tb):cE X (.IfExp c a b pos) (OL tA ta tb):=up (DH hc.dn ha.dn hb.dn) fun σ H ρ M Q r h=>qT r h fun k H' M' f r' q=>by
 cases k with
 | true=>exact ⟨ρ,M',Q,r',q,fun _ _ p=>p.back f⟩
 | false=>exact ⟨ρ,M',Q,r',q,fun _ _ p=>p.back f⟩
def OM (t:D→Mp→DK→Prop) (ta:cY):cY:=fun ρ M Q=>ta ρ M fun x M1=>t x M1 Q
def ON:D→Mp→DK→Prop:=fun d M Q=> ∃ i,d= .int i∧Q (.int (-i)) M
theorem m8 (ha:cE X a ta):cE X (.UnaryOp .USub a pos) (OM ON ta):=up (Lr Jl ha.dn) fun σ H ρ M Q r h=>dF r h fun v H' d M' f dv r' ⟨i,ek,q⟩=>by
 subst ek
 obtain rfl:=aU.mp dv
 exact ⟨i,rfl,.int (-i),M',f,aU.mpr rfl,r'.mem,q⟩
def Sm (n:Nat) (i:Int):Prop:=i.natAbs < 2 ^ n
def MulOk (i j:Int):Prop:= ∃ m n,Sm m i∧Sm n j∧m+n≤100000
theorem tG {k n:Nat} (h:k < 2 ^ n):k.log2≤n:=by
 rcases Nat.eq_zero_or_pos k with z | z
 ·subst z;simp
 ·exact Nat.le_of_lt (by rw [Nat.log2_lt (by omega)];exact h)
theorem qh {n:Nat} {i:Int} (h:Sm n i):Builtin.Int.intBits i≤n+1:=by
 unfold Builtin.Int.intBits
 have:=tG h
 first
  | (split <;> omega)
  | omega
theorem MulOk.ok {i j:Int} (h:MulOk i j):IntMulOk i j:=by
 obtain ⟨m,n,h1,h2,h3⟩:=h
 have b1:=qh h1
 have b2:=qh h2
 exact IntMulOk.of_bits (by omega) (by omega)
def JC (g:Int→Int→Int):R3:=fun d e M Q=> ∃ i j,d= .int i∧e= .int j∧Q (.int (g i j)) M
def wU (C:Int→Int→Prop) (g:Int→Int→Int):R3:=fun d e M Q=> ∃ i j,d= .int i∧e= .int j∧C i j∧Q (.int (g i j)) M
def zE (g:Int→Int→Bool):R3:=fun d e M Q=> ∃ i j,d= .int i∧e= .int j∧Q (.bl (g i j)) M
theorem LV {f:Value→Value→Sem Value} {g:Int→Int→Int} (h:xW X f (FU fun i j=> .int (g i j))):pS X f (JC g):=K8 h fun H M x y d e Q rm dx dy ⟨i,j,e1,e2,q⟩=>by
 subst e1;subst e2
 exact ⟨i,j,aU.mp dx,aU.mp dy,aG rm (aU.mpr rfl) q⟩
theorem zF {f:Value→Value→Sem Value} {C:Int→Int→Prop} {g:Int→Int→Int} (h:xW X f (rI C fun i j=> .int (g i j))):pS X f (wU C g):=K8 h fun H M x y d e Q rm dx dy ⟨i,j,e1,e2,hc,q⟩=>by
 subst e1;subst e2
 exact ⟨i,j,aU.mp dx,aU.mp dy,hc,aG rm (aU.mpr rfl) q⟩
theorem Ca {f:Value→Value→Sem Value} {g:Int→Int→Bool} (h:xW X f (FU fun i j=> .bl (g i j))):pS X f (zE g):=K8 h fun H M x y d e Q rm dx dy ⟨i,j,e1,e2,q⟩=>by
 subst e1;subst e2
 exact ⟨i,j,aU.mp dx,aU.mp dy,aG rm (bx.mpr rfl) q⟩
theorem cC:pS X (binaryOp .Add) (JC fun i j=>i+j):=LV Ji
theorem cO:pS X (binaryOp .Sub) (JC fun i j=>i - j):=LV Jj
theorem cZ:pS X (binaryOp .Mult) (wU MulOk fun i j=>i*j):=zF (Lu fun _ _ _ _ _ _ _ hc q=>mul_int q hc.ok)
theorem aW:pS X (binaryOp .Mod) (wU (fun _ j=>0 < j) fun i j=>i % j):=zF Jk
def LW (_ j:Int):Prop:=0 < j∧∃ n,Sm n j∧n≤8000
theorem cD:pS X (binaryOp .FloorDiv) (wU LW fun i j=>i / j):=zF (Lu fun i j _ _ _ _ _ hc q=>floordiv_int (by have:=hc.1;omega) (by rw [Int.fdiv_eq_ediv_of_nonneg _ (by have:=hc.1;omega)];exact q) (.inl (PyProof.noPylong_of_log2 (by
 obtain ⟨_,n,h1,h2⟩:=hc
 have:=tG h1
 omega))))
def D4 (i j:Int):Prop:=0≤j∧j≤1000∧i.natAbs < 2 ^ 400
theorem D4.bits {i j:Int} (h:D4 i j):(Builtin.Int.intBits i:Int)*j≤2 ^ 27:=by
 have hb:Builtin.Int.intBits i≤401:=qh (n:=400) h.2.2
 have h1:(Builtin.Int.intBits i:Int)*j≤401*j:=Int.mul_le_mul_of_nonneg_right (by omega) h.1
 have:=h.2.1
 omega
theorem pI:pS X (binaryOp .Pow) (wU D4 fun i j=>i ^ j.toNat):=zF (Lu fun _ _ _ _ _ _ _ hc q=>pow_int hc.1 hc.bits q)
theorem OO:pS X (compareOp .Lt) (zE fun i j=>decide (i < j)):=Ca Ly
theorem OP:pS X (compareOp .LtE) (zE fun i j=>decide (i≤j)):=Ca Lz
theorem AO:pS X (compareOp .Gt) (zE fun i j=>decide (j < i)):=Ca LA
theorem OQ:pS X (compareOp .GtE) (zE fun i j=>decide (j≤i)):=Ca LB
inductive NH where
 | bK | bl (b:Bool) | int (i:Int) | str (x:Str)
 deriving DecidableEq
def NH.d:NH→D | .bK=> .bK | .bl b=> .bl b | .int i=> .int i | .str x=> .str x
def NH.v:NH→V | .bK=> .bK | .bl b=> .bl b | .int i=> .int i | .str x=> .str x
end
end L3
namespace L3
open PySem PySem.Spec PyProof.Rows L2
mutual
def dQ:D→D→Bool
 | .bK,e=>match e with | .bK=>true | _=>false
 | .bl a,e=>match e with | .bl b=>a == b | .int b=>(if a then 1 else 0) == b | _=>false
 | .int a,e=>match e with | .bl b=>a == (if b then 1 else 0) | .int b=>a == b | _=>false
 | .str a,e=>match e with | .str b=>a == b | _=>false
 | .tup as,e=>match e with | .tup bs=>ee as bs | _=>false
 | .ty _,_=>false
 | .ref _,_=>false
 | .tF _,_=>false
 | .Io _,_=>false
 | .exc _ _ _,_=>false
def ee:List D→List D→Bool
 | [],e=>match e with | []=>true | _=>false
 | a :: as,e=>match e with | []=>false | b :: bs=>dQ a b && ee as bs
end
def plain:Nat→D→Bool
 | _,.bK=>true
 | _,.bl _=>true
 | _,.int _=>true
 | _,.str _=>true
 | n+1,.tup ds=>ds.all (plain n)
 | _,_=>false
theorem zG:ee [] []=true:=by simp [ee]
theorem kM (a b:D) (as bs:List D):ee (a :: as) (b :: bs)=(dQ a b && ee as bs):=by simp [ee]
theorem lR (as bs:List D):dQ (.tup as) (.tup bs)=ee as bs:=by simp [dQ]
theorem bM (a b:Int):dQ (.int a) (.int b)=(a == b):=by simp [dQ]
theorem fX:∀ (ds es:List D),ee ds es=((List.range (min ds.length es.length)).all (fun j=>dQ (ds.getD j .bK) (es.getD j .bK)) && (ds.length == es.length))
 | [],[]=>by simp [ee]
 | [],e :: es=>by simp [ee]
 | d :: ds,[]=>by simp [ee]
 | d :: ds,e :: es=>by
   rw [kM,fX ds es]
   have h:min (d :: ds).length (e :: es).length=min ds.length es.length+1:=by simp only [List.length_cons];omega
   rw [h,List.range_succ_eq_map,List.all_cons,List.all_map]
   simp only [List.getD_cons_zero,List.length_cons]
   have h2:((fun j=>dQ ((d :: ds).getD j D.bK) ((e :: es).getD j D.bK))∘Nat.succ)=fun j=>dQ (ds.getD j D.bK) (es.getD j D.bK):=by
    funext j;simp
   rw [h2]
   have h3:(ds.length+1 == es.length+1)=(ds.length == es.length):=by
    rw [Bool.eq_iff_iff];simp
   rw [h3,Bool.and_assoc]
theorem kN:∀ (n:Nat) (d:D),plain n d=true→dQ d d=true:=by
 intro n
 induction n with
 | zero=>intro d h;cases d <;> simp [plain] at h <;> simp [dQ]
 | succ n ih=>
   intro d h
   cases d with
   | tup ds=>
     have h:ds.all (plain n)=true:=by simpa [plain] using h
     rw [lR]
     have:∀ (es:List D),es.all (plain n)=true→ee es es=true:=by
      intro es
      induction es with
      | nil=>intro _;exact zG
      | cons e es Ro=>
        intro h
        rw [List.all_cons,Bool.and_eq_true] at h
        rw [kM,ih e h.1,Ro h.2];rfl
     exact this ds h
   | _=>first | (simp [plain] at h;done) | (simp [dQ];done)
section
variable {K:PySem.W.Frag} {H:Hp}
theorem Dat.inj:∀ (n:Nat) (d e:D) (v:V),plain n d=true→plain n e=true→Dat K H d v→Dat K H e v→d=e:=by
 intro n
 induction n with
 | zero=>
   intro d e v pd pe hd he
   cases d <;> simp [plain] at pd <;> cases e <;> simp [plain] at pe <;> simp only [Dat] at hd he <;> subst hd <;> first | rfl | (injection he with z;rw [z]) | cases he
 | succ n ih=>
   intro d e v pd pe hd he
   have lists:∀ (ds es:List D) (xs:List V),ds.all (plain n)=true→es.all (plain n)=true→aL K H ds xs→aL K H es xs→ds=es:=by
    intro ds
    induction ds with
    | nil=>
      intro es xs _ _ h1 h2
      rw [aS.mp h1] at h2
      cases es with
      | nil=>rfl
      | cons e es=>obtain ⟨_,_,z,_⟩:=aP.mp h2;cases z
    | cons d ds Rp=>
      intro es xs p1 p2 h1 h2
      obtain ⟨v,vs,rfl,g1,g2⟩:=aP.mp h1
      cases es with
      | nil=>cases aS.mp h2
      | cons e es=>
        obtain ⟨v',vs',z,g3,g4⟩:=aP.mp h2
        injection z with z1 z2
        subst z1;subst z2
        rw [List.all_cons,Bool.and_eq_true] at p1 p2
        rw [ih d e v p1.1 p2.1 g1 g3,Rp es vs p1.2 p2.2 g2 g4]
   cases d with
   | tup ds=>
     obtain ⟨a,xs,rfl,ha,hx⟩:=bB.mp hd
     cases e with
     | tup es=>
       obtain ⟨b,ys,z,hb,hy⟩:=bB.mp he
       injection z with z
       subst z
       rw [ha] at hb
       injection hb with hb
       injection hb with hb
       subst hb
       rw [lists ds es xs (by simpa [plain] using pd) (by simpa [plain] using pe) hx hy]
     | _=>first | (simp [plain] at pe;done) | (simp only [Dat] at he;cases he)
   | _=>first
     | (simp [plain] at pd;done)
     | (cases e <;> first
      | (simp [plain] at pe;done)
      | (obtain ⟨b,ys,z,hb,hy⟩:=bB.mp he;simp only [Dat] at hd;subst hd;cases z;done)
      | (simp only [Dat] at hd he;subst hd;first | rfl | (injection he with z;rw [z]) | cases he))
end
theorem sV {α:Type} {p:α→Bool} {xs:List α} (h:xs.all p=true) {i:Nat} {x:α} (e:xs[i]?=some x):p x=true:=(List.all_eq_true.mp h) x (List.mem_of_getElem? e)
section
variable {X:Cx} {pins:List (Addr ×Obj)} {σ:St} {H:Hp} {s:Shared}
theorem eO {P:Program} {w:World} {h:Heap} {a:Addr} {xs:List V} (ok:nF P w H h) (e:H a=some (.tup xs)):∃ its:List Value,Vals xs its∧IsTup h a its.toArray∧xs.length≤sizeLine:=by
 obtain ⟨z,its,r,p⟩:=(show eK P w H h a (.tup xs) from ok a _ e)
 exact ⟨its,r,p,z⟩
theorem D5 {P:Program} {w:World} (ok:nF P w H s.heap) {K:PySem.W.Frag}:∀ (n:Nat) (A:Around) (d e:D) (x y:V) (u v:Value),A.units+n < cLine→plain n d=true→plain n e=true→Dat K H d x→Dat K H e y→RelV x u→RelV y v→SeqAt.EqAt A s u v (dQ d e):=by
 intro n
 induction n with
 | zero=>
   intro A d e x y u v hu pd pe dx dy rx ry
   cases d with
   | tup ds=>simp [plain] at pd
   | ty _=>simp [plain] at pd
   | ref _=>simp [plain] at pd
   | tF _=>simp [plain] at pd
   | Io _=>simp [plain] at pd
   | exc _ _ _=>simp [plain] at pd
   | bK=>
     obtain rfl:=cF.mp dx
     cases rx
     cases e with
     | bK=>obtain rfl:=cF.mp dy;cases ry;simpa [dQ] using SeqAt.EqAt.same (A:=A) (s:=s) Value.none
     | bl b=>obtain rfl:=bx.mp dy;cases ry;simpa [dQ] using SeqAt.EqAt.none_bool (A:=A) (s:=s) b
     | int b=>obtain rfl:=aU.mp dy;obtain ⟨t,rfl⟩:=ry;simpa [dQ] using SeqAt.EqAt.none_int (A:=A) (s:=s) b t
     | str b=>obtain rfl:=gG.mp dy;obtain ⟨t,rfl⟩:=ry;simpa [dQ] using SeqAt.EqAt.none_str (A:=A) (s:=s) b t
     | _=>simp [plain] at pe
   | bl a=>
     obtain rfl:=bx.mp dx
     cases rx
     cases e with
     | bK=>obtain rfl:=cF.mp dy;cases ry;simpa [dQ] using SeqAt.EqAt.bool_none (A:=A) (s:=s) a
     | bl b=>obtain rfl:=bx.mp dy;cases ry;simpa [dQ] using SeqAt.EqAt.bool_bool (A:=A) (s:=s) a b
     | int b=>obtain rfl:=aU.mp dy;obtain ⟨t,rfl⟩:=ry;simpa [dQ] using SeqAt.EqAt.bool_int (A:=A) (s:=s) a b t
     | str b=>obtain rfl:=gG.mp dy;obtain ⟨t,rfl⟩:=ry;simpa [dQ] using SeqAt.EqAt.bool_str (A:=A) (s:=s) a b t
     | _=>simp [plain] at pe
   | int a=>
     obtain rfl:=aU.mp dx
     obtain ⟨t',rfl⟩:=rx
     cases e with
     | bK=>obtain rfl:=cF.mp dy;cases ry;simpa [dQ] using SeqAt.EqAt.int_none (A:=A) (s:=s) a t'
     | bl b=>obtain rfl:=bx.mp dy;cases ry;simpa [dQ] using SeqAt.EqAt.int_bool (A:=A) (s:=s) a t' b
     | int b=>obtain rfl:=aU.mp dy;obtain ⟨t,rfl⟩:=ry;simpa [dQ] using SeqAt.EqAt.int_int (A:=A) (s:=s) a t' b t
     | str b=>obtain rfl:=gG.mp dy;obtain ⟨t,rfl⟩:=ry;simpa [dQ] using SeqAt.EqAt.int_str (A:=A) (s:=s) a t' b t
     | _=>simp [plain] at pe
   | str a=>
     obtain rfl:=gG.mp dx
     obtain ⟨t',rfl⟩:=rx
     cases e with
     | bK=>obtain rfl:=cF.mp dy;cases ry;simpa [dQ] using SeqAt.EqAt.str_none (A:=A) (s:=s) a t'
     | bl b=>obtain rfl:=bx.mp dy;cases ry;simpa [dQ] using SeqAt.EqAt.str_bool (A:=A) (s:=s) a t' b
     | int b=>obtain rfl:=aU.mp dy;obtain ⟨t,rfl⟩:=ry;simpa [dQ] using SeqAt.EqAt.str_int (A:=A) (s:=s) a t' b t
     | str b=>obtain rfl:=gG.mp dy;obtain ⟨t,rfl⟩:=ry;simpa [dQ] using SeqAt.EqAt.str_str (A:=A) (s:=s) a t' b t
     | _=>simp [plain] at pe
 | succ n ih=>
   intro A d e x y u v hu pd pe dx dy rx ry
   have flat:∀ (z:D),plain (n+1) z=true→(∀ zs,z≠ .tup zs)→plain n z=true:=by
    intro z pz nz
    cases z with
    | tup zs=>exact absurd rfl (nz zs)
    | _=>first | (simp [plain];done) | (simp [plain] at pz;done)
   have hun:A.units < cLine:=by omega
   cases d with
   | tup ds=>
     obtain ⟨a,xs,rfl,ha,hx⟩:=bB.mp dx
     obtain rfl:u=Value.ref a:=rx
     obtain ⟨its,rv,pt,hz⟩:=eO ok ha
     cases e with
     | tup es=>
       obtain ⟨b,ys,rfl,hb,hy⟩:=bB.mp dy
       obtain rfl:v=Value.ref b:=ry
       obtain ⟨its2,qi,wJ,hz2⟩:=eO ok hb
       by_cases hab:a=b
       ·subst hab
        have:=Dat.inj (K:=K) (H:=H) (n+1) _ _ _ pd pe dx dy
        rw [← this,kN (n+1) _ pd]
        exact SeqAt.EqAt.same _
       ·refine SeqAt.EqAt.of_refs hab ?_
        have hl1:=hx.length.trans rv.length
        have hl2:=hy.length.trans qi.length
        have key:=SeqAt.RcAt.tuples (A:=A) (s:=s) (e:=fun j=>dQ (ds.getD j .bK) (es.getD j .bK)) pt wJ hun (fun j h1 h2=>?_)
        ·rw [lR,fX]
         simp only [List.size_toArray,← hl1,← hl2] at key
         exact key
        ·simp only [List.size_toArray] at h1 h2
         have e1:ds[j]?=some (ds.getD j .bK):=by rw [List.getD_eq_getElem?_getD,List.getElem?_eq_getElem (by omega)];rfl
         have e2:es[j]?=some (es.getD j .bK):=by rw [List.getD_eq_getElem?_getD,List.getElem?_eq_getElem (by omega)];rfl
         obtain ⟨x1,g1,g2⟩:=hx.get e1
         obtain ⟨y1,g3,g4⟩:=hy.get e2
         obtain ⟨u1,g5,g6⟩:=rv.get g1
         obtain ⟨v1,g7,g8⟩:=qi.get g3
         have q1:its.toArray[j]=u1:=by
          have:its[j]=u1:=Option.some.inj ((List.getElem?_eq_getElem (by omega)).symm.trans g5)
          simpa using this
         have q2:its2.toArray[j]=v1:=by
          have:its2[j]=v1:=Option.some.inj ((List.getElem?_eq_getElem (by omega)).symm.trans g7)
          simpa using this
         rw [q1,q2]
         have Rq:ds.all (plain n)=true:=by simpa [plain] using pd
         have Rr:es.all (plain n)=true:=by simpa [plain] using pe
         exact ih A.in1 _ _ x1 y1 u1 v1 (by show A.units+1+n < cLine;omega) (sV Rq e1) (sV Rr e2) g2 g4 g6 g8
     | bK=>obtain rfl:=cF.mp dy;cases ry;simpa [dQ] using SeqAt.EqAt.tuple_none (A:=A) (s:=s) pt hun
     | bl b=>obtain rfl:=bx.mp dy;cases ry;simpa [dQ] using SeqAt.EqAt.tuple_bool (A:=A) (s:=s) b pt hun
     | int b=>obtain rfl:=aU.mp dy;obtain ⟨t,rfl⟩:=ry;simpa [dQ] using SeqAt.EqAt.tuple_int (A:=A) (s:=s) b t pt hun
     | str b=>obtain rfl:=gG.mp dy;obtain ⟨t,rfl⟩:=ry;simpa [dQ] using SeqAt.EqAt.tuple_str (A:=A) (s:=s) b t pt hun
     | _=>simp [plain] at pe
   | _=>
     first
     | (simp [plain] at pd;done)
     | (cases e with
      | tup es=>
        obtain ⟨b,ys,rfl,hb,hy⟩:=bB.mp dy
        obtain rfl:v=Value.ref b:=ry
        obtain ⟨its2,qi,wJ,hz2⟩:=eO ok hb
        first
        | (obtain rfl:=cF.mp dx;cases rx;simpa [dQ] using SeqAt.EqAt.none_tuple (A:=A) (s:=s) wJ hun)
        | (obtain rfl:=bx.mp dx;cases rx;simpa [dQ] using SeqAt.EqAt.bool_tuple (A:=A) (s:=s) _ wJ hun)
        | (obtain rfl:=aU.mp dx;obtain ⟨t,rfl⟩:=rx;simpa [dQ] using SeqAt.EqAt.int_tuple (A:=A) (s:=s) _ t wJ hun)
        | (obtain rfl:=gG.mp dx;obtain ⟨t,rfl⟩:=rx;simpa [dQ] using SeqAt.EqAt.str_tuple (A:=A) (s:=s) _ t wJ hun)
      | _=>
        first
        | (simp [plain] at pe;done)
        | exact ih A _ _ x y u v (by omega) (flat _ pd (fun _ z=>by cases z)) (flat _ pe (fun _ z=>by cases z)) dx dy rx ry)
def D6:D→D→Bool
 | .bK,.bK=>true | .bK,.int _=>true | .int _,.bK=>true | .bK,.bl _=>true | .bl _,.bK=>true | .bK,.str _=>true | .str _,.bK=>true
 | .int _,.int _=>true | .bl _,.bl _=>true | .str _,.str _=>true
 | _,_=>false
def GG (d e:D):Bool:=match d,e with
 | .tup ds,.tup es=>plain 10 (.tup ds) && plain 10 (.tup es)
 | d,e=>D6 d e
def OR:R3:=fun d e M Q=>GG d e=true∧Q (.bl (dQ d e)) M
def OS:R3:=fun d e M Q=>GG d e=true∧Q (.bl (!dQ d e)) M
theorem D7 {K:PySem.W.Frag} {d e:D} {x y:V} (h:D6 d e=true) (dx:Dat K H d x) (dy:Dat K H e y):Jm x y=true∧decide (x=y)=dQ d e:=by
 cases d <;> cases e <;> first
  | (simp [D6] at h;done)
  | (simp only [Dat] at dx dy;subst dx;subst dy;refine ⟨rfl,?_⟩;rw [Bool.eq_iff_iff];simp [dQ])
theorem kO {P:Program} {w:World} (ok:nF P w H s.heap) {K:PySem.W.Frag} {A:Around} {ds es:List D} {xs ys:List V} {its its2:List Value} {n:Nat} (hu:A.units+n < cLine) (pd:ds.all (plain n)=true) (pe:es.all (plain n)=true) (hx:aL K H ds xs) (hy:aL K H es ys) (rv:Vals xs its) (qi:Vals ys its2) :
 ∀ j (h1:j < its.toArray.size) (h2:j < its2.toArray.size),SeqAt.EqAt A s its.toArray[j] its2.toArray[j] (dQ (ds.getD j .bK) (es.getD j .bK)):=by
 intro j h1 h2
 have hl1:=hx.length.trans rv.length
 have hl2:=hy.length.trans qi.length
 simp only [List.size_toArray] at h1 h2
 have e1:ds[j]?=some (ds.getD j .bK):=by rw [List.getD_eq_getElem?_getD,List.getElem?_eq_getElem (by omega)];rfl
 have e2:es[j]?=some (es.getD j .bK):=by rw [List.getD_eq_getElem?_getD,List.getElem?_eq_getElem (by omega)];rfl
 obtain ⟨x1,g1,g2⟩:=hx.get e1
 obtain ⟨y1,g3,g4⟩:=hy.get e2
 obtain ⟨u1,g5,g6⟩:=rv.get g1
 obtain ⟨v1,g7,g8⟩:=qi.get g3
 have q1:its.toArray[j]=u1:=by
  have:its[j]=u1:=Option.some.inj ((List.getElem?_eq_getElem (by omega)).symm.trans g5)
  simpa using this
 have q2:its2.toArray[j]=v1:=by
  have:its2[j]=v1:=Option.some.inj ((List.getElem?_eq_getElem (by omega)).symm.trans g7)
  simpa using this
 rw [q1,q2]
 exact D5 ok n A _ _ x1 y1 u1 v1 hu (sV pd e1) (sV pe e2) g2 g4 g6 g8
theorem dj (hu:X.A.units+64 < cLine):pS X (compareOp .Eq) OR:=by
 constructor
 intro pins s σ H M x y d e v u Q I rm rx ry dx dy ⟨hk,q⟩
 by_cases ht:∃ ds es,d= .tup ds∧e= .tup es
 ·obtain ⟨ds,es,rfl,rfl⟩:=ht
  have hk:(plain 10 (.tup ds) && plain 10 (.tup es))=true:=hk
  rw [Bool.and_eq_true] at hk
  obtain ⟨a,xs,rfl,ha,hx⟩:=bB.mp dx
  obtain ⟨b,ys,rfl,hb,hy⟩:=bB.mp dy
  obtain rfl:v=Value.ref a:=rx
  obtain rfl:u=Value.ref b:=ry
  obtain ⟨its,rv,pt,hz⟩:=eO I.hok ha
  obtain ⟨its2,qi,wJ,hz2⟩:=eO I.hok hb
  have hl1:=hx.length.trans rv.length
  have hl2:=hy.length.trans qi.length
  refine SeqAt.RcAt.tuples (A:=X.A) (s:=s) (e:=fun j=>dQ (ds.getD j .bK) (es.getD j .bK)) pt wJ (by omega) (kO I.hok (n:=9) (by show X.A.units+1+9 < cLine;omega) (by simpa [plain] using hk.1) (by simpa [plain] using hk.2) hx hy rv qi) _ _ _ _ ?_
  refine ⟨.bl _,H,I,rfl,aG rm (bx.mpr rfl) ?_⟩
  simp only [List.size_toArray,← hl1,← hl2]
  rw [lR,fX] at q
  exact q
 ·have hs:D6 d e=true:=by
   unfold GG at hk
   split at hk
   ·exact absurd ⟨_,_,rfl,rfl⟩ ht
   ·exact hk
  obtain ⟨h1,h2⟩:=D7 hs dx dy
  exact Lw pins s σ H x y v u _ I rx ry ⟨h1,by rw [h2];exact aG rm (bx.mpr rfl) q⟩
theorem kP (hu:X.A.units+64 < cLine):pS X (compareOp .NotEq) OS:=by
 constructor
 intro pins s σ H M x y d e v u Q I rm rx ry dx dy ⟨hk,q⟩
 by_cases ht:∃ ds es,d= .tup ds∧e= .tup es
 ·obtain ⟨ds,es,rfl,rfl⟩:=ht
  have hk:(plain 10 (.tup ds) && plain 10 (.tup es))=true:=hk
  rw [Bool.and_eq_true] at hk
  obtain ⟨a,xs,rfl,ha,hx⟩:=bB.mp dx
  obtain ⟨b,ys,rfl,hb,hy⟩:=bB.mp dy
  obtain rfl:v=Value.ref a:=rx
  obtain rfl:u=Value.ref b:=ry
  obtain ⟨its,rv,pt,hz⟩:=eO I.hok ha
  obtain ⟨its2,qi,wJ,hz2⟩:=eO I.hok hb
  have hl1:=hx.length.trans rv.length
  have hl2:=hy.length.trans qi.length
  refine SeqAt.RcNeAt.tuples (A:=X.A) (s:=s) (e:=fun j=>dQ (ds.getD j .bK) (es.getD j .bK)) pt wJ (by omega) (kO I.hok (n:=9) (by show X.A.units+1+9 < cLine;omega) (by simpa [plain] using hk.1) (by simpa [plain] using hk.2) hx hy rv qi) _ _ _ _ ?_
  refine ⟨.bl _,H,I,rfl,aG rm (bx.mpr rfl) ?_⟩
  simp only [List.size_toArray,← hl1,← hl2]
  rw [lR,fX] at q
  exact q
 ·have hs:D6 d e=true:=by
   unfold GG at hk
   split at hk
   ·exact absurd ⟨_,_,rfl,rfl⟩ ht
   ·exact hk
  obtain ⟨h1,h2⟩:=D7 hs dx dy
  exact Lx pins s σ H x y v u _ I rx ry ⟨h1,by rw [h2];exact aG rm (bx.mpr rfl) q⟩
noncomputable def NI (K:PySem.W.Frag) (H:Hp) (v:V):D:=open Classical in if h:∃ d,plain 9 d=true∧Dat K H d v then h.choose else .bK
theorem JD {K:PySem.W.Frag} {d:D} {v:V} (p:plain 9 d=true) (h:Dat K H d v):NI K H v=d:=by
 have hx:∃ d,plain 9 d=true∧Dat K H d v:=⟨d,p,h⟩
 unfold NI
 rw [dif_pos hx]
 exact Dat.inj 9 _ _ v hx.choose_spec.1 p hx.choose_spec.2 h
noncomputable def zj (K:PySem.W.Frag) (H:Hp) (d:D) (u:Value):Bool:=match Ll u with
 | some v=>dQ (NI K H v) d
 | none=>false
theorem AQ {K:PySem.W.Frag} {d e:D} {v:V} {u:Value} (p:plain 9 e=true) (h:Dat K H e v) (r:RelV v u):zj K H d u=dQ e d:=by
 unfold zj
 rw [r.abs]
 show dQ (NI K H v) d=_
 rw [JD p h]
theorem qj {K:PySem.W.Frag} {d:D}:∀ {es:List D} {xs:List V} {us:List Value},aL K H es xs→Vals xs us→es.all (plain 9)=true→us.any (zj K H d)=es.any fun e=>dQ e d
 | [],xs,us,h,r,_=>by rw [aS.mp h] at r;cases r;rfl
 | e :: es,xs,us,h,r,p=>by
   obtain ⟨v,vs,rfl,h1,h2⟩:=aP.mp h
   cases r with
   | cons r rr=>
     rw [List.all_cons,Bool.and_eq_true] at p
     rw [List.any_cons,List.any_cons,AQ p.1 h1 r,qj h2 rr p.2]
theorem oZ {P:Program} {w:World} (ok:nF P w H s.heap) {K:PySem.W.Frag} {A:Around} {d:D} {x:V} {v:Value} (hu:A.units+9 < cLine) (pd:plain 9 d=true) (dx:Dat K H d x) (rx:RelV x v) :
 ∀ {es:List D} {xs:List V} {us:List Value},aL K H es xs→Vals xs us→es.all (plain 9)=true→∀ u∈us,SeqAt.EqAt A s u v (zj K H d u)
 | [],xs,us,h,r,_,u,hm=>by rw [aS.mp h] at r;cases r;cases hm
 | e :: es,xs,us,h,r,p,u,hm=>by
   obtain ⟨y,ys,rfl,h1,h2⟩:=aP.mp h
   cases r with
   | cons r rr=>
     rw [List.all_cons,Bool.and_eq_true] at p
     rcases List.mem_cons.mp hm with rfl | hm
     ·rw [AQ p.1 h1 r]
      exact D5 ok 9 A _ _ _ _ _ _ hu p.1 pd h1 dx r rx
     ·exact oZ ok hu pd dx rx h2 rr p.2 u hm
def inD (d:D) (es:List D):Bool:=es.any fun e=>dQ e d
def LX (M:Mp) (e:D) (es:List D):Prop:=e= .tup es∨∃ a,e= .ref a∧M a=some (.lst es)
def LY (neg:Bool):R3:=fun d e M Q=> ∃ es,LX M e es∧plain 9 d=true∧es.all (plain 9)=true∧Q (.bl (if neg then !inD d es else inD d es)) M
theorem D8 (hu:X.A.units+64 < cLine):pS X (compareOp .In) (LY false):=by
 constructor
 intro pins s σ H M x y d e v u Q I rm rx ry dx dy ⟨es,hs,pd,pe,q⟩
 rcases hs with rfl | ⟨a,rfl,hM⟩
 ·obtain ⟨b,ys,rfl,hb,hy⟩:=bB.mp dy
  obtain rfl:u=Value.ref b:=ry
  obtain ⟨its,rv,pt,hz⟩:=eO I.hok hb
  refine SeqAt.in_tupleAt (zj X.K H d) pt (fun w hw=>oZ I.hok (by show X.A.units+1+9 < cLine;omega) pd dx rx hy rv pe w (by simpa using hw)) ⟨.bl _,H,I,rfl,aG rm (bx.mpr rfl) ?_⟩
  rw [show its.toArray.any (zj X.K H d)=its.any (zj X.K H d) by simp,qj hy rv pe]
  exact q
 ·obtain rfl:=aO.mp dy
  obtain rfl:u=Value.ref a:=ry
  obtain ⟨ys,hb,hy⟩:=rm.lst hM
  obtain ⟨its,rv,pl,hz⟩:=I.list (gO.of hb)
  refine SeqAt.in_listAt (zj X.K H d) pl.isList (fun w hw=>oZ I.hok (by show X.A.units+1+9 < cLine;omega) pd dx rx hy rv pe w (by simpa using hw)) ⟨.bl _,H,I,rfl,aG rm (bx.mpr rfl) ?_⟩
  rw [show its.toArray.any (zj X.K H d)=its.any (zj X.K H d) by simp,qj hy rv pe]
  exact q
theorem ff (hu:X.A.units+64 < cLine):pS X (compareOp .NotIn) (LY true):=by
 constructor
 intro pins s σ H M x y d e v u Q I rm rx ry dx dy ⟨es,hs,pd,pe,q⟩
 rcases hs with rfl | ⟨a,rfl,hM⟩
 ·obtain ⟨b,ys,rfl,hb,hy⟩:=bB.mp dy
  obtain rfl:u=Value.ref b:=ry
  obtain ⟨its,rv,pt,hz⟩:=eO I.hok hb
  refine SeqAt.notIn_tupleAt (zj X.K H d) pt (fun w hw=>oZ I.hok (by show X.A.units+1+9 < cLine;omega) pd dx rx hy rv pe w (by simpa using hw)) ⟨.bl _,H,I,rfl,aG rm (bx.mpr rfl) ?_⟩
  rw [show its.toArray.any (zj X.K H d)=its.any (zj X.K H d) by simp,qj hy rv pe]
  exact q
 ·obtain rfl:=aO.mp dy
  obtain rfl:u=Value.ref a:=ry
  obtain ⟨ys,hb,hy⟩:=rm.lst hM
  obtain ⟨its,rv,pl,hz⟩:=I.list (gO.of hb)
  refine SeqAt.notIn_listAt (zj X.K H d) pl.isList (fun w hw=>oZ I.hok (by show X.A.units+1+9 < cLine;omega) pd dx rx hy rv pe w (by simpa using hw)) ⟨.bl _,H,I,rfl,aG rm (bx.mpr rfl) ?_⟩
  rw [show its.toArray.any (zj X.K H d)=its.any (zj X.K H d) by simp,qj hy rv pe]
  exact q
theorem qU {K:PySem.W.Frag}:∀ {ns:List Int} {xs:List V},aL K H (ns.map D.int) xs→xs=ns.map V.int
 | [],xs,h=>aS.mp h
 | n :: ns,xs,h=>by
   obtain ⟨v,vs,rfl,h1,h2⟩:=aP.mp h
   rw [aU.mp h1,qU h2];rfl
def LH:R3:=fun d e M Q=> ∃ ns ms:List Int,d= .tup (ns.map D.int)∧e= .tup (ms.map D.int)∧Q (.bl (HT.lexLt ns ms)) M
theorem LZ (hu:X.A.units+64 < cLine):pS X (compareOp .Lt) LH:=by
 constructor
 intro pins s σ H M x y d e v u Q I rm rx ry dx dy ⟨ns,ms,e1,e2,q⟩
 subst e1;subst e2
 obtain ⟨a,xs,rfl,ha,hx⟩:=bB.mp dx
 obtain ⟨b,ys,rfl,hb,hy⟩:=bB.mp dy
 obtain rfl:v=Value.ref a:=rx
 obtain rfl:u=Value.ref b:=ry
 obtain ⟨its,rv,pt,hz⟩:=eO I.hok ha
 obtain ⟨its2,qi,wJ,hz2⟩:=eO I.hok hb
 rw [qU hx] at rv
 rw [qU hy] at qi
 exact HT.fm pt wJ (by simpa using intsAre_of rv) (by simpa using intsAre_of qi) (by omega) ⟨.bl _,H,I,rfl,aG rm (bx.mpr rfl) q⟩
end
end L3
namespace L3
open PySem PySem.Spec PyProof.Rows L2
section
variable {X:Cx} {a b c e:Expr} {es:List Expr} {ta tb tc te:cY} {t:vA} {pos p:Pos}
def L0:vA:=fun _ M Q=>Q [] M
def JE (ta:cY) (tr:vA):vA:=fun ρ M Q=>ta ρ M fun x M1=>tr ρ M1 fun xs M2=>Q (x :: xs) M2
theorem ak:AN X [] L0:=⟨fun pos pins s σ H ρ M Q I r h=>lP pos pins s σ H _ I ⟨[],M,.refl _ _,aS.mpr rfl,r.mem,h⟩⟩
theorem af (ha:cE X e te) (hr:AN X es t) (hs:starEach (e :: es) X.env=(false,eval e X.env) :: starEach es X.env:=by rfl):AN X (e :: es) (JE te t):=⟨fun pos pins s σ H ρ M Q I r h=>
 iF ha.dn hr.dn hs pos pins s σ H _ I (dF r h fun v H' d M' f dv r' q=>nM r' q fun vs H2 ds M2 f2 Dz r2 q2=>
  ⟨d :: ds,M2,f.trans f2,aP.mpr ⟨v,vs,rfl,Dat.mono (f2.ext r'.mem) _ _ dv,Dz⟩,r2.mem,q2⟩)⟩
def L1 (t:vA):cY:=fun ρ M Q=>t ρ M fun xs M1=>xs.length≤sizeLine∧Q (.tup xs) M1
def L4 (t:vA):cY:=fun ρ M Q=>t ρ M fun xs M1=>xs.length≤sizeLine∧∀ p,M1 p=none→Q (.ref p) (aA M1 p (.lst xs))
theorem aY {x1} (h:AN X es t):cE X (.Tuple es x1 pos) (L1 t):=up (Jq h.dn) fun σ H ρ M Q r q=>nM r q fun vs H' ds M' f dv r' ⟨hl,q⟩=>
 ⟨by rw [← dv.length];exact hl,fun p hp=>⟨.tup ds,M',f.trans (Fr.new hp fun _ _=>rfl),bB.mpr ⟨p,vs,rfl,dR,aL.mono (Ext.new hp) _ _ dv⟩,r'.mem.new hp,q⟩⟩
theorem bN (h:AN X es t):cE X (.List es pos) (L4 t):=up (Jr h.dn) fun σ H ρ M Q r q=>nM r q fun vs H' ds M' f dv r' ⟨hl,q⟩=>
 ⟨by rw [← dv.length];exact hl,fun p hp=>⟨.ref p,aA M' p (.lst ds),f.trans (Fr.new hp fun _ hb=>bG hb),aO.mpr rfl,r'.mem.newL hp dv,q p (r'.mem.free hp)⟩⟩
def L5 (M:Mp) (e:D) (es:List D):Prop:=e= .tup es∨e= .tF es∨∃ a,e= .ref a∧M a=some (.lst es)
def OT:R3:=fun d e M Q=> ∃ xs i z,L5 M d xs∧e= .int i∧pR xs i=some z∧Q z M
theorem JF {α β:Type} {xs:List α} {ys:List β} (h:xs.length=ys.length) {i:Int} {z:α} (e:pR xs i=some z):∃ j,DA ys.length i=some j∧xs[j]?=some z:=by
 unfold pR at e
 rw [h] at e
 cases q:DA ys.length i with
 | none=>rw [q] at e;cases e
 | some j=>rw [q] at e;exact ⟨j,rfl,e⟩
theorem tH {K:PySem.W.Frag} {H:Hp} {ds:List D} {xs:List V} (h:aL K H ds xs) {i:Int} {z:D} (e:pR ds i=some z):∃ v,pR xs i=some v∧Dat K H z v:=by
 obtain ⟨j,h1,h2⟩:=JF h.length e
 obtain ⟨v,h3,h4⟩:=h.get h2
 refine ⟨v,?_,h4⟩
 unfold pR
 rw [h1]
 exact h3
theorem aJ (ha:cE X a ta) (hb:cE X b tb) (hs:B4 b:=by intro _ _;rfl):cE X (.Subscript a b pos) (GD OT ta tb):=up (LI (Gw.or Jw) ha.dn hb.dn hs) fun σ H ρ M Q r q=>
 dF r q fun v H' d M' f dv r' q=>dF r' q fun u H2 e M2 f2 du r2 ⟨xs,i,z,hq,ei,at',q⟩=>by
  subst ei
  obtain rfl:=aU.mp du
  have OU:=Dat.mono (f2.ext r'.mem) _ _ dv
  have fin:∀ w,Dat X.K H2 z w→Post X.K M H Q w H2:=fun w dw=>⟨z,M2,f.trans f2,dw,r2.mem,q⟩
  rcases hq with rfl | rfl | ⟨l,rfl,hl⟩
  ·obtain ⟨p,ys,rfl,hp,hy⟩:=bB.mp OU
   obtain ⟨w,h1,h2⟩:=tH hy at'
   exact .inr ⟨p,ys,i,w,rfl,rfl,vz.of hp,h1,fin w h2⟩
  ·obtain ⟨p,ys,rfl,hp,hy⟩:=qf.mp OU
   obtain ⟨w,h1,h2⟩:=tH hy at'
   exact .inl ⟨p,ys,i,w,rfl,rfl,hp.sq,h1,fin w h2⟩
  ·obtain rfl:=aO.mp OU
   obtain ⟨ys,hp,hy⟩:=r2.mem.lst hl
   obtain ⟨w,h1,h2⟩:=tH hy at'
   exact .inl ⟨l,ys,i,w,rfl,rfl,gO.of hp,h1,fin w h2⟩
structure Call3 (X:Cx) (f:Value) (t:List D→Mp→DK→Prop):Prop where
 run:∀ (pins:List (Addr ×Obj)) (s:Shared) (σ:St) (H:Hp) (M:Mp) (xs:List V) (ds:List D) (us:List Value) (Q:DK),Inv X pins σ H s→cK X.K H M→Vals xs us→aL X.K H ds xs→t ds M Q→
  wpAny (model X.prog X.w) X.A (call f us) (EP X pins σ (Post X.K M H Q)) X.xe s
theorem D9 {f:Value} {r:List V→Hp→VK→Prop} {t:List D→Mp→DK→Prop} (h:BU X f r) (g:∀ H M xs ds Q,cK X.K H M→aL X.K H ds xs→t ds M Q→r xs H (Post X.K M H Q)):Call3 X f t:=
 ⟨fun pins s σ H M xs ds us Q I rm rs dx q=>h pins s σ H xs us _ I rs (g H M xs ds Q rm dx q)⟩
def L6 (r:List D→Mp→DK→Prop) (t:vA):cY:=fun ρ M Q=>t ρ M fun ds M1=>r ds M1 Q
variable {x:Str} {id T:String} {r:List D→Mp→DK→Prop}
theorem aK (hc:Call3 X (.builtin id) r) (hg:Gl X x) (hm:X.mg x=none) (hv:bootBuiltins x=some (.builtin id)) (ha:AN X (e :: es) t) (hn:x≠"__name__" :=by decide) (hdb:(x == ("__debug__" :Str))=false:=by decide)
 (he:starEach (e :: es) X.env=(false,eval e X.env) :: starEach es X.env:=by rfl) (hpl:(backTo pos (starEach es X.env)).any (·.1)=false:=by rfl):cE X (.Call (.Name x p) (e :: es) [] pos) (L6 r t):=by
 constructor
 intro pins s σ H ρ M Q I r h
 refine wpAny_Call_Name_kw (lN I hg hm hv ?_ hn hdb)
 refine PyProof.Rows.callWith_builtin1 (dD (ha.run pos pins s σ H ρ M _ I r h) fun us s1 ⟨vs,H1,I1,r1,ds,M1,f1,d1,oY,q1⟩=>?_) he hpl
 exact dD (hc.run pins s1 σ H1 M1 vs ds us Q I1 oY r1 d1 q1) fun _ _ ⟨z,H3,I3,r3,p⟩=>⟨z,H3,I3,r3,p.back f1⟩
theorem Cb (hc:Call3 X (.type T) r) (hg:Gl X x) (hm:X.mg x=none) (hv:bootBuiltins x=some (.type T)) (ha:AN X (e :: es) t) (hn:x≠"__name__" :=by decide) (hdb:(x == ("__debug__" :Str))=false:=by decide)
 (he:starEach (e :: es) X.env=(false,eval e X.env) :: starEach es X.env:=by rfl) (hpl:(backTo pos (starEach es X.env)).any (·.1)=false:=by rfl):cE X (.Call (.Name x p) (e :: es) [] pos) (L6 r t):=by
 constructor
 intro pins s σ H ρ M Q I r h
 refine wpAny_Call_Name_kw (lN I hg hm hv ?_ hn hdb)
 refine PyProof.Rows.callWith_type1 (dD (ha.run pos pins s σ H ρ M _ I r h) fun us s1 ⟨vs,H1,I1,r1,ds,M1,f1,d1,oY,q1⟩=>?_) he hpl
 exact dD (hc.run pins s1 σ H1 M1 vs ds us Q I1 oY r1 d1 q1) fun _ _ ⟨z,H3,I3,r3,p⟩=>⟨z,H3,I3,r3,p.back f1⟩
theorem jx {K:PySem.W.Frag} {H:Hp} {d:D} {xs:List V} (h:aL K H [d] xs):∃ v,xs= [v]∧Dat K H d v:=by
 obtain ⟨v,vs,rfl,h1,h2⟩:=aP.mp h
 rw [aS.mp h2]
 exact ⟨v,rfl,h1⟩
theorem tK {K:PySem.W.Frag} {H:Hp} {d e:D} {xs:List V} (h:aL K H [d,e] xs):∃ v u,xs= [v,u]∧Dat K H d v∧Dat K H e u:=by
 obtain ⟨v,vs,rfl,h1,h2⟩:=aP.mp h
 obtain ⟨u,rfl,h3⟩:=jx h2
 exact ⟨v,u,rfl,h1,h3⟩
def OV:List D→Mp→DK→Prop:=fun ds M Q=> ∃ d xs,ds= [d]∧L5 M d xs∧Q (.int xs.length) M
theorem cU:Call3 X (.builtin "len") OV:=D9 xY fun H M xs ds Q rm dx ⟨d,ys,ei,hs,q⟩=>by
 subst ei
 obtain ⟨v,rfl,hv⟩:=jx dx
 rcases hs with rfl | rfl | ⟨l,rfl,hl⟩
 ·obtain ⟨p,zs,rfl,hp,hz⟩:=bB.mp hv
  exact ⟨p,zs,rfl,.inr (vz.of hp),aG rm (aU.mpr (by rw [hz.length])) q⟩
 ·obtain ⟨p,zs,rfl,hp,hz⟩:=qf.mp hv
  exact ⟨p,zs,rfl,.inl hp.sq,aG rm (aU.mpr (by rw [hz.length])) q⟩
 ·obtain rfl:=aO.mp hv
  obtain ⟨zs,hp,hz⟩:=rm.lst hl
  exact ⟨l,zs,rfl,.inl (gO.of hp),aG rm (aU.mpr (by rw [hz.length])) q⟩
def L7:List D→Mp→DK→Prop:=fun ds M Q=> ∃ i j:Int,ds= [.int i,.int j]∧Q (.int (min i j)) M
theorem Ea (hc:X.calm=true):Call3 X (.builtin "min") L7:=D9 (CO hc) fun H M xs ds Q rm dx ⟨i,j,ei,q⟩=>by
 subst ei
 obtain ⟨v,u,rfl,hv,hu⟩:=tK dx
 obtain rfl:=aU.mp hv
 obtain rfl:=aU.mp hu
 refine ⟨i,j,rfl,aG rm (aU.mpr rfl) ?_⟩
 have e:(if j < i then j else i)=min i j:=by split <;> omega
 rw [e]
 exact q
inductive Eb (M:Mp):D→String→Prop where
 | bK:Eb M .bK "NoneType"
 | bl (b:Bool):Eb M (.bl b) "bool"
 | int (i:Int):Eb M (.int i) "int"
 | str (x:Str):Eb M (.str x) "str"
 | tup (ds:List D):Eb M (.tup ds) "tuple"
 | lst {a:Addr} {ds:List D} (h:M a=some (.lst ds)):Eb M (.ref a) "list"
 | dct:Eb M (.Io "dict") "dict"
def OW (K:PySem.W.Frag):List D→Mp→DK→Prop:=fun ds M Q=> ∃ d n m b,ds= [d,.ty m]∧Eb M d n∧PySem.W.kitOne K (.type n) (.type m)=some b∧Q (.bl b) M
theorem cu:Call3 X (.builtin "isinstance") (OW X.K):=by
 constructor
 intro pins s σ H M xs ds us Q I rm rs dx ⟨d,n,m,b,ei,ty,hk,q⟩
 subst ei
 obtain ⟨v,u,rfl,hv,hu⟩:=tK dx
 obtain rfl:=AM.mp hu
 obtain ⟨v',u',rfl,r1,r2⟩:=vals2 rs
 obtain rfl:u'=Value.type m:=r2
 have fin:∀ tk,EP X pins σ (Post X.K M H Q) (.bool b) { s with toks:=tk }:=fun tk=>⟨.bl b,H,I.tok tk,rfl,aG rm (bx.mpr rfl) q⟩
 cases ty with
 | bK=>obtain rfl:=cF.mp hv;exact iO I r1 .bK hk fin
 | bl k=>obtain rfl:=bx.mp hv;exact iO I r1 (.bl k) hk fin
 | int i=>obtain rfl:=aU.mp hv;exact iO I r1 (.int i) hk fin
 | str z=>obtain rfl:=gG.mp hv;exact iO I r1 (.str z) hk fin
 | tup zs=>
   obtain ⟨p,ys,rfl,hp,hy⟩:=bB.mp hv
   exact iO I r1 (.tup hp) hk fin
 | lst hM=>
   obtain rfl:=aO.mp hv
   obtain ⟨ys,hp,hy⟩:=rm.lst hM
   exact iO I r1 (.lst hp) hk fin
 | dct=>
   obtain ⟨p,o,u,rfl,hp,hc⟩:=B8.mp hv
   cases (show v'=Value.ref p from r1)
   obtain ⟨h1,_⟩:=(show eK X.prog X.w H s.heap p (.qd o u) from I.hok p _ hp)
   exact PySem.W.kia_one PySem.W.kitx_dict I.zh ⟨o,h1,hc⟩ hk (fun z=>nomatch z) fin
abbrev sW:=List D→(D→Prop)→Prop
def rY (K:PySem.W.Frag) (S:sW):Sp:=fun vs H Q _=> ∃ ds Q0,aL K H ds vs∧S ds Q0∧∀ d v H',Q0 d→Dat K H' d v→(∀ b o,H b=some o→H' b=some o)→Q v H'
abbrev m9:=List D→Mp→DK→Prop
def nv (K:PySem.W.Frag) (S:m9):Sp:=fun vs H Q _=> ∃ ds M Q0,aL K H ds vs∧cK K H M∧S ds M Q0∧∀ d M' v H',Q0 d M'→Dat K H' d v→cK K H' M'→Fr M H M' H'→Q v H'
theorem qk {K:PySem.W.Frag} {H:Hp} {ds:List D} {vs:List V} (h:aL K H ds vs):aL K H ds (vs ++ []):=by simpa using h
theorem Ext.keep {H H':Hp} (h:∀ b o,H b=some o→H' b=some o):Ext H H':=⟨fun b _ e=>h b _ e,fun b _ _ e=>h b _ e⟩
theorem cK.keep {K:PySem.W.Frag} {H H':Hp} {M:Mp} (r:cK K H M) (h:∀ b o,H b=some o→H' b=some o):cK K H' M:=fun a o e=>(r a o e).mono (Ext.keep h) fun u q=>h _ _ q
variable {k:Nat} {f:Addr} {fd:FuncData} {ps:List Str}
def JG (S:sW) (t:vA):cY:=fun ρ M Q=>t ρ M fun ds M1=>S ds fun d=>Q d M1
def JH (S:m9) (t:vA):cY:=fun ρ M Q=>t ρ M fun ds M1=>S ds M1 Q
theorem aE {S:sW} (F:bP X.prog X.w X.K X.mg X.base dZ k f fd ps (rY X.K S)) (hr:jN k X.A) (hg:Gl X x) (hm:X.mg x=some (.ref f)) (hk:PySem.W.keepIn X.K (.ref f)=true) (hb:Binds X.K fd ps [])
 (ha:AN X (e :: es) t) (hdb:(x == ("__debug__" :Str))=false:=by decide) (he:starEach (e :: es) X.env=(false,eval e X.env) :: starEach es X.env:=by rfl) (hpl:(backTo pos (starEach es X.env)).any (·.1)=false:=by rfl) :
 cE X (.Call (.Name x p) (e :: es) [] pos) (JG S t):=
 up (BY (Dz:=[]) (E:=E0) F hr hg hm hk hb .nil Im ha.dn hdb he hpl) fun σ H ρ M Q r q=>nM r q fun vs H' ds M' f dv r' q=>
  ⟨ds,_,qk dv,q,fun d v H2 q2 d2 kp=>⟨d,M',f.trans fun b o n e=>⟨kp b o e,n⟩,d2,r'.mem.keep kp,q2⟩⟩
theorem bf {S:m9} (F:bP X.prog X.w X.K X.mg X.base dZ k f fd ps (nv X.K S)) (hr:jN k X.A) (hg:Gl X x) (hm:X.mg x=some (.ref f)) (hk:PySem.W.keepIn X.K (.ref f)=true) (hb:Binds X.K fd ps [])
 (ha:AN X (e :: es) t) (hdb:(x == ("__debug__" :Str))=false:=by decide) (he:starEach (e :: es) X.env=(false,eval e X.env) :: starEach es X.env:=by rfl) (hpl:(backTo pos (starEach es X.env)).any (·.1)=false:=by rfl) :
 cE X (.Call (.Name x p) (e :: es) [] pos) (JH S t):=
 up (BY (Dz:=[]) (E:=E0) F hr hg hm hk hb .nil Im ha.dn hdb he hpl) fun σ H ρ M Q r q=>nM r q fun vs H' ds M' f dv r' q=>
  ⟨ds,M',_,qk dv,r'.mem,q,fun d M2 v H2 q2 d2 Ir f2=>⟨d,M2,f.trans f2,d2,Ir,q2⟩⟩
end
section
variable {X:Cx} {st:Stmt} {rest:List Stmt} {t u:oX} {e:Expr} {te:cY} {pos:Pos}
def JI:oX:=fun D ρ M=>D.nx ρ M
def L8 (t u:oX):oX:=fun D ρ M=>t { D with nx:=u D } ρ M
theorem zD.dn {st:Stmt} {t:oX} (h:zD X st t):PS X st (NG X.K t):=fun pins s σ H D' I ⟨ρ,M,D,r,q,k1,k2,k3,k4⟩=>
 dD (h.run pins s σ H ρ M D I r q) fun f s' z=>by
  cases f with
  | next=>obtain ⟨σ',H',I',p⟩:=z;exact ⟨σ',H',I',k1 _ _ p⟩
  | brk=>obtain ⟨σ',H',I',p⟩:=z;exact ⟨σ',H',I',k3 _ _ p⟩
  | cont=>obtain ⟨σ',H',I',p⟩:=z;exact ⟨σ',H',I',k4 _ _ p⟩
  | ret u=>obtain ⟨v,σ',H',I',rv,p⟩:=z;exact ⟨v,σ',H',I',rv,k2 _ _ p⟩
theorem JJ {sts:List Stmt} {te:TS} {t:oX} (h:AG X sts te) (g:∀ σ H ρ M D,Rep X.K H σ ρ M→t D ρ M→te (ends X.K M H D) σ H):nL X sts t:=
 ⟨fun pins s σ H ρ M D I r q=>h pins s σ H _ I (g σ H ρ M D r q)⟩
theorem ql {K:PySem.W.Frag} {M0:Mp} {H0:Hp} {σ:St} {H:Hp} {ρ:En} {M:Mp} {D:Iq} {t:oX} (f:Fr M0 H0 M H) (r:Rep K H σ ρ M) (q:t D ρ M):NG K t (ends K M0 H0 D) σ H:=
 ⟨ρ,M,D,r,q,fun _ _ p=>p.back f,fun _ _ p=>p.back f,fun _ _ p=>p.back f,fun _ _ p=>p.back f⟩
theorem aN:nL X [] JI:=JJ Gg fun σ H ρ M D r q=>⟨ρ,M,.refl _ _,r,q⟩
theorem ao (h1:zD X st t) (h2:nL X rest u):nL X (st :: rest) (L8 t u):=JJ (DJ h1.dn h2.dn) fun σ H ρ M D r q=>
 ⟨ρ,M,_,r,q,fun σ' H' ⟨ρ',M',f,r',q'⟩=>ql f r' q',fun _ _ p=>p,fun _ _ p=>p,fun _ _ p=>p⟩
theorem ay (h1:zD X st t):nL X [st] t:=JJ (Gh h1.dn) fun σ H ρ M D r q=>ql (.refl _ _) r q
def JK (te:cY):oX:=fun D ρ M=>te ρ M fun _ M1=>D.nx ρ M1
theorem pT (he:cE X e te) (hs:swapsWith e none pos.line X.env=pure false:=by rfl):zD X (.Expr e pos) (JK te):=GC (Gi he.dn hs) fun σ H ρ M D r q=>dF r q fun v H' d M' f dv r' q=>⟨ρ,M',f,r',q⟩
def Mb (te:cY):oX:=fun D ρ M=>te ρ M D.rt
theorem aC (he:cE X e te):zD X (.Return (some e) pos) (Mb te):=GC (Jd he.dn) fun σ H ρ M D r q=>⟨ρ,M,_,r,q,fun _ _ p=>p⟩
def Mc (c:pH) (t u:oX):oX:=fun D ρ M=>c ρ M fun b M1=>if b=true then t D ρ M1 else u D ρ M1
theorem aZ {c:Expr} {a b:List Stmt} {tc:pH} (hc:Av X c tc) (ha:nL X a t) (hb:nL X b u):zD X (.If c a b pos) (Mc tc t u):=GC (Lo hc.dn ha.dn hb.dn) fun σ H ρ M D r q=>qT r q fun k H' M' f r' q=>by
 cases k with
 | true=>exact ql f r' q
 | false=>exact ql f r' q
def GH:oX:=fun _ _ _=>False
theorem GI:zD X st GH:=⟨fun _ _ _ _ _ _ _ _ _ h=>h.elim⟩
def Iu (i:Nat) (te:cY):oX:=fun D ρ M=>te ρ M fun x M1=>D.nx (ρ.set i (some x)) M1
theorem aM {i:Nat} {x:Str} {pos':Pos} (hN:X.N.Nodup) (hi:X.N[i]?=some x) (hx:Loc X.env.scope x) (he:cE X e te) (hs:swapsWith e (some (.Name x pos')) pos.line X.env=pure false:=by rfl) (hf:X.fn x=true∨X.env.scope.names.lookup x=some .local:=by first | exact .inl rfl | exact .inr rfl | assumption) :
 zD X (.Assign [.Name x pos'] e pos) (Iu i te):=GC (Je hN hi hx he.dn hs hf) fun σ H ρ M D r q=>dF r q fun v H' d M' f dv r' q=>⟨ρ.set i (some d),M',f,r'.set dv,q⟩
abbrev Aw:=D→En→Mp→(En→Mp→Prop)→Prop
abbrev AR:=List D→En→Mp→(En→Mp→Prop)→Prop
structure GJ (X:Cx) (target:Expr) (t:Aw):Prop where
 run:∀ (pins:List (Addr ×Obj)) (s:Shared) (σ:St) (H:Hp) (ρ:En) (M:Mp) (v:V) (d:D) (u:Value) (Q:En→Mp→Prop),Inv X pins σ H s→Rep X.K H σ ρ M→RelV v u→Dat X.K H d v→t d ρ M Q→
  wpAny (model X.prog X.w) X.A (assign target X.env u) (fun _ s'=> ∃ σ' H',Inv X pins σ' H' s'∧kJ X.K M H Q σ' H') X.xe s
structure GK (X:Cx) (ts:List Expr) (t:AR):Prop where
 run:∀ (pins:List (Addr ×Obj)) (s:Shared) (σ:St) (H:Hp) (ρ:En) (M:Mp) (vs:List V) (ds:List D) (us:List Value) (Q:En→Mp→Prop),Inv X pins σ H s→Rep X.K H σ ρ M→Vals vs us→aL X.K H ds vs→t ds ρ M Q→
  wpAny (model X.prog X.w) X.A (assignInOrder ((assignEach ts X.env).map (·.2)) us) (fun _ s'=> ∃ σ' H',Inv X pins σ' H' s'∧kJ X.K M H Q σ' H') X.xe s
def JL (i:Nat):Aw:=fun d ρ M Q=>Q (ρ.set i (some d)) M
theorem bg {i:Nat} {x:Str} (hN:X.N.Nodup) (hi:X.N[i]?=some x) (hx:Loc X.env.scope x) (hf:X.fn x=true∨X.env.scope.names.lookup x=some .local:=by first | exact .inl rfl | exact .inr rfl | assumption):GJ X (.Name x pos) (JL i):=
 ⟨fun pins s σ H ρ M v d u Q I r rv dv q=>Gj hN hi hx hf pins s σ H v u _ I rv ⟨ρ.set i (some d),M,.refl _ _,r.set dv,q⟩⟩
def Me:AR:=fun ds ρ M Q=>ds= []∧Q ρ M
def JM (t:Aw) (u:AR):AR:=fun ds ρ M Q=> ∃ d r,ds=d :: r∧t d ρ M fun ρ' M'=>u r ρ' M' Q
theorem AS:GK X [] Me:=by
 constructor
 intro pins s σ H ρ M vs ds us Q I r rv dv ⟨e1,q⟩
 subst e1
 rw [aS.mp dv] at rv
 cases rv
 exact assignInOrder_nil ⟨σ,H,I,ρ,M,.refl _ _,r,q⟩
theorem iH {e:Expr} {es:List Expr} {t:Aw} {u:AR} (h1:GJ X e t) (h2:GK X es u)
 (hs:(assignEach (e :: es) X.env).map (·.2)=assign e X.env :: (assignEach es X.env).map (·.2):=by rfl):GK X (e :: es) (JM t u):=by
 constructor
 intro pins s σ H ρ M vs ds us Q I r rv dv ⟨d,dr,e1,q⟩
 subst e1
 obtain ⟨v,vr,rfl,d1,d2⟩:=aP.mp dv
 cases rv with
 | cons rv rr=>
   rw [hs]
   refine assignInOrder_cons (dD (h1.run pins s σ H ρ M v d _ _ I r rv d1 q) fun _ s1 ⟨σ1,H1,I1,ρ1,M1,f1,r1,q1⟩=>?_)
   exact dD (h2.run pins s1 σ1 H1 ρ1 M1 vr dr _ Q I1 r1 rr (aL.mono (f1.ext r.mem) _ _ d2) q1) fun _ s2 ⟨σ2,H2,I2,p⟩=>⟨σ2,H2,I2,p.back f1⟩
def Mf (n:Nat) (t:AR):Aw:=fun d ρ M Q=> ∃ xs,LX M d xs∧xs.length=n∧t xs ρ M Q
theorem CV {prog:Program} {w:World} {A:Around} {E:Value→Shared→Prop} {it l:Addr} {items:Array Value}:∀ (n i:Nat) (s:Shared) (Q:List Value→Shared→Prop),s.heap.IsListIter it l i→it≠l→s.heap.IsList l items→i+n≤items.size→
 (∀ h',h'.IsListIter it l (i+n)→Heap.SameBut it s.heap h'→Q ((items.toList.drop i).take n) { s with heap:=h' })→wpAny (model prog w) A (draw (.ref it) n) Q E s:=by
 intro n
 induction n with
 | zero=>
   intro i s Q hit _ hl hi hQ
   have:=hQ s.heap hit (.refl ..)
   rw [List.take_zero] at this
   exact wpAny_pure this
 | succ n ih=>
   intro i s Q hit hne hl hi hQ
   have hlt:i < items.size:=by omega
   show wpAny _ _ (pyNext (.ref it) >>= _) Q E s
   refine wpAny_bind (wpAny_pyNext_list_item hit hl (x:=items[i]) (by simp [hlt]) fun h₁ JN hs₁=>?_)
   refine wpAny_bind (wpAny_holding (ih (i+1) _ _ JN hne (hl.at fun o e=>hs₁.extBut _ o (Ne.symm hne) e) (by omega) fun h₂ OX hs₂=>wpAny_pure ?_))
   have hd:items.toList.drop i=items[i] :: items.toList.drop (i+1):=by simp [List.drop_eq_getElem_cons,hlt]
   have:=hQ h₂ (by rw [show i+(n+1)=i+1+n by omega];exact OX) (hs₁.trans hs₂)
   rw [hd,List.take_succ_cons] at this
   exact this
theorem qV {prog:Program} {w:World} {A:Around} {E:Value→Shared→Prop} {s:Shared} {t:Addr} {items:Array Value} {Q:List Value→Shared→Prop} (hh:A.handled=none) (ht:s.heap.IsList t items)
 (hQ:∀ h',Heap.ExtBut s.heap.objs.size s.heap h'→Q items.toList { s with heap:=h' }):wpAny (model prog w) A (unpackItems (.ref t) items.size none) Q E s:=by
 have hlt:t≠s.heap.objs.size:=by obtain ⟨o,ho,_⟩:=ht;exact Nat.ne_of_lt (Heap.lt_size ho)
 unfold unpackItems
 refine wpAny_bind ?_
 ·unfold notIterableAtAll
  refine wpAny_bind (wpAny_specialOf ht.typeIs slot_list_iter.lookup ?_)
  refine wpAny_pure ?_
  simp only [Bool.false_eq_true,if_false]
  refine wpAny_bind (wpAny_holding (wpAny_pyIter_list ht ?_))
  have ht0:(s.heap.push { cls:= .type "list_iterator",data:= .fields #[.ref t,rawInt 0] }).IsList t items:=by
   obtain ⟨o,ho,c,n,d⟩:=id ht
   exact ⟨o,Heap.get?_push_of_some _ ho,c,n,d⟩
  refine wpAny_bind (wpAny_holding (CV items.size 0 _ _ ⟨_,Heap.get?_push_size _ rfl,rfl,rfl⟩ (Ne.symm hlt) ht0 (by omega) fun h₁ JN hs₁=>?_))
  have hall:List.take items.size (List.drop 0 items.toList)=items.toList:=by
   rw [List.drop_zero];exact List.take_of_length_le (by simp)
  rw [hall]
  rw [if_neg (by simp)]
  have ht₁:h₁.IsList t items:=ht0.at fun o e=>hs₁.extBut _ o hlt e
  refine wpAny_bind (wpAny_holding (wpAny_pyNext_list_end hh JN ht₁ (by simp) fun h₂ Rt=>?_))
  simp only [Option.isSome_none,Bool.false_eq_true,if_false]
  refine wpAny_pure (hQ h₂ fun b o hb e=>Rt b o hb (hs₁.extBut b o hb (Heap.get?_push_of_some _ e)))
theorem Ec {es:List Expr} {k:Nat} {t:AR} {n:Nat} (hc:X.calm=true) (h:GK X es t)
 (hn:(assignEach es X.env).length=n:=by rfl) (hst:(assignEach es X.env).findIdx? (·.1)=none:=by rfl):GJ X (.Tuple es k pos) (Mf n t):=by
 constructor
 intro pins s σ H ρ M v d u Q I r rv dv ⟨xs,hq,hl,q⟩
 rcases hq with rfl | ⟨a,rfl,hM⟩
 ·obtain ⟨a,ys,rfl,ha,hy⟩:=bB.mp dv
  obtain rfl:u=Value.ref a:=rv
  obtain ⟨its,Mg,ht,hz⟩:=I.tuple (vz.of ha)
  refine assign_Tuple_tuple (I.ok.hd hc) ht (by simp [hn,← hl,hy.length,Mg.length]) hst fun h' hx=>?_
  have I1:Inv X pins σ H { s with heap:=h' }:=I.kept (t':=s.toks) fun b o e=>hx b o (Nat.ne_of_lt (Heap.lt_size e)) e
  exact h.run pins _ σ H ρ M ys xs _ Q I1 r (by simpa using Mg) hy q
 ·obtain rfl:=aO.mp dv
  obtain rfl:u=Value.ref a:=rv
  obtain ⟨ys,ha,hy⟩:=r.mem.lst hM
  obtain ⟨its,Mg,ht,hz⟩:=I.list (gO.of ha)
  rw [assign_Tuple]
  refine wpAny_bind (wpAny_standAt ?_)
  unfold unpack
  have hsz:(assignEach es X.env).length=its.toArray.size:=by simp [hn,← hl,hy.length,Mg.length]
  rw [hsz,hst]
  refine wpAny_bind (wpAny_holding (qV (I.ok.hd hc) ht.isList fun h' hx=>?_))
  have I1:Inv X pins σ H { s with heap:=h' }:=I.kept (t':=s.toks) fun b o e=>hx b o (Nat.ne_of_lt (Heap.lt_size e)) e
  exact h.run pins _ σ H ρ M ys xs _ Q I1 r (by simpa using Mg) hy q
def Mh (te:cY) (g:Aw):oX:=fun D ρ M=>te ρ M fun x M1=>g x ρ M1 D.nx
theorem Iv {tg e:Expr} {g:Aw} (he:cE X e te) (hg:GJ X tg g) (hs:swapsWithSole [tg] e pos.line X.env=pure false:=by rfl) (hw:swappedStores [tg] e X.env=pure none:=by rfl)
 (h1:(assignEach [tg] X.env).map (·.2)= [assign tg X.env]:=by rfl):zD X (.Assign [tg] e pos) (Mh te g):=by
 constructor
 intro pins s σ H ρ M D I r h
 refine wpAny_Assign_stores (dD (he.run pins s σ H ρ M _ I r h) fun v s1 ⟨x,H1,I1,r1,d,M1,f1,d1,oY,q1⟩=>?_) hs hw
 rw [h1]
 exact dD (hg.run pins s1 σ H1 ρ M1 x d v _ I1 (r.go f1 oY) r1 d1 q1) fun _ s2 ⟨σ2,H2,I2,p⟩=>⟨σ2,H2,I2,p.back f1⟩
def Mi (i j:Nat) (ta:vA):oX:=fun D ρ M=>ta ρ M fun vs M1=> ∃ v w,vs= [v,w]∧D.nx ((ρ.set i (some v)).set j (some w)) M1
theorem Mj {i j:Nat} {x y:Str} {a b:Expr} {ta:vA} {px py pt:Pos} {kt k2 wJ} (hc:X.calm=true) (hN:X.N.Nodup) (hi:X.N[i]?=some x) (hj:X.N[j]?=some y) (hij:i≠j)
 (hx:X.env.scope.names.lookup x=some .local) (hy:X.env.scope.names.lookup y=some .local) (ha:AN X [a,b] ta)
 (hw:swappedStores [.Tuple [.Name x px,.Name y py] kt pt] (.Tuple [a,b] k2 wJ) X.env=pure (some [x,y]):=by rfl)
 (hs:swapsWithSole [.Tuple [.Name x px,.Name y py] kt pt] (.Tuple [a,b] k2 wJ) pos.line X.env=pure false:=by rfl) :
 zD X (.Assign [.Tuple [.Name x px,.Name y py] kt pt] (.Tuple [a,b] k2 wJ) pos) (Mi i j ta):=GC (Jf hc hN hi hj hij hx hy ha.dn hw hs) fun σ H ρ M D r q=>nM r q fun vs H' ds M' f dv r' ⟨d1,d2,e1,q⟩=>by
 subst e1
 obtain ⟨v,w,rfl,h1,h2⟩:=tK dv
 exact ⟨v,w,rfl,_,M',f,(r'.set h1).set h2,q⟩
variable {o:Expr} {to:cY} {es:List Expr} {t3:vA} {apos:Pos}
@[irreducible] def aI (p:Prop):Prop:=p
theorem aI.mk {p:Prop} (h:p):aI p:=by unfold aI;exact h
theorem aI.out {p:Prop} (h:aI p):p:=by unfold aI at h;exact h
def GL (c:pH) (tb:oX):oX:=fun D ρ M=> ∃ W:Nat→En→Mp→Prop,(∃ m,W m ρ M)∧∀ m ρ M,W m ρ M→
 c ρ M fun b M1=>if b=true then tb { D with nx:=fun ρ' M'=>aI (∃ m',m' < m∧W m' ρ' M'),ct:=fun ρ' M'=>aI (∃ m',m' < m∧W m' ρ' M'),bk:=D.nx } ρ M1 else D.nx ρ M1
theorem GN {c:Expr} {body:List Stmt} {tc:pH} {tb:oX} (hp:PassesOwn (model X.prog X.w) X.A X.env X.xe) (hc:Av X c tc) (hb:nL X body tb):zD X (.While c body [] pos) (GL tc tb):=GC (DL hp hc.dn hb.dn) fun σ H ρ M D r ⟨W,⟨m0,w0⟩,turn⟩=>by
 refine ⟨fun m σ' H'=> ∃ ρ' M',Fr M H M' H'∧Rep X.K H' σ' ρ' M'∧W m ρ' M',⟨m0,ρ,M,.refl _ _,r,w0⟩,?_⟩
 rintro m σ1 H1 ⟨ρ1,M1,f1,r1,w1⟩
 refine qT r1 (turn m ρ1 M1 w1) fun k H2 M2 f2 r2 q=>?_
 cases k with
 | true=>
   refine ⟨fun σ' H'=> ∃ m',m' < m∧∃ ρ' M',Fr M H M' H'∧Rep X.K H' σ' ρ' M'∧W m' ρ' M',fun σ' H' z=>z,?_⟩
   have GO:=f1.trans f2
   refine ⟨ρ1,M2,_,r2,q,fun σ' H' ⟨ρ',M',f,r',z⟩=>let ⟨m',hm,w'⟩:=z.out;⟨m',hm,ρ',M',GO.trans f,r',w'⟩,fun _ _ p=>p.back GO,fun _ _ p=>p.back GO,fun σ' H' ⟨ρ',M',f,r',z⟩=>let ⟨m',hm,w'⟩:=z.out;⟨m',hm,ρ',M',GO.trans f,r',w'⟩⟩
 | false=>exact ⟨ρ1,M2,f1.trans f2,r2,q⟩
def runFor (gd:Mp→Prop) (g:Aw) (tb:oX) (D:Iq):List L3.D→En→Mp→Prop
 | [],ρ,M=>gd M∧D.nx ρ M
 | x :: xs,ρ,M=>gd M∧g x ρ M fun ρ2 M2=>tb { D with nx:=runFor gd g tb D xs,ct:=runFor gd g tb D xs,bk:=D.nx } ρ2 M2
structure AU (K:PySem.W.Frag) (J:It) (inv:Hp→Prop) (ds:List L3.D):Prop where
 go:∀ i H,i < ds.length→inv H→J.go i H
 FT:∀ i H x H',i < ds.length→inv H→J.FT i H x H'→H'=H∧∃ d,ds[i]?=some d∧Dat K H d x
 stop:∀ H,inv H→J.stop ds.length H
theorem GJ.dn {tg:Expr} {g:Aw} (h:GJ X tg g):PG X tg (fun v σ H Q=> ∃ ρ M d Q0,Rep X.K H σ ρ M∧Dat X.K H d v∧g d ρ M Q0∧∀ σ' H',kJ X.K M H Q0 σ' H'→Q σ' H'):=
 fun pins s σ H v u Q I rv ⟨ρ,M,d,Q0,r,dv,q,k⟩=>dD (h.run pins s σ H ρ M v d u Q0 I r rv dv q) fun _ _ ⟨σ',H',I',p⟩=>⟨σ',H',I',k _ _ p⟩
theorem tL {K:PySem.W.Frag} {J:It} {inv:Hp→Prop} {ds:List L3.D} {gd:Mp→Prop} {g:Aw} {tb:oX} {D:Iq} {σ:St} {H H0:Hp} {ρ:En} {M M0:Mp} (hJ:AU K J inv ds)
 (f0:Fr M0 H0 M H) (r:Rep K H σ ρ M)
 (stay:∀ M1 H1,Fr M H M1 H1→cK K H1 M1→gd M1→inv H1) (q:runFor gd g tb D ds ρ M) :
 ∃ W:Nat→Nat→St→Hp→Prop,(∃ m,W 0 m σ H)∧∀ i m σ H,W i m σ H→
   (J.stop i H∧(ends K M0 H0 D).nx σ H)∨(J.go i H∧∃ N:St→Hp→Prop,(∀ σ' H',N σ' H'→∃ m',m' < m∧W (i+1) m' σ' H')∧∀ x H',J.FT i H x H'→
     (∃ ρ M d Q0,Rep K H' σ ρ M∧Dat K H' d x∧g d ρ M Q0∧∀ σ2 H2,kJ K M H' Q0 σ2 H2→NG K tb { (ends K M0 H0 D) with nx:=N,ct:=N,bk:=(ends K M0 H0 D).nx } σ2 H2)):=by
 refine ⟨fun i m σ1 H1=>m=ds.length - i∧i≤ds.length∧∃ ρ1 M1,Fr M H M1 H1∧Rep K H1 σ1 ρ1 M1∧runFor gd g tb D (ds.drop i) ρ1 M1,⟨ds.length,by simp,Nat.zero_le _,ρ,M,.refl _ _,r,by simpa using q⟩,?_⟩
 rintro i m σ1 H1 ⟨rfl,hi,ρ1,M1,f1,r1,q1⟩
 by_cases hlt:i < ds.length
 ·have hdr:ds.drop i=ds[i] :: ds.drop (i+1):=List.drop_eq_getElem_cons hlt
  rw [hdr] at q1
  obtain ⟨hg,q1⟩:=q1
  have Qx:=stay M1 H1 f1 r1.mem hg
  refine .inr ⟨hJ.go i H1 hlt Qx,fun σ' H'=> ∃ ρ' M',Fr M H M' H'∧Rep K H' σ' ρ' M'∧runFor gd g tb D (ds.drop (i+1)) ρ' M',fun σ' H' ⟨ρ',M',f',r',q'⟩=>⟨ds.length - (i+1),by omega,rfl,hlt,ρ',M',f',r',q'⟩,fun x H' y=>?_⟩
  obtain ⟨e,d,hd1,hd2⟩:=hJ.FT i H1 x H' hlt Qx y
  subst e
  have ed:d=ds[i]:=Option.some.inj (hd1.symm.trans (List.getElem?_eq_getElem hlt))
  subst ed
  refine ⟨ρ1,M1,_,_,r1,hd2,q1,fun σ2 H2 ⟨ρ2,M2,f2,r2,q2⟩=>?_⟩
  have GO:=f1.trans f2
  have Qy:=f0.trans GO
  exact ⟨ρ2,M2,_,r2,q2,fun σ' H' ⟨ρ',M',f,r',z⟩=>⟨ρ',M',GO.trans f,r',z⟩,fun _ _ p=>p.back Qy,fun _ _ p=>p.back Qy,fun σ' H' ⟨ρ',M',f,r',z⟩=>⟨ρ',M',GO.trans f,r',z⟩⟩
 ·have e:i=ds.length:=by omega
  subst e
  rw [List.drop_of_length_le (Nat.le_refl _)] at q1
  obtain ⟨hg,q1⟩:=q1
  exact .inl ⟨hJ.stop H1 (stay M1 H1 f1 r1.mem hg),ρ1,M1,f0.trans f1,r1,q1⟩
def Ml (te:cY) (g:Aw) (tb:oX):oX:=fun D ρ M=>te ρ M fun d M1=> ∃ xs,d= .tup xs∧runFor (fun _=>True) g tb D xs ρ M1
def Mm (te:cY) (g:Aw) (tb:oX):oX:=fun D ρ M=>te ρ M fun d M1=> ∃ a xs,d= .ref a∧M1 a=some (.lst xs)∧runFor (fun M=>M a=some (.lst xs)) g tb D xs ρ M1
def Mn (t:vA) (g:Aw) (tb:oX):oX:=fun D ρ M=>t ρ M fun vs M1=> ∃ j:Int,vs= [.int j]∧ -(2 ^ 62)≤j∧j < 2 ^ 62∧runFor (fun _=>True) g tb D ((List.range j.toNat).map fun (k:Nat)=>L3.D.int (k:Int)) ρ M1
variable {tg iter:Expr} {body:List Stmt} {g:Aw} {tb:oX}
theorem Ed {K:PySem.W.Frag} {a:Addr} {ds:List L3.D}:AU K (Of K a) (fun H=> ∃ vs,H a=some (.tup vs)∧aL K H ds vs) ds:=
 ⟨fun i H hi ⟨vs,h,hd⟩=>⟨vs,vs[i]'(by rw [← hd.length];exact hi),vz.of h,List.getElem?_eq_getElem _⟩,fun i H x H' _ ⟨vs,h,hd⟩ y=>⟨y.1,hd.back (y.2 vs (vz.of h))⟩,fun H ⟨vs,h,hd⟩=>⟨vs,vz.of h,by rw [hd.length];exact Nat.le_refl _⟩⟩
theorem AV {K:PySem.W.Frag} {a:Addr} {ds:List L3.D}:AU K (Oe K a) (fun H=> ∃ vs,H a=some (.lst vs)∧aL K H ds vs) ds:=
 ⟨fun i H hi ⟨vs,h,hd⟩=>⟨vs,vs[i]'(by rw [← hd.length];exact hi),gO.of h,List.getElem?_eq_getElem _⟩,fun i H x H' _ ⟨vs,h,hd⟩ y=>⟨y.1,hd.back (y.2 vs (gO.of h))⟩,fun H ⟨vs,h,hd⟩=>⟨vs,gO.of h,by rw [hd.length];exact Nat.le_refl _⟩⟩
theorem Ef {K:PySem.W.Frag} {n:Nat}:AU K (ND 0 n) (fun _=>True) ((List.range n).map fun (k:Nat)=>L3.D.int (k:Int)):=
 ⟨fun i H hi _=>by show i < n;simpa using hi,fun i H x H' hi _ y=>⟨y.1,L3.D.int (i:Int),by
  have hi:i < n:=by simpa using hi
  simp [hi],aU.mpr (by rw [y.2,Int.zero_add])⟩,fun H _=>by show n≤_;simp⟩
theorem JO (hp:PassesOwn (model X.prog X.w) X.A X.env X.xe) (hc:X.calm=true) (hi:cE X iter te) (hg:GJ X tg g) (hb:nL X body tb)
 (hs:∀ x,foldedSetIterable iter X.env x=pure x:=by intro _;rfl):zD X (.For tg iter body [] pos) (Ml te g tb):=GC (AJ hp hc (DN hi.dn) hg.dn hb.dn hs) fun σ H ρ M D r q=>dF r q fun v H' d M' f dv r' ⟨xs,e1,q⟩=>by
 subst e1
 obtain ⟨a,ys,rfl,ha,hy⟩:=bB.mp dv
 refine ⟨a,rfl,⟨ys,vz.of ha⟩,tL Ed f r' (fun M1 H1 f1 _ _=>⟨ys,?_,aL.mono (f1.ext r'.mem) _ _ hy⟩) q⟩
 exact (f1 a _ (r'.mem.x6 ha (fun _ z=>by cases z)) ha).1
theorem eS (hp:PassesOwn (model X.prog X.w) X.A X.env X.xe) (hc:X.calm=true) (hi:cE X iter te) (hg:GJ X tg g) (hb:nL X body tb)
 (hs:∀ x,foldedSetIterable iter X.env x=pure x:=by intro _;rfl):zD X (.For tg iter body [] pos) (Mm te g tb):=GC (AJ hp hc (xV hi.dn) hg.dn hb.dn hs) fun σ H ρ M D r q=>dF r q fun v H' d M' f dv r' ⟨a,xs,e1,hM,q⟩=>by
 subst e1
 obtain rfl:=aO.mp dv
 obtain ⟨ys,ha,hy⟩:=r'.mem.lst hM
 exact ⟨a,rfl,⟨ys,gO.of ha⟩,tL AV f r' (fun M1 H1 f1 oY g1=>oY.lst g1) q⟩
theorem iV {a:Expr} {t:vA} {p rpos:Pos} (hp:PassesOwn (model X.prog X.w) X.A X.env X.xe) (hc:X.calm=true) (JP:Gl X "range") (hm:X.mg "range" =none) (ha:AN X [a] t) (hg:GJ X tg g) (hb:nL X body tb)
 (hst:starEach [a] X.env= [(false,eval a X.env)]:=by rfl)
 (hs:∀ x,foldedSetIterable (.Call (.Name "range" p) [a] [] rpos) X.env x=pure x:=by intro _;rfl):zD X (.For tg (.Call (.Name "range" p) [a] [] rpos) body [] pos) (Mn t g tb):=GC (AJ hp hc (wK JP hm ha.dn hst) hg.dn hb.dn hs) fun σ H ρ M D r q=>nM r q fun vs H' ds M' f dv r' ⟨j,e1,h1,h2,q⟩=>by
 subst e1
 obtain ⟨v,rfl,hv⟩:=jx dv
 obtain rfl:=aU.mp hv
 exact ⟨j,rfl,h1,h2,tL Ef f r' (fun _ _ _ _ _=>trivial) q⟩
def Mq (to te:cY):cY:=fun ρ M Q=>to ρ M fun d M1=>(∃ l xs,d= .ref l∧M1 l=some (.lst xs))∧te ρ M1 fun e M2=> ∃ l xs,d= .ref l∧M2 l=some (.lst xs)∧xs.length < sizeLine∧Q .bK (aA M2 l (.lst (xs ++ [e])))
theorem Eg {o e:Expr} {to te:cY} {apos:Pos} (ho:cE X o to) (he:cE X e te) (GP:PE X (.Call (.Attribute o "append" apos) [e] [] pos) (LK X.K "list" B5 (dn X.K to) (zq (dn X.K te) DQ))):cE X (.Call (.Attribute o "append" apos) [e] [] pos) (Mq to te):=
 up GP fun σ H ρ M Q r q=>dF r q fun v H' d M' f dv r' ⟨⟨l,xs,e1,hM⟩,q⟩=>by
  subst e1
  obtain rfl:=aO.mp dv
  obtain ⟨ys,ha,hy⟩:=r'.mem.lst hM
  refine ⟨.inl ⟨rfl,_,gO.of ha⟩,dF r' q fun u H2 d2 M2 f2 du r2 ⟨l',xs',e2,AW,hlt,q2⟩=>?_⟩
  injection e2 with e2
  subst e2
  obtain ⟨zs,hb,hz⟩:=r2.mem.lst AW
  refine ⟨l,zs,u,rfl,rfl,hb,by rw [← hz.length];exact hlt,.bK,_,(f.trans f2).trans (Fr.write (K:=X.K) AW),cF.mpr rfl,r2.mem.jP hb (hz.append (aL.one du)),q2⟩
end
section
variable {P:Program} {w:World} {K:PySem.W.Frag} {mg:Str→Option Value} {base:Heap}
def pU (N:List Str) (ds:List D):En:=ds.map some ++ List.replicate (N.length - ds.length) none
theorem wV {H:Hp} {N:List Str} {ds:List D} {vs:List V} {M:Mp} (h:aL K H ds vs) (rm:cK K H M):Rep K H (L2.start N vs) (pU N ds) M:=by
 have hl:=h.length
 refine ⟨fun i d e=>?_,by unfold L2.start pU;simp [hl],rm⟩
 unfold pU at e
 by_cases hi:i < ds.length
 ·rw [List.getElem?_append_left (by simpa using hi),List.getElem?_map] at e
  cases q:ds[i]? with
  | none=>rw [q] at e;cases e
  | some d'=>
    rw [q] at e
    cases e
    obtain ⟨v,h1,h2⟩:=h.get q
    refine ⟨v,?_,h2⟩
    unfold L2.start
    rw [List.getElem?_append_left (by simp;omega),List.getElem?_map,h1]
    rfl
 ·rw [List.getElem?_append_right (by simpa using hi),List.getElem?_replicate] at e
  split at e <;> cases e
theorem wW {x qual:Str} {st:Stmt} {f:Addr} {fd:FuncData} {N ps:List Str} {k:Nat} {S:sW} (F:gq K x qual st f fd) (Sc:aH N ps (au st)) (len:∀ ds Q,S ds Q→ds.length=ps.length)
 (hbody:∀ (cdv:Value) (A:Around) (outer:List Env) (s:Shared) (H:Hp),jN k (A.deeper (envOfC qual (au st) s.heap.objs.size f cdv))→
  ∃ t,nL (rW dZ P w K mg base N qual (au st) f cdv A outer s H E0).FQ (iG st) t∧∀ ds Q,S ds Q→t { nx:=fun _ _=>Q .bK,rt:=fun d _=>Q d } (pU N ds) LN) :
 bP P w K mg base dZ (k+1) f fd ps (rY K S):=by
 refine F.ok Sc (fun vs H Q E h=>?_) (fun cdv A outer s H vs Q E hr h=>?_)
 ·obtain ⟨ds,Q0,h1,h2,_⟩:=h
  rw [← h1.length,len ds Q0 h2]
 ·obtain ⟨ds,Q0,h1,h2,h3⟩:=h
  obtain ⟨t,ht,hq⟩:=hbody cdv A outer s H hr
  have hE:(rW dZ P w K mg base N qual (au st) f cdv A outer s H E).FQ=(rW dZ P w K mg base N qual (au st) f cdv A outer s H E0).FQ:=rfl
  refine ⟨_,nL.dn (by rw [hE];exact ht),pU N ds,LN,_,wV h1 cK.no,hq ds Q0 h2,fun σ' H' ⟨ρ',M',f',r',q⟩=>?_,fun v H' ⟨d,M',f',dv,rm,q⟩=>?_,fun _ _ ⟨_,_,_,_,z⟩=>z.elim,fun _ _ ⟨_,_,_,_,z⟩=>z.elim⟩
  ·exact h3 .bK .bK H' q (cF.mpr rfl) fun b o e=>(f' b o rfl e).1
  ·exact h3 d v H' q dv fun b o e=>(f' b o rfl e).1
theorem pJ {x qual:Str} {st:Stmt} {f:Addr} {fd:FuncData} {N ps:List Str} {k:Nat} {S:m9} (F:gq K x qual st f fd) (Sc:aH N ps (au st)) (len:∀ ds M Q,S ds M Q→ds.length=ps.length)
 (hbody:∀ (cdv:Value) (A:Around) (outer:List Env) (s:Shared) (H:Hp),jN k (A.deeper (envOfC qual (au st) s.heap.objs.size f cdv))→
  ∃ t,nL (rW dZ P w K mg base N qual (au st) f cdv A outer s H E0).FQ (iG st) t∧∀ ds M Q,S ds M Q→t { nx:=fun _ M'=>aI (∃ M0,Le M0 M'∧Q .bK M0),rt:=fun d M'=>aI (∃ M0,Le M0 M'∧Q d M0) } (pU N ds) M) :
 bP P w K mg base dZ (k+1) f fd ps (nv K S):=by
 refine F.ok Sc (fun vs H Q E h=>?_) (fun cdv A outer s H vs Q E hr h=>?_)
 ·obtain ⟨ds,M,Q0,h1,_,h2,_⟩:=h
  rw [← h1.length,len ds M Q0 h2]
 ·obtain ⟨ds,M,Q0,h1,rm,h2,h3⟩:=h
  obtain ⟨t,ht,hq⟩:=hbody cdv A outer s H hr
  have hE:(rW dZ P w K mg base N qual (au st) f cdv A outer s H E).FQ=(rW dZ P w K mg base N qual (au st) f cdv A outer s H E0).FQ:=rfl
  refine ⟨_,nL.dn (by rw [hE];exact ht),pU N ds,M,_,wV h1 rm,hq ds M Q0 h2,fun σ' H' ⟨ρ',M',f',r',z⟩=>?_,fun v H' ⟨d,M',f',dv,Ru,z⟩=>?_,fun _ _ ⟨_,_,_,_,z⟩=>z.elim,fun _ _ ⟨_,_,_,_,z⟩=>z.elim⟩
  ·obtain ⟨M0,l,q⟩:=z.out
   exact h3 .bK M0 .bK H' q (cF.mpr rfl) (r'.mem.le l) (f'.le l)
  ·obtain ⟨M0,l,q⟩:=z.out
   exact h3 d M0 v H' q dv (Ru.le l) (f'.le l)
end
end L3
namespace L3
open PySem PySem.Spec PyProof.Rows L2
section
variable {X:Cx}
def intsOf:List D→Option (List Int)
 | []=>some []
 | .int i :: ds=>(intsOf ds).map (i :: ·)
 | _ :: _=>none
theorem pV:∀ {ds:List D} {ns:List Int},intsOf ds=some ns→ds=ns.map D.int
 | [],ns,h=>by cases h;rfl
 | .int i :: ds,ns,h=>by
   have h:(intsOf ds).map (i :: ·)=some ns:=h
   cases q:intsOf ds with
   | none=>rw [q] at h;cases h
   | some ms=>
     rw [q] at h
     have h:i :: ms=ns:=Option.some.inj h
     subst h
     rw [pV q];rfl
 | .bK :: _,ns,h=>by cases h
 | .bl _ :: _,ns,h=>by cases h
 | .str _ :: _,ns,h=>by cases h
 | .ty _ :: _,ns,h=>by cases h
 | .ref _ :: _,ns,h=>by cases h
 | .tup _ :: _,ns,h=>by cases h
 | .tF _ :: _,ns,h=>by cases h
 | .Io _ :: _,ns,h=>by cases h
 | .exc _ _ _ :: _,ns,h=>by cases h
def Qz:D→D→Option Bool
 | .int i,.int j=>some (decide (i < j))
 | .tup ds,.tup es=>match intsOf ds,intsOf es with
   | some ns,some ms=>some (HT.lexLt ns ms)
   | _,_=>none
 | _,_=>none
def OY:R3:=fun d e M Q=> ∃ b,Qz d e=some b∧Q (.bl b) M
theorem jy (hu:X.A.units+64 < cLine):pS X (compareOp .Lt) OY:=by
 constructor
 intro pins s σ H M x y d e v u Q I rm rx ry dx dy ⟨b,hb,q⟩
 unfold Qz at hb
 split at hb
 ·rename_i i j
  have hb:=Option.some.inj hb
  subst hb
  exact OO.run pins s σ H M x y _ _ v u Q I rm rx ry dx dy ⟨i,j,rfl,rfl,q⟩
 ·rename_i ds es
  split at hb
  ·rename_i ns ms h1 h2
   have hb:=Option.some.inj hb
   subst hb
   exact (LZ hu).run pins s σ H M x y _ _ v u Q I rm rx ry dx dy ⟨ns,ms,by rw [pV h1],by rw [pV h2],q⟩
  ·cases hb
 ·cases hb
theorem aQ:bootBuiltins "len" =some (.builtin "len"):=by decide +kernel
theorem c6:bootBuiltins "min" =some (.builtin "min"):=by decide +kernel
theorem wX:bootBuiltins "max" =some (.builtin "max"):=by decide +kernel
theorem cy:bootBuiltins "sorted" =some (.builtin "sorted"):=by decide +kernel
theorem av:bootBuiltins "isinstance" =some (.builtin "isinstance"):=by decide +kernel
theorem bY:bootBuiltins "list" =some (.type "list"):=by decide +kernel
theorem fG:bootBuiltins "int" =some (.type "int"):=by decide +kernel
theorem lS:bootBuiltins "bool" =some (.type "bool"):=by decide +kernel
theorem dg:bootBuiltins "tuple" =some (.type "tuple"):=by decide +kernel
end
theorem tM {m n:Nat} (h:m≤n):2 ^ m≤2 ^ n:=Nat.pow_le_pow_right (by decide) h
theorem Sm.le {m n:Nat} {i:Int} (h:Sm m i) (l:m≤n):Sm n i:=Nat.lt_of_lt_of_le h (tM l)
theorem Sm.JQ {n:Nat} {i j:Int} (h:Sm n j) (l:i.natAbs≤j.natAbs):Sm n i:=Nat.lt_of_le_of_lt l h
theorem Sm.add {m n:Nat} {i j:Int} (h1:Sm m i) (h2:Sm n j):Sm (max m n+1) (i+j):=by
 have a:=Nat.lt_of_lt_of_le h1 (tM (Nat.le_max_left m n))
 have b:=Nat.lt_of_lt_of_le h2 (tM (Nat.le_max_right m n))
 show (i+j).natAbs < 2 ^ (max m n+1)
 rw [Nat.pow_succ]
 have:=Int.natAbs_add_le i j
 omega
theorem Sm.neg {n:Nat} {i:Int} (h:Sm n i):Sm n (-i):=by
 show (-i).natAbs < _
 rw [Int.natAbs_neg];exact h
theorem Sm.sub {m n:Nat} {i j:Int} (h1:Sm m i) (h2:Sm n j):Sm (max m n+1) (i - j):=by
 rw [Int.sub_eq_add_neg];exact h1.add h2.neg
theorem Sm.mul {m n:Nat} {i j:Int} (h1:Sm m i) (h2:Sm n j):Sm (m+n) (i*j):=by
 show (i*j).natAbs < 2 ^ (m+n)
 rw [Int.natAbs_mul,Nat.pow_add]
 exact Nat.mul_lt_mul'' h1 h2
theorem Sm.of_bounds {n:Nat} {i:Int} (h1: -(2 ^ n:Nat) < i) (h2:i < (2 ^ n:Nat)):Sm n i:=by
 show i.natAbs < 2 ^ n
 omega
theorem Sm.emod {n:Nat} {i j:Int} (hj:0 < j) (h:Sm n j):Sm n (i % j):=by
 have h1:=Int.emod_nonneg i (show j≠0 by omega)
 have h2:=Int.emod_lt_of_pos i hj
 exact h.JQ (by omega)
instance {n:Nat} {i:Int}:Decidable (Sm n i):=inferInstanceAs (Decidable (_ < _))
theorem Sm.sign (i:Int):Sm 1 i.sign:=by
 rcases Int.lt_trichotomy i 0 with h | h | h
 ·rw [Int.sign_eq_neg_one_of_neg h];decide
 ·subst h;decide
 ·rw [Int.sign_eq_one_of_pos h];decide
theorem MulOk.of {m n:Nat} {i j:Int} (h1:Sm m i) (h2:Sm n j) (h:m+n≤100000):MulOk i j:=⟨m,n,h1,h2,h⟩
theorem Sm.lit (i:Int):Sm (i.natAbs.log2+1) i:=Nat.lt_log2_self
theorem Sm.two:Sm 2 2:=by decide
theorem Sm.one:Sm 1 1:=by decide
theorem Sm.zero:Sm 0 0:=by decide
theorem bZ {K:PySem.W.Frag} {n:String}:PySem.W.kitOne K (.type n) (.type n)=some true:=by simp [PySem.W.kitOne]
structure Pl where
 x:Int
 y:Int
 deriving DecidableEq
def Pl.d (p:Pl):D:= .tup [.int p.x,.int p.y]
def Pl.Ok (n:Nat) (p:Pl):Prop:=Sm n p.x∧Sm n p.y
theorem cL (p q:Pl):dQ p.d q.d=decide (p=q):=by
 unfold Pl.d
 rw [lR,kM,kM,zG,bM,bM,Bool.eq_iff_iff]
 cases p;cases q
 simp
end L3
namespace L3
open PySem L2
theorem wY {K:PySem.W.Frag} {H:Hp}:∀ (ns:List Int),aL K H (ns.map D.int) (ns.map V.int)
 | []=>aS.mpr rfl
 | n :: ns=>aP.mpr ⟨_,_,rfl,aU.mpr rfl,wY ns⟩
end L3
namespace L3
theorem aF {gd:Mp→Prop} {g:Aw} {tb:oX} {D:Iq} {ρ:En} {M:Mp} (Pv:Nat→En→Mp→Prop):∀ (xs:List L3.D),
 (∀ (i:Nat) (x:L3.D) (ρ:En) (M:Mp) (N:En→Mp→Prop),xs[i]?=some x→Pv i ρ M→(∀ ρ' M',Pv (i+1) ρ' M'→N ρ' M')→gd M∧g x ρ M fun ρ2 M2=>tb { D with nx:=N,ct:=N,bk:=D.nx } ρ2 M2)→
 (∀ ρ M,Pv xs.length ρ M→gd M∧D.nx ρ M)→Pv 0 ρ M→runFor gd g tb D xs ρ M:=by
 intro xs hs hd h0
 have key:∀ (ys:List L3.D) (i:Nat) (ρ:En) (M:Mp),xs.drop i=ys→Pv i ρ M→i≤xs.length→runFor gd g tb D ys ρ M:=by
  intro ys
  induction ys with
  | nil=>
    intro i ρ M e p hi
    have:xs.length≤i:=by
     have:=congrArg List.length e
     rw [List.length_drop] at this
     simp at this
     omega
    have:i=xs.length:=by omega
    subst this
    exact hd ρ M p
  | cons y ys ih=>
    intro i ρ M e p hi
    have hx:xs[i]?=some y:=by
     have:=congrArg (fun l=>l[0]?) e
     simpa using this
    have hlt:i < xs.length:=(List.getElem?_eq_some_iff.mp hx).1
    refine hs i y ρ M _ hx p fun ρ' M' p'=>ih (i+1) ρ' M' ?_ p' hlt
    rw [← List.drop_drop,e]
    rfl
 exact key xs 0 ρ M rfl h0 (Nat.zero_le _)
theorem bQ {n i:Nat} {x:L3.D} (h:((List.range n).map fun (k:Nat)=>L3.D.int (k:Int))[i]?=some x):i < n∧x= .int (i:Int):=by
 rw [List.getElem?_map] at h
 by_cases hi:i < n
 ·rw [List.getElem?_range hi] at h
  exact ⟨hi,(Option.some.inj h).symm⟩
 ·rw [List.getElem?_eq_none (by simp;omega)] at h
  cases h
end L3
namespace L3
def frac (a b:Int):Pl:=⟨a.fdiv ((Int.gcd a b:Int)*b.sign),b.fdiv ((Int.gcd a b:Int)*b.sign)⟩
def low (a b:Int):Pl:=⟨a / (Int.gcd a b:Int),b / (Int.gcd a b:Int)⟩
end L3
local macro_rules | `(tactic| walk_at "sm")=> `(tactic| first | assumption | exact L3.Sm.sign _ | exact L3.Sm.zero | exact L3.Sm.one | exact L3.Sm.two | ((with_reducible apply L3.Sm.mul) <;> walk_at "sm") | ((with_reducible apply L3.Sm.sub) <;> walk_at "sm") | ((with_reducible apply L3.Sm.add) <;> walk_at "sm") | ((with_reducible apply L3.Sm.neg) <;> walk_at "sm") | ((with_reducible apply L3.Sm.abs) <;> walk_at "sm") | ((with_reducible apply L3.Sm.emod);(first | omega | decide +kernel);walk_at "sm") | exact L3.Sm.lit _)
local macro_rules | `(tactic| walk_at "smle")=> `(tactic| (apply L3.Sm.le;walk_at "sm";first | omega | decide +kernel))
namespace L3
@[irreducible] def Rv (p f g:Pl):Int:=(p.x*f.y - f.x)*g.y*((p.x*f.y - f.x)*g.y)+(p.y*g.y - g.x)*f.y*((p.y*g.y - g.x)*f.y)
@[irreducible] def sq (p f g:Pl):Pl:=frac (Rv p f g) (f.y*g.y*(f.y*g.y))
end L3
namespace L3
@[irreducible] def tw (a b c:Pl):Int:=(b.x - a.x)*(c.y - a.y) - (b.y - a.y)*(c.x - a.x)
theorem gu (a b c:Pl):tw b c a=tw a b c:=by unfold tw;grind
theorem dN (a b c:Pl):tw b a c= -tw a b c:=by unfold tw;grind
theorem iW (a b c:Pl):tw a c b= -tw a b c:=by unfold tw;grind
theorem nN (a b:Pl):tw a a b=0:=by unfold tw;grind
theorem tN (a b:Pl):tw a b b=0:=by unfold tw;grind
theorem tO (a b:Pl):tw a b a=0:=by unfold tw;grind
def aT (p q:Pl):Prop:=p.x < q.x∨(p.x=q.x∧p.y < q.y)
instance (p q:Pl):Decidable (aT p q):=inferInstanceAs (Decidable (_∨_))
theorem bL (p:Pl):¬ aT p p:=by unfold aT;omega
theorem b9 {p q r:Pl} (a:aT p q) (b:aT q r):aT p r:=by unfold aT at *;omega
theorem eg {p q:Pl} (a:aT p q):¬ aT q p:=by unfold aT at *;omega
theorem er (p q:Pl):aT p q∨p=q∨aT q p:=by
 unfold aT
 by_cases h:p=q
 ·exact .inr (.inl h)
 ·have:¬ (p.x=q.x∧p.y=q.y):=fun ⟨a,b⟩=>h (by cases p;cases q;simp only at a b;rw [a,b])
  omega
theorem AX {p q:Pl} (a:aT p q):p≠q:=fun e=>bL q (e▸a)
def lo (p q:Pl):Pl:=if aT q p then q else p
def hi (p q:Pl):Pl:=if aT p q then q else p
@[irreducible] def qm (p q:Pl):Int:=(q.x - p.x)*(q.x - p.x)+(q.y - p.y)*(q.y - p.y)
@[irreducible] def dep (a b c d:Pl):Int:=qm d a*tw d b c+qm d b*tw d c a+qm d c*tw d a b
theorem GQ (a b c d:Pl):dep b c a d=dep a b c d:=by unfold dep;grind
theorem Eh (a b c d:Pl):dep b a c d= -dep a b c d:=by unfold dep;have:=dN d;unfold tw;grind
@[irreducible] def rg (a b c d:Pl):Int:=(tw a b c).sign*(dep a b c d).sign
theorem nO (a b c d:Pl):rg b c a d=rg a b c d:=by unfold rg;rw [gu,GQ]
theorem qo (a b c d:Pl):rg b a c d=rg a b c d:=by unfold rg;rw [dN,Eh,Int.sign_neg,Int.sign_neg,Int.neg_mul_neg]
end L3
namespace L3
def pq (a b c d:Pl):Prop:=rg a b c d=1∨(rg a b c d=0∧d≠a∧d≠b∧d≠c∧((aT d a∧aT d b∧aT d c)∨(aT a b∧aT a c∧aT a d∧(tw b c d).sign≠(tw b c a).sign)∨(aT b a∧aT b c∧aT b d∧(tw c a d).sign≠(tw c a b).sign)∨(aT c a∧aT c b∧aT c d∧(tw a b d).sign≠(tw a b c).sign)))
instance (a b c d:Pl):Decidable (pq a b c d):=inferInstanceAs (Decidable (_∨_))
theorem tP {a b c d:Pl} (h:pq a b c d):pq b c a d:=by
 rcases h with h | ⟨h0,n1,n2,n3,h⟩
 ·exact .inl ((nO a b c d).trans h)
 ·refine .inr ⟨(nO a b c d).trans h0,n2,n3,n1,?_⟩
  rcases h with ⟨k1,k2,k3⟩ | ⟨k1,k2,k3,k4⟩ | ⟨k1,k2,k3,k4⟩ | ⟨k1,k2,k3,k4⟩
  ·exact .inl ⟨k2,k3,k1⟩
  ·exact .inr (.inr (.inr ⟨k1,k2,k3,k4⟩))
  ·exact .inr (.inl ⟨k2,k1,k3,k4⟩)
  ·exact .inr (.inr (.inl ⟨k2,k1,k3,k4⟩))
theorem jz (a b c d:Pl):pq b c a d↔pq a b c d:=⟨fun h=>tP (tP h),tP⟩
theorem nP (i j:Int):((-i).sign≠(-j).sign)↔(i.sign≠j.sign):=by
 rw [Int.sign_neg,Int.sign_neg];omega
theorem wZ {a b c d:Pl} (h:pq a b c d):pq b a c d:=by
 rcases h with h | ⟨h0,n1,n2,n3,h⟩
 ·exact .inl ((qo a b c d).trans h)
 ·refine .inr ⟨(qo a b c d).trans h0,n2,n1,n3,?_⟩
  rcases h with ⟨k1,k2,k3⟩ | ⟨k1,k2,k3,k4⟩ | ⟨k1,k2,k3,k4⟩ | ⟨k1,k2,k3,k4⟩
  ·exact .inl ⟨k2,k1,k3⟩
  ·refine .inr (.inr (.inl ⟨k1,k2,k3,?_⟩))
   rw [dN b c d,dN b c a]
   exact (nP _ _).mpr k4
  ·refine .inr (.inl ⟨k1,k2,k3,?_⟩)
   rw [dN c a d,dN c a b]
   exact (nP _ _).mpr k4
  ·refine .inr (.inr (.inr ⟨k2,k1,k3,?_⟩))
   rw [dN a b d,dN a b c]
   exact (nP _ _).mpr k4
theorem tQ (a b c d:Pl):pq b a c d↔pq a b c d:=⟨wZ,wZ⟩
theorem dU (i:Int):(i < 0∧i.sign= -1)∨(i=0∧i.sign=0)∨(0 < i∧i.sign=1):=by
 rcases Int.lt_trichotomy i 0 with h | h | h
 ·exact .inl ⟨h,Int.sign_eq_neg_one_of_neg h⟩
 ·exact .inr (.inl ⟨h,by rw [h];rfl⟩)
 ·exact .inr (.inr ⟨h,Int.sign_eq_one_of_pos h⟩)
theorem Cc {a b c d:Pl} (h:dep a b c d=0):rg a b c d=0:=by unfold rg;rw [h];simp
def Rw (p q r s:Pl):Prop:=(0 < tw p q r∧tw p q s < 0)∨(tw p q r < 0∧0 < tw p q s)
theorem Mr {a b c d:Pl} (ht:tw a b c≠0) (h:dep a b c d≠0):rg a b c d≠0:=by
 unfold rg
 rcases dU (tw a b c) with ⟨u,e⟩ | ⟨u,e⟩ | ⟨u,e⟩ <;> rcases dU (dep a b c d) with ⟨v,f⟩ | ⟨v,f⟩ | ⟨v,f⟩ <;> rw [e,f] <;> first | decide | omega
theorem GR {a b c d:Pl} (ht:tw a b c≠0) (h:dep a b c d≠0):pq a b c d↔rg a b c d=1:=by
 constructor
 ·rintro (z | ⟨z,_⟩)
  ·exact z
  ·exact absurd z (Mr ht h)
 ·exact .inl
theorem GS (a b c d:Pl):pq a c b d↔pq a b c d:=by
 rw [← jz a c b d,tQ,← jz,jz,jz]
theorem gW {p q:Pl} (h:p≠q):aT p q∨aT q p:=by
 rcases er p q with z | z | z
 ·exact .inl z
 ·exact absurd z h
 ·exact .inr z
end L3
namespace L3
end L3
namespace L3
end L3
namespace L3
open PySem PySem.Spec PyProof.Rows
section
variable {P:Program} {w:World} {A:Around} {E:Value→Shared→Prop} {s:Shared} {κ:KeyKind} {kd:SortKind} {z:Array Keyed} {t:SortSt}
structure Ask (P:Program) (w:World) (A:Around) (s:Shared) (κ:KeyKind) (kd:SortKind):Prop where
 lt:∀ (E:Value→Shared→Prop) (x y:Value) (a b:κ.α) (R:Bool→Shared→Prop),κ.keyOf x=some a→κ.keyOf y=some b→R (κ.blt a b) s→wpAny (model P w) A (keyLt' kd x y) R E s
structure Mid (kd:SortKind) (z:Array Keyed) (t:SortSt):Prop where
 pm:(arrOf t).Perm z
 kd:kindOf t=kd
 ok:failedOf t=none
 no:pendingOf t= #[]
theorem Mid.sz (m:Mid kd z t):(arrOf t).size=z.size:=m.pm.size_eq
theorem Mid.put (m:Mid kd z t) {y:Array Keyed} (h:y.Perm (arrOf t)):Mid kd z (setArr t y):=⟨h.trans m.pm,m.kd,m.ok,m.no⟩
theorem Mid.key (m:Mid kd z t) (hk:KeysOf κ z) {i:Nat} (hi:i < z.size):∃ x q,(arrOf t)[i]?=some (x,q)∧κ.keyOf x=some (KK κ (arrOf t) i):=by
 have hlt:i < (arrOf t).size:=m.sz▸hi
 have e:(arrOf t)[i]?=some (arrOf t)[i]:=getElem?_pos _ i hlt
 obtain ⟨a,ha⟩:=hk (arrOf t)[i] ((Array.perm_iff_toList_perm.mp m.pm).mem_iff.mp (by simp))
 refine ⟨(arrOf t)[i].1,(arrOf t)[i].2,e,?_⟩
 have ek:KK κ (arrOf t) i=a:=by unfold KK;rw [e];simp only [ha,Option.getD_some]
 rw [ek];exact ha
theorem tR (hA:Ask P w A s κ kd) (m:Mid kd z t) (hk:KeysOf κ z) {i j:Nat} (hi:i < z.size) (hj:j < z.size) {R:Option Bool→SortSt→Prop}
 (h:R (some (κ.blt (KK κ (arrOf t) i) (KK κ (arrOf t) j))) t):wpS (model P w) A E s (ltAt' i j) R t:=by
 obtain ⟨x,p,e1,k1⟩:=m.key hk hi
 obtain ⟨y,q,e2,k2⟩:=m.key hk hj
 rw [ltAt'_eq]
 apply wpS_bind;apply wpS_get
 show wpS (model P w) A E s (elem' (arrOf t) i >>= fun u=>elem' (arrOf t) j >>= fun v=>lt' u v) R t
 rw [elem'_eq,elem'_eq,e1,e2]
 apply wpS_bind;apply wpS_pure
 apply wpS_bind;apply wpS_pure
 rw [lt'_eq]
 apply wpS_bind;apply wpS_get
 rw [m.kd]
 refine wpS_bind (wpS_lift (wpAny_attempt (hA.lt _ x y _ _ _ k1 k2 ⟨rfl,wpS_pure h⟩)))
theorem rise {y:Array Keyed} {n:Nat} (h:SortedToK κ y n) (hl:1≤n) (hn:κ.kle (KK κ y (n - 1)) (KK κ y n)):SortedToK κ y (n+1):=by
 intro i j hij hj
 rcases Nat.lt_or_ge j n with c | c
 ·exact h i j hij c
 ·obtain rfl:j=n:=by omega
  rcases Nat.lt_or_ge i j with d | d
  ·exact KeyOrd.kle_trans (h i (j - 1) (by omega) (by omega)) hn
  ·obtain rfl:i=j:=by omega
   exact KeyOrd.kle_refl _
theorem GU {y:Array Keyed} {n:Nat} (h:NonIncK κ y n) (hl:1≤n) (hn:κ.kle (KK κ y n) (KK κ y (n - 1))):NonIncK κ y (n+1):=by
 intro i j hij hj
 rcases Nat.lt_or_ge j n with c | c
 ·exact h i j hij c
 ·obtain rfl:j=n:=by omega
  rcases Nat.lt_or_ge i j with d | d
  ·exact KeyOrd.kle_trans hn (h i (j - 1) (by omega) (by omega))
  ·obtain rfl:i=j:=by omega
   exact KeyOrd.kle_refl _
theorem one_up (y:Array Keyed):SortedToK κ y 1:=by
 intro i j hij hj
 obtain rfl:i=j:=by omega
 exact KeyOrd.kle_refl _
theorem JR (y:Array Keyed):NonIncK κ y 1:=by
 intro i j hij hj
 obtain rfl:i=j:=by omega
 exact KeyOrd.kle_refl _
theorem Cd (hA:Ask P w A s κ kd) (hk:KeysOf κ z) (m:Mid kd z t) {a e:Nat} (he:e≤z.size) (h1:1≤a) (OZ:a≤e) (up:SortedToK κ (arrOf t) a) {R:AscSt→SortSt→Prop}
 (h:∀ n,a≤n→n≤e→SortedToK κ (arrOf t) n→(n < e→κ.klt (KK κ (arrOf t) n) (KK κ (arrOf t) (n - 1)))→R (none,n) t):wpS (model P w) A E s (ascLoop a e) R t:=by
 unfold ascLoop
 refine wpS_forRange (I:=fun i b u=>b=(none,i)∧u=t∧SortedToK κ (arrOf t) i) (fun i b u hi1 hi2 hI=>?_) (fun b u hI=>?_) ⟨rfl,rfl,up⟩
 ·obtain ⟨rfl,rfl,hup⟩:=hI
  apply wpS_bind
  apply tR hA m hk (by show i < z.size;omega) (by show i - 1 < z.size;omega)
  show wpS (model P w) A E s (if κ.blt (KK κ (arrOf u) i) (KK κ (arrOf u) (i - 1))=true then _ else _) _ u
  cases c:κ.blt (KK κ (arrOf u) i) (KK κ (arrOf u) (i - 1)) with
  | true=>rw [if_pos rfl];exact wpS_pure (h i hi1 (by omega) hup fun _=>c)
  | false=>rw [if_neg Bool.false_ne_true];exact wpS_pure ⟨rfl,rfl,rise hup (by omega) c⟩
 ·obtain ⟨rfl,rfl,hup⟩:=hI
  have em:max a e=e:=by omega
  rw [em] at hup ⊢
  exact h e OZ (Nat.le_refl e) hup fun c=>absurd c (Nat.lt_irrefl e)
theorem zH (hA:Ask P w A s κ kd) (hk:KeysOf κ z) (m:Mid kd z t) {n e:Nat} (he:e≤z.size) (h1:1≤n) (hne:n≤e) (dn:NonIncK κ (arrOf t) n) {R:Option Nat→SortSt→Prop}
 (h:∀ i u,Mid kd z u→1≤i→i≤e→SortedToK κ (arrOf u) i→R (some i) u):wpS (model P w) A E s (tail3 n e) R t:=by
 have hz:n≤(arrOf t).size:=by have:=m.sz;omega
 have m2:=m.put (mirror_perm (arrOf t) 0 n ((n - 0) / 2))
 unfold tail3
 apply wpS_bind
 apply wpS_reverse
 apply wpS_bind
 refine Cd hA hk m2 he h1 hne (fun i j hij hj=>?_) fun i h2 h3 up _=>wpS_pure (h i _ m2 (by omega) h3 up)
 show κ.kle (KK κ (mirror (arrOf t) 0 n ((n - 0) / 2)) i) (KK κ (mirror (arrOf t) 0 n ((n - 0) / 2)) j)
 rw [KK_mirror hz i,KK_mirror hz j,if_pos ⟨Nat.zero_le i,by omega⟩,if_pos ⟨Nat.zero_le j,hj⟩]
 exact dn _ _ (by omega) (by omega)
def Ei (κ:KeyKind) (y:Array Keyed) (n q:Nat):Prop:=q+1≤n∧∀ i,n - (q+1)≤i→i < n→KK κ y i=KK κ y (n - 1)
theorem Ej {y:Array Keyed} {n:Nat} (h:1≤n):Ei κ y n 0:=by
 refine ⟨by omega,fun i h1 h2=>?_⟩
 obtain rfl:i=n - 1:=by omega
 rfl
theorem Ek (hA:Ask P w A s κ kd) (hk:KeysOf κ z) (m:Mid kd z t) {a e:Nat} (he:e≤z.size) (h1:1≤a) (OZ:a≤e) (dn:NonIncK κ (arrOf t) a) {R:DescSt→SortSt→Prop}
 (h:∀ n q u,Mid kd z u→a≤n→n≤e→NonIncK κ (arrOf u) n→Ei κ (arrOf u) n q→R (none,n,q) u):wpS (model P w) A E s (descLoop a e) R t:=by
 unfold descLoop
 refine wpS_forRange (I:=fun i b u=>Mid kd z u∧NonIncK κ (arrOf u) i∧∃ q,Ei κ (arrOf u) i q∧b=(none,i,q)) (fun i b u hi1 hi2 hI=>?_) (fun b u hI=>?_) ⟨m,dn,0,Ej h1,rfl⟩
 ·obtain ⟨mu,hd,q,hq,rfl⟩:=hI
  have hz:i≤(arrOf u).size:=by have:=mu.sz;omega
  apply wpS_bind
  apply tR hA mu hk (by show i < z.size;omega) (by show i - 1 < z.size;omega)
  show wpS (model P w) A E s (if κ.blt (KK κ (arrOf u) i) (KK κ (arrOf u) (i - 1))=true then _ else _) _ u
  cases c:κ.blt (KK κ (arrOf u) i) (KK κ (arrOf u) (i - 1)) with
  | true=>
    rw [if_pos rfl]
    have lower:NonIncK κ (arrOf u) (i+1):=GU hd (by omega) (KeyOrd.kle_of_klt c)
    show wpS (model P w) A E s (if q > 0 then _ else _) _ u
    by_cases d:q > 0
    ·rw [if_pos d]
     apply wpS_bind
     apply wpS_reverse
     have same:=KK_mirror_equal (κ:=κ) hz hq.2
     refine wpS_pure ⟨mu.put (mirror_perm _ _ _ _),fun x y hxy hy=>?_,0,Ej (by omega),rfl⟩
     show κ.kle (KK κ (mirror (arrOf u) (i - (q+1)) i _) y) (KK κ (mirror (arrOf u) (i - (q+1)) i _) x)
     rw [same,same]
     exact lower x y hxy hy
    ·rw [if_neg d]
     exact wpS_pure ⟨mu,lower,0,Ej (by omega),rfl⟩
  | false=>
    rw [if_neg Bool.false_ne_true]
    apply wpS_bind
    apply tR hA mu hk (by show i - 1 < z.size;omega) (by show i < z.size;omega)
    show wpS (model P w) A E s (if κ.blt (KK κ (arrOf u) (i - 1)) (KK κ (arrOf u) i)=true then _ else _) _ u
    cases d:κ.blt (KK κ (arrOf u) (i - 1)) (KK κ (arrOf u) i) with
    | true=>rw [if_pos rfl];exact wpS_pure (h i q u mu hi1 (by omega) hd hq)
    | false=>
      rw [if_neg Bool.false_ne_true]
      have alike:KK κ (arrOf u) i=KK κ (arrOf u) (i - 1):=κ.total _ _ c d
      refine wpS_pure ⟨mu,GU hd (by omega) d,q+1,⟨by have:=hq.1;omega,fun x h2 h3=>?_⟩,rfl⟩
      rw [Nat.add_sub_cancel]
      rcases Nat.lt_or_ge x i with g | g
      ·rw [alike];exact hq.2 x (by omega) g
      ·obtain rfl:x=i:=by omega
       rfl
 ·obtain ⟨mu,hd,q,hq,rfl⟩:=hI
  have em:max a e=e:=by omega
  rw [em] at hd hq ⊢
  exact h e q u mu OZ (Nat.le_refl e) hd hq
theorem zI (hA:Ask P w A s κ kd) (hk:KeysOf κ z) (m:Mid kd z t) {n e:Nat} (he:e≤z.size) (hne:n+1≤e) (dn:NonIncK κ (arrOf t) (n+1)) {R:Option Nat→SortSt→Prop}
 (h:∀ i u,Mid kd z u→1≤i→i≤e→SortedToK κ (arrOf u) i→R (some i) u):wpS (model P w) A E s (descPart n e) R t:=by
 unfold descPart
 apply wpS_bind
 refine wpS_lift (wpAny_rule ⟨rfl,?_⟩)
 apply wpS_bind
 refine Ek hA hk m he (by omega) hne dn fun i q u mu h2 h3 hd hq=>?_
 have hz:i≤(arrOf u).size:=by have:=mu.sz;omega
 show wpS (model P w) A E s (if q > 0 then _ else _) R u
 by_cases d:q > 0
 ·rw [if_pos d]
  apply wpS_bind
  apply wpS_reverse
  have same:=KK_mirror_equal (κ:=κ) hz hq.2
  refine zH hA hk (mu.put (mirror_perm _ _ _ _)) he (by omega) h3 (fun x y hxy hy=>?_) h
  show κ.kle (KK κ (mirror (arrOf u) (i - (q+1)) i _) y) (KK κ (mirror (arrOf u) (i - (q+1)) i _) x)
  rw [same,same]
  exact hd x y hxy hy
 ·rw [if_neg d]
  exact zH hA hk mu he (by omega) h3 hd h
theorem CW (hA:Ask P w A s κ kd) (hk:KeysOf κ z) (m:Mid kd z t) {e:Nat} (he:e≤z.size) (h1:1≤e) {R:Option Nat→SortSt→Prop}
 (h:∀ i u,Mid kd z u→1≤i→i≤e→SortedToK κ (arrOf u) i→R (some i) u):wpS (model P w) A E s (countRun' 0 e) R t:=by
 rw [countRun0_eq]
 apply wpS_bind
 refine Cd hA hk m he (Nat.le_refl 1) h1 (one_up _) fun n h2 h3 up stop=>?_
 show wpS (model P w) A E s (if (n == e)=true then _ else _) R t
 by_cases c:n=e
 ·rw [if_pos (beq_iff_eq.mpr c)]
  exact wpS_pure (h n t m h2 h3 up)
 ·rw [if_neg fun q=>c (beq_iff_eq.mp q)]
  have less:=stop (by omega)
  by_cases d:n > 1
  ·rw [if_pos d]
   apply wpS_bind
   apply tR hA m hk (by omega) (by show n - 1 < z.size;omega)
   show wpS (model P w) A E s (if κ.blt (KK κ (arrOf t) 0) (KK κ (arrOf t) (n - 1))=true then _ else _) R t
   cases g:κ.blt (KK κ (arrOf t) 0) (KK κ (arrOf t) (n - 1)) with
   | true=>rw [if_pos rfl];exact wpS_pure (h n t m h2 h3 up)
   | false=>
     rw [if_neg Bool.false_ne_true]
     have hz:n≤(arrOf t).size:=by have:=m.sz;omega
     have one:∀ i,i < n→KK κ (arrOf t) i=KK κ (arrOf t) (n - 1):=fun i hi=>
      KeyOrd.kle_antisymm (up i (n - 1) (by omega) (by omega)) (KeyOrd.kle_trans (show κ.kle (KK κ (arrOf t) (n - 1)) (KK κ (arrOf t) 0) from g) (up 0 i (Nat.zero_le i) hi))
     have same:=KK_mirror_equal (κ:=κ) hz (fun i (_:0≤i) hi=>one i hi)
     apply wpS_bind
     apply wpS_reverse
     refine zI hA hk (m.put (mirror_perm _ _ _ _)) he (by omega) (GU (fun x y hxy hy=>?_) (by omega) ?_) h
     ·show κ.kle (KK κ (mirror (arrOf t) 0 n _) y) (KK κ (mirror (arrOf t) 0 n _) x)
      rw [same,same,one x (by omega),one y hy]
      exact KeyOrd.kle_refl _
     ·show κ.kle (KK κ (mirror (arrOf t) 0 n _) n) (KK κ (mirror (arrOf t) 0 n _) (n - 1))
      rw [same,same]
      exact KeyOrd.kle_of_klt less
  ·rw [if_neg d]
   obtain rfl:n=1:=by omega
   exact zI hA hk m he (by omega) (GU (JR _) (Nat.le_refl 1) (KeyOrd.kle_of_klt less)) h
structure Cut (κ:KeyKind) (y:Array Keyed) (k l r:Nat):Prop where
 lr:l≤r
 rk:r≤k
 lo:∀ i,i < l→κ.kle (KK κ y i) (KK κ y k)
 hi:∀ i,r≤i→i < k→κ.klt (KK κ y k) (KK κ y i)
theorem Cut.put {y:Array Keyed} {k l:Nat} (c:Cut κ y k l l) (hk:k < y.size) (up:SortedToK κ y k):SortedToK κ (bubble y k (k - l)) (k+1):=by
 have hl:=c.rk
 have at':∀ i,KK κ (bubble y k (k - l)) i=if i=l then KK κ y k else if l < i∧i≤k then KK κ y (i - 1) else KK κ y i:=fun i=>by
  have:=KK_bubble (κ:=κ) hk (Nat.sub_le k l) i
  have e:k - (k - l)=l:=by omega
  rw [e] at this
  exact this
 intro i j hij hj
 rw [at' i,at' j]
 by_cases i1:i=l
 ·rw [if_pos i1]
  by_cases j1:j=l
  ·rw [if_pos j1];exact KeyOrd.kle_refl _
  ·rw [if_neg j1,if_pos ⟨by omega,by omega⟩]
   exact KeyOrd.kle_of_klt (c.hi _ (by omega) (by omega))
 ·rw [if_neg i1]
  by_cases i2:l < i∧i≤k
  ·rw [if_pos i2,if_neg (by omega),if_pos ⟨by omega,by omega⟩]
   exact up _ _ (by omega) (by omega)
  ·rw [if_neg i2]
   by_cases j1:j=l
   ·rw [if_pos j1];exact c.lo i (by omega)
   ·rw [if_neg j1]
    by_cases j2:l < j∧j≤k
    ·rw [if_pos j2];exact up _ _ (by omega) (by omega)
    ·rw [if_neg j2];exact up _ _ hij (by omega)
theorem GV (hA:Ask P w A s κ kd) (hk:KeysOf κ z) (m:Mid kd z t) {n o:Nat} (hn:n≤z.size) (ho:o≤n) (up:SortedToK κ (arrOf t) o) {R:Bool→SortSt→Prop}
 (h:∀ u,Mid kd z u→SortedToK κ (arrOf u) n→R true u):wpS (model P w) A E s (binarySort' 0 n o) R t:=by
 rw [binarySort'_eq]
 simp only [Nat.zero_add]
 apply wpS_bind
 refine wpS_mono (wpS_forRange (I:=fun k b u=>b=(none,())∧Mid kd z u∧(k≤n→SortedToK κ (arrOf u) k)∧(n < k→SortedToK κ (arrOf u) n)) (Q:=fun b u=>b=(none,())∧Mid kd z u∧SortedToK κ (arrOf u) n)
  (fun k b u hk1 hk2 hI=>?_) (fun b u hI=>?_) ⟨rfl,m,fun c=>?_,fun c=>?_⟩) fun b u hI=>?_
 ·obtain ⟨rfl,mu,up1,_⟩:=hI
  have O0:=up1 (by omega)
  apply wpS_bind
  refine wpS_mono (wpS_forRange (I:=fun x b v=>v=u∧∃ l r,b=(none,l,r)∧Cut κ (arrOf u) k l r∧r - l≤k - x) (Q:=fun b v=>v=u∧∃ l,b=(none,l,l)∧Cut κ (arrOf u) k l l)
   (fun x b v _ hx hI=>?_) (fun b v hI=>?_) ⟨rfl,0,k,rfl,⟨Nat.zero_le k,Nat.le_refl k,fun i hi=>absurd hi (Nat.not_lt_zero i),fun i h2 h3=>absurd h3 (Nat.not_lt.mpr h2)⟩,Nat.le_refl _⟩) fun b v hI=>?_
  ·obtain ⟨rfl,l,r,rfl,c,hw⟩:=hI
   show wpS (model P w) A E s (if l≥r then _ else _) _ v
   by_cases d:l≥r
   ·rw [if_pos d]
    obtain rfl:l=r:=Nat.le_antisymm c.lr d
    exact wpS_pure ⟨rfl,l,rfl,c⟩
   ·rw [if_neg d]
    have hrk:=c.rk
    apply wpS_bind
    apply tR hA mu hk (by show k < z.size;omega) (by show (l+r) / 2 < z.size;omega)
    show wpS (model P w) A E s (if κ.blt (KK κ (arrOf v) k) (KK κ (arrOf v) ((l+r) / 2))=true then _ else _) _ v
    cases g:κ.blt (KK κ (arrOf v) k) (KK κ (arrOf v) ((l+r) / 2)) with
    | true=>
      rw [if_pos rfl]
      exact wpS_pure ⟨rfl,l,(l+r) / 2,rfl,⟨by omega,by omega,c.lo,fun i h2 h3=>KeyOrd.klt_of_klt_of_kle g (O0 _ i h2 h3)⟩,by omega⟩
    | false=>
      rw [if_neg Bool.false_ne_true]
      exact wpS_pure ⟨rfl,(l+r) / 2+1,r,rfl,⟨by omega,by omega,fun i h2=>KeyOrd.kle_trans (O0 i _ (by omega) (by omega)) g,c.hi⟩,by omega⟩
  ·obtain ⟨rfl,l,r,rfl,c,hw⟩:=hI
   have e:max 0 k=k:=by omega
   rw [e] at hw
   obtain rfl:l=r:=by have:=c.lr;omega
   exact ⟨rfl,l,rfl,c⟩
  ·obtain ⟨rfl,l,rfl,c⟩:=hI
   show wpS (model P w) A E s (moveDown' k l >>= fun _=>pure (ForInStep.yield (none,()))) _ v
   rw [moveDown'_eq]
   apply wpS_bind
   apply wpS_modify
   have hz:k < (arrOf v).size:=by have:=mu.sz;omega
   exact wpS_pure ⟨rfl,mu.put (bubble_perm _ _ _),fun _=>c.put hz O0,fun q=>by omega⟩
 ·obtain ⟨rfl,mu,up1,Rx⟩:=hI
  refine ⟨rfl,mu,?_⟩
  rcases Nat.lt_or_ge n (max (max o 1) n) with c | c
  ·exact Rx c
  ·have e:max (max o 1) n=n:=by omega
   rw [e] at up1
   exact up1 (Nat.le_refl n)
 ·rcases Nat.eq_zero_or_pos o with q | q
  ·have e:max o 1=1:=by omega
   rw [e];exact one_up _
  ·have e:max o 1=o:=by omega
   rw [e];exact up
 ·have e:n=0:=by omega
  subst e
  exact fun i j _ hj=>absurd hj (Nat.not_lt_zero j)
 ·obtain ⟨rfl,mu,up'⟩:=hI
  exact wpS_pure (h u mu up')
structure CY (κ:KeyKind) (z:Array Keyed) (t:SortSt):Prop where
 pm:(arrOf t).Perm z
 ok:failedOf t=none
 one:pendingOf t= #[(0,z.size,0)]
 up:SortedToK κ (arrOf t) z.size
theorem Mid.fin (m:Mid kd z t) (up:SortedToK κ (arrOf t) z.size):CY κ z (setPending t ((pendingOf t).push (0,z.size,0))):=
 ⟨m.pm,m.ok,by show (pendingOf t).push (0,z.size,0)= #[(0,z.size,0)];rw [m.no];rfl,up⟩
theorem GW (hA:Ask P w A s κ kd) (hk:KeysOf κ z) (m:Mid kd z t) (h2:2≤z.size) (h64:z.size < 64) {R:Unit→SortSt→Prop} (h:∀ u,CY κ z u→R () u):wpS (model P w) A E s sortRuns' R t:=by
 have low:minRun' z.size z.size 0=z.size:=by
  obtain ⟨k,hk⟩:∃ k,z.size=k+1:=⟨z.size - 1,by omega⟩
  have:minRun' (k+1) z.size 0=z.size+0:=by rw [minRun'_succ,if_pos h64]
  rw [← hk] at this
  exact this
 rw [sortRuns'_eq]
 apply wpS_bind;apply wpS_get
 dsimp only
 simp only [m.sz,low]
 apply wpS_bind
 refine wpS_mono (wpS_forRange (I:=fun x b u=>if x=0 then b=(none,0)∧Mid kd z u else b=(none,z.size)∧CY κ z u) (Q:=fun b u=>b=(none,z.size)∧CY κ z u) (fun x b u _ hx hI=>?_) (fun b u hI=>?_) ?_) fun b u hI=>?_
 ·by_cases c:x=0
  ·subst c
   obtain ⟨rfl,mu⟩:b=(none,0)∧Mid kd z u:=by simpa using hI
   dsimp only
   rw [if_neg (by omega:¬ (0≥z.size))]
   simp only [Nat.sub_zero,Nat.min_self,Nat.zero_add]
   apply wpS_bind
   refine CW hA hk mu (Nat.le_refl _) (by omega) fun i v mv h3 h4 up=>?_
   dsimp only
   by_cases d:i < z.size
   ·rw [if_pos d]
    apply wpS_bind
    refine wpS_lift (wpAny_rule ⟨rfl,?_⟩)
    apply wpS_bind
    refine GV hA hk mv (Nat.le_refl _) h4 up fun v' QA up'=>?_
    simp only [Bool.not_true,Bool.false_eq_true,if_false]
    apply wpS_bind;apply wpS_get
    have e:(pendingOf v').back?=none:=by rw [QA.no];rfl
    rw [e]
    dsimp only
    apply wpS_bind
    apply wpS_modify
    exact wpS_pure ⟨rfl,QA.fin up'⟩
   ·rw [if_neg d]
    obtain rfl:i=z.size:=by omega
    apply wpS_bind;apply wpS_get
    have e:(pendingOf v).back?=none:=by rw [mv.no];rfl
    rw [e]
    dsimp only
    apply wpS_bind
    apply wpS_modify
    exact wpS_pure ⟨rfl,mv.fin up⟩
  ·obtain ⟨rfl,fu⟩:b=(none,z.size)∧CY κ z u:=by simpa [c] using hI
   dsimp only
   rw [if_pos (Nat.le_refl z.size)]
   exact wpS_pure ⟨rfl,fu⟩
 ·have c:max 0 z.size≠0:=by omega
  rw [if_neg c] at hI
  exact hI
 ·exact ⟨rfl,m⟩
 ·obtain ⟨rfl,fu⟩:=hI
  dsimp only
  apply wpS_bind
  refine wpS_mono (wpS_forRange (I:=fun _ b v=>b=(none,())∧v=u) (Q:=fun b v=>b=(none,())∧v=u) (fun x b v _ _ hI=>?_) (fun _ _ hI=>hI) ⟨rfl,rfl⟩) fun b v hI=>?_
  ·obtain ⟨rfl,rfl⟩:=hI
   apply wpS_bind;apply wpS_get
   rw [if_pos (by rw [fu.one];exact Nat.le_refl 1)]
   exact wpS_pure ⟨rfl,rfl⟩
  ·obtain ⟨rfl,rfl⟩:=hI
   exact wpS_pure (h v fu)
end
end L3
namespace L3
open PySem PySem.Spec PyProof.Rows
section
variable {P:Program} {w:World} {A:Around} {E:Value→Shared→Prop} {s:Shared} {κ:KeyKind} {kd:SortKind}
def cP (h h':Heap):Prop:= ∀ b o,h.get? b=some o→h'.get? b=some o
theorem Ce {a:Addr} {vs:List Value} {n:Nat} {R:Fin→Shared→Prop} (ho:s.heap.get? a=some (seqObj "list" vs.toArray n)) (hk:KeysOf κ (pairsOf vs))
 (hd:∀ (t:Shared) (E:Value→Shared→Prop) (Q:SortKind→Shared→Prop),(∀ b o,b≠a→s.heap.get? b=some o→t.heap.get? b=some o)→2≤vs.length→Q kd t→wpAny (model P w) A (keyKind' vs.toArray) Q E t)
 (hA:∀ t:Shared,(∀ b o,b≠a→s.heap.get? b=some o→t.heap.get? b=some o)→Ask P w A t κ kd) (h64:vs.length < 64)
 (h:∀ y:Array Keyed,y.Perm (pairsOf vs)→SortedToK κ y (pairsOf vs).size→R (.done (.ret .none)) { s with heap:=sortedHeap s.heap a vs (y.map (·.2)) }) :
 wpAny (model P w) A (Builtin.«list.sort» ⟨[.ref a],[]⟩) R E s:=by
 have la:a < s.heap.objs.size:=Heap.lt_size ho
 have lz:vs.length≤sizeLine:=by rw [sizeLine_eq];omega
 rw [list_sort_plain]
 apply wpAny_bind;apply listItems_at ho rfl
 refine wpAny_bind (listUpdate_at ho rfl ?_ (hsz:=by simp only [List.size_toArray];omega) (hsz2:=Nat.zero_le _))
 obtain ⟨e,h1⟩:∃ e,(s.heap.update a (Obj.mapSeq fun _=> #[])).get? a=some (seqObj "list" #[] e):=⟨_,get?_update_seq ho fun _=> #[]⟩
 apply wpAny_bind;apply seqEpoch_at h1 rfl
 refine wpAny_bind (wpAny_newTuple (hsz:=lz) ?_)
 refine wpAny_bind (wpAny_newList (hsz:=Nat.zero_le _) ?_)
 apply wpAny_holding
 show wpAny (model P w) A _ R E { s with heap:=((s.heap.update a (Obj.mapSeq fun _=> #[])).push (seqObj "tuple" vs.toArray 0)).push (seqObj "list" #[] 0) }
 generalize hh:((s.heap.update a (Obj.mapSeq fun _=> #[])).push (seqObj "tuple" vs.toArray 0)).push (seqObj "list" #[] 0)=g
 have g1:g.get? a=some (seqObj "list" #[] e):=by
  rw [← hh,Heap.get?_push_ne _ _ _ (by rw [size_push',Heap.size_update];exact Nat.ne_of_lt (Nat.lt_succ_of_lt la)),Heap.get?_push_ne _ _ _ (by rw [Heap.size_update];exact Nat.ne_of_lt la)]
  exact h1
 have g2:∀ b o,b≠a→s.heap.get? b=some o→g.get? b=some o:=fun b o hb q=>by
  have lb:=Heap.lt_size q
  rw [← hh,Heap.get?_push_ne _ _ _ (by rw [size_push',Heap.size_update];exact Nat.ne_of_lt (Nat.lt_succ_of_lt lb)),Heap.get?_push_ne _ _ _ (by rw [Heap.size_update];exact Nat.ne_of_lt lb),Heap.get?_update_ne _ _ _ _ hb]
  exact q
 have fin:∀ y:Array Keyed,y.Perm (pairsOf vs)→SortedToK κ y (pairsOf vs).size→R (.done (.ret .none)) { s with heap:=g.update a (Obj.mapSeq fun _=>y.map (·.2)) }:=fun y h2 h3=>by rw [← hh];exact h y h2 h3
 dsimp only
 have zv:vs.toArray.size=vs.length:=by simp
 have room:∀ y:Array Keyed,y.Perm (pairsOf vs)→(y.map (·.2)).size≤sizeLine+1:=fun y q=>by
  rw [Array.size_map,q.size_eq,pairsOf_size,sizeLine_eq];omega
 by_cases c:vs.toArray.size < 2
 ·rw [if_pos c,if_pos c]
  apply wpAny_bind;apply wpAny_pure
  rw [StateT.run_pure]
  apply wpAny_bind;apply wpAny_pure
  dsimp only
  apply wpAny_bind;apply seqEpoch_at g1 rfl
  apply wpAny_bind
  refine listUpdate_at g1 rfl ?_ (hsz2:=room (pairsOf vs) (Array.Perm.refl _))
  simp only [bne_self_eq_false,Bool.false_eq_true,if_false]
  refine wpAny_pure (fin (pairsOf vs) (Array.Perm.refl _) fun i j hij hj=>?_)
  obtain rfl:i=j:=by rw [pairsOf_size] at hj;omega
  exact KeyOrd.kle_refl _
 ·rw [if_neg c,if_neg c]
  apply wpAny_bind
  refine hd _ _ _ g2 (by omega) ?_
  apply wpAny_bind
  refine wpAny_mono (GW (z:=pairsOf vs) (t:=SortSt.mk' kd (pairsOf vs) #[] 7 none) (R:=fun _ u=>CY κ (pairsOf vs) u) (hA _ g2) hk ⟨Array.Perm.refl _,rfl,rfl,rfl⟩ (by rw [pairsOf_size];omega) (by rw [pairsOf_size];exact h64) fun u q=>q) (fun r s' q=>?_) fun _ _ q=>q
  obtain ⟨⟨⟩,u⟩:=r
  obtain ⟨rfl,fu⟩:=q
  dsimp only
  apply wpAny_bind;apply seqEpoch_at g1 rfl
  apply wpAny_bind
  refine listUpdate_at g1 rfl ?_ (hsz2:=room (arrOf u) fu.pm)
  rw [fu.ok]
  simp only [bne_self_eq_false,Bool.false_eq_true,if_false]
  exact wpAny_pure (fin (arrOf u) fu.pm fu.up)
theorem w5 {l:Addr} {vs:List Value} {Q:Value→Shared→Prop} (hl:s.heap.IsList l vs.toArray) (hk:KeysOf κ (pairsOf vs))
 (hd:∀ (t:Shared) (E:Value→Shared→Prop) (Q:SortKind→Shared→Prop),cP s.heap t.heap→2≤vs.length→Q kd t→wpAny (model P w) A.in1.in1 (keyKind' vs.toArray) Q E t)
 (hA:∀ t:Shared,cP s.heap t.heap→Ask P w A.in1.in1 t κ kd) (h64:vs.length < 64)
 (h:∀ y:Array Keyed,y.Perm (pairsOf vs)→SortedToK κ y (pairsOf vs).size→Q (.ref (s.heap.objs.size+1)) { s with heap:=sortedAll s.heap vs (y.map (·.2)) }) :
 wpAny (model P w) A (call (.builtin "sorted") [.ref l]) Q E s:=by
 refine Calls.call_function_entry kind_sorted plain_sorted entry_sorted (args_sorted1 _) ?_
 unfold Builtin.«sorted»
 refine wpAny_bind (m:=checkCount "sorted" 1 1 _) (wpAny_pure ?_)
 have lz:vs.length≤sizeLine:=by rw [sizeLine_eq];omega
 refine wpAny_bind (collect_list hl (hsz:=lz) ?_)
 refine wpAny_bind (wpAny_newList (hsz:=lz) ?_)
 show wpAny (model P w) A.in1 _ _ _ { s with heap:=((s.heap.push (seqObj "list" #[] 0)).update s.heap.objs.size (Obj.mapSeq (· ++ vs.toArray))).push (seqObj "list" vs.toArray 0) }
 generalize hg:(s.heap.push (seqObj "list" #[] 0)).update s.heap.objs.size (Obj.mapSeq (· ++ vs.toArray))=g
 have gz:g.objs.size=s.heap.objs.size+1:=by rw [← hg,Heap.size_update,size_push']
 have gk:cP s.heap g:=fun b o q=>by
  have lb:=Heap.lt_size q
  rw [← hg,Heap.get?_update_ne _ _ _ _ (Nat.ne_of_lt lb),Heap.get?_push_ne _ _ _ (Nat.ne_of_lt lb)]
  exact q
 have fin:∀ y:Array Keyed,y.Perm (pairsOf vs)→SortedToK κ y (pairsOf vs).size→Q (.ref (s.heap.objs.size+1)) { s with heap:=sortedHeap (g.push (seqObj "list" vs.toArray 0)) (s.heap.objs.size+1) vs (y.map (·.2)) }:=fun y h1 h2=>by rw [← hg];exact h y h1 h2
 rw [gz]
 have at':(g.push (seqObj "list" vs.toArray 0)).get? (s.heap.objs.size+1)=some (seqObj "list" vs.toArray 0):=by rw [← gz];exact Heap.get?_push_size _ rfl
 have GX:∀ b o,s.heap.get? b=some o→b≠s.heap.objs.size+1∧(g.push (seqObj "list" vs.toArray 0)).get? b=some o:=fun b o q=>by
  have lb:=Heap.lt_size q
  have lc:=Nat.ne_of_lt (Nat.lt_succ_of_lt lb)
  refine ⟨lc,?_⟩
  rw [Heap.get?_push_ne _ _ _ (by rw [gz];exact lc)]
  exact gk b o q
 apply wpAny_bind;apply wpAny_holding
 refine wpAny_call_entry slot_list_sort ⟨_,at',rfl⟩ entry_list_sort (Ce (κ:=κ) (kd:=kd) at' hk (fun t E Q hg=>hd t E Q fun b o q=>hg b o (GX b o q).1 (GX b o q).2) (fun t hg=>hA t fun b o q=>hg b o (GX b o q).1 (GX b o q).2) h64 fun y h1 h2=>⟨_,rfl,?_⟩) (args_list_sort _)
 exact wpAny_pure ⟨_,rfl,fin y h1 h2⟩
end
end L3
namespace L3
open PySem PySem.Spec PyProof.Rows
def pK (h:Heap) (v:Value) (p:Pl):Prop:= ∃ (a:Addr) (o:Obj) (t u:Tok) (n:Nat),v= .ref a∧h.get? a=some o∧o.cls= .type "tuple"∧o.data= .seq #[.int p.x t,.int p.y u] n
theorem pK.grow {h h':Heap} {v:Value} {p:Pl} (a:pK h v p) (g:cP h h'):pK h' v p:=by
 obtain ⟨b,o,t,u,n,h1,h2,h3,h4⟩:=a
 exact ⟨b,o,t,u,n,h1,g _ _ h2,h3,h4⟩
theorem pK.inj {h:Heap} {v:Value} {p q:Pl} (a:pK h v p) (b:pK h v q):p=q:=by
 obtain ⟨a1,o,t,u,n,rfl,h2,h3,h4⟩:=a
 obtain ⟨a2,o',t',u',n',e,k2,k3,k4⟩:=b
 injection e with e
 subst e
 rw [h2] at k2
 injection k2 with k2
 subst k2
 rw [h4] at k4
 injection k4 with k4 _
 cases p;cases q
 simp at k4
 obtain ⟨⟨e1,_⟩,e2,_⟩:=k4
 rw [e1,e2]
open Classical in
noncomputable def x8 (h:Heap):KeyKind where
 α:=Pl
 blt p q:=decide (aT p q)
 irrefl p:=decide_eq_false (bL p)
 trans p q r a b:=decide_eq_true (b9 (of_decide_eq_true a) (of_decide_eq_true b))
 negTrans p q r a:=by
  have a:=of_decide_eq_true a
  rcases er p q with c | c | c
  ·exact .inl (decide_eq_true c)
  ·subst c;exact .inr (decide_eq_true a)
  ·exact .inr (decide_eq_true (b9 c a))
 total p q a b:=by
  rcases er p q with c | c | c
  ·exact absurd c (of_decide_eq_false a)
  ·exact c
  ·exact absurd c (of_decide_eq_false b)
 keyOf v:=if e:∃ p,pK h v p then some e.choose else none
 dflt:=⟨0,0⟩
open Classical in
theorem x9 {h:Heap} {v:Value} {p:Pl} (a:pK h v p):(x8 h).keyOf v=some p:=by
 have e:∃ p,pK h v p:=⟨p,a⟩
 show (if e:∃ p,pK h v p then some e.choose else none)=some p
 rw [dif_pos e,pK.inj e.choose_spec a]
open Classical in
theorem El {h:Heap} {v:Value} {p:Pl} (a:(x8 h).keyOf v=some p):pK h v p:=by
 have a:(if e:∃ p,pK h v p then some e.choose else none)=some p:=a
 by_cases e:∃ p,pK h v p
 ·rw [dif_pos e] at a
  have:=e.choose_spec
  rwa [Option.some.inj a] at this
 ·rw [dif_neg e] at a;cases a
section
variable {P:Program} {w:World} {A:Around} {E:Value→Shared→Prop} {s:Shared}
theorem w6 (f:Bool) (v u:Value):keyLt' (tuples' f) v u=(do
 let a ← Builtin.List.listItems v;let b ← Builtin.List.listItems u
 for ((c,d),k) in (a.toList.zip b.toList).zipIdx do { if !(← eqBool c d) then return ← oneLt' (f && k == 0) c d }
 return a.size < b.size):=rfl
theorem tS {b:Bool} {i j:Int} {t u:Tok} {Q:Bool→Shared→Prop} (h:Q (decide (i < j)) s):wpAny (model P w) A (oneLt' b (.int i t) (.int j u)) Q E s:=by
 cases b with
 | true=>exact oneLt_int h
 | false=>
   rw [oneLt'_eq]
   simp only [Bool.false_eq_true,if_false]
   apply wpAny_bind
   refine (lt_int ?_:wpAny (model P w) A (compareOp .Lt (.int i t) (.int j u)) _ E s)
   exact wpAny_truthy_bool h
theorem Ms {t:Shared} {x y:Value} {p q:Pl} {f:Bool} {R:Bool→Shared→Prop} (kx:pK t.heap x p) (ky:pK t.heap y q) (hR:R (decide (aT p q)) t):wpAny (model P w) A (keyLt' (tuples' f) x y) R E t:=by
 obtain ⟨a,o,t1,u1,n1,rfl,h2,h3,h4⟩:=kx
 obtain ⟨b,o',t2,u2,n2,rfl,k2,k3,k4⟩:=ky
 rw [w6]
 apply wpAny_bind;apply listItems_at h2 h4
 apply wpAny_bind;apply listItems_at k2 k4
 simp only [List.zip_cons_cons,List.zip_nil_right,List.zipIdx_cons,List.zipIdx_nil,List.forIn_cons,List.forIn_nil,bind_assoc]
 apply wpAny_bind
 apply wpAny_eqBool_int
 by_cases ex:p.x=q.x
 ·have e:(p.x == q.x)=true:=beq_iff_eq.mpr ex
  rw [e]
  simp only [Bool.not_true,Bool.false_eq_true,if_false,pure_bind,bind_assoc]
  apply wpAny_bind
  apply wpAny_eqBool_int
  by_cases ey:p.y=q.y
  ·have e:(p.y == q.y)=true:=beq_iff_eq.mpr ey
   rw [e]
   simp only [Bool.not_true,Bool.false_eq_true,if_false,pure_bind]
   have en:decide (aT p q)=false:=decide_eq_false (by unfold aT;omega)
   rw [en] at hR
   exact wpAny_pure hR
  ·have e:(p.y == q.y)=false:=beq_eq_false_iff_ne.mpr ey
   rw [e]
   simp only [Bool.not_false,if_true,bind_assoc,pure_bind]
   apply wpAny_bind
   apply tS
   have en:decide (aT p q)=decide (p.y < q.y):=by rw [decide_eq_decide];unfold aT;omega
   rw [en] at hR
   exact wpAny_pure hR
 ·have e:(p.x == q.x)=false:=beq_eq_false_iff_ne.mpr ex
  rw [e]
  simp only [Bool.not_false,if_true,bind_assoc,pure_bind]
  apply wpAny_bind
  apply tS
  have en:decide (aT p q)=decide (p.x < q.x):=by rw [decide_eq_decide];unfold aT;omega
  rw [en] at hR
  exact wpAny_pure hR
theorem Em {h:Heap} {t:Shared} (g:cP h t.heap) (f:Bool):Ask P w A t (x8 h) (tuples' f):=
 ⟨fun E x y p q R kx ky hR=>Ms ((El kx).grow g) ((El ky).grow g) hR⟩
theorem qp {β:Type} {f:Value→Sem β} (R:Value→β→Prop):∀ (vs:List Value) (Q:List β→Shared→Prop),(∀ v∈vs,∀ (Q:β→Shared→Prop),(∀ b,R v b→Q b s)→wpAny (model P w) A (f v) Q E s)→
 (∀ bs:List β,Paired R vs bs→Q bs s)→wpAny (model P w) A (vs.mapM f) Q E s
 | [],Q,_,h=>by rw [List.mapM_nil];exact wpAny_pure (h [] .nil)
 | v :: vs,Q,hv,h=>by
   rw [List.mapM_cons]
   apply wpAny_bind
   refine hv v (List.mem_cons_self ..) _ fun b rb=>?_
   apply wpAny_bind
   refine qp R vs _ (fun u hu=>hv u (List.mem_cons_of_mem _ hu)) fun bs Ry=>?_
   exact wpAny_pure (h (b :: bs) (.cons rb Ry))
theorem w9 (v:Value):firstOfTuple' v=(typeOf v >>= fun t=>if t != .type "tuple" then pure none else Builtin.List.listItems v >>= fun a=>pure a[0]?):=rfl
theorem Cf {vs:List Value} (h2:1≤vs.length) (hv:∀ v∈vs,∃ p,pK s.heap v p) {Q:SortKind→Shared→Prop} (h:Q (tuples' true) s):wpAny (model P w) A (keyKind' vs.toArray) Q E s:=by
 rw [keyKind'_eq,List.mapM_toArray]
 simp only [bind_map_left]
 apply wpAny_bind
 refine qp (fun _ b=> ∃ i t,b=some (Value.int i t)) vs _ (fun v hm Q hQ=>?_) fun bs hb=>?_
 ·obtain ⟨p,a,o,t,u,n,rfl,k2,k3,k4⟩:=hv v hm
  rw [w9]
  apply wpAny_bind
  refine wpAny_typeOf (T:= "tuple") ⟨o,k2,k3⟩ ?_
  have e:(Value.type "tuple" !=Value.type "tuple")=false:=by decide
  rw [e]
  simp only [Bool.false_eq_true,if_false,pure_bind]
  apply wpAny_bind;apply listItems_at k2 k4
  exact wpAny_pure (hQ _ ⟨p.x,t,rfl⟩)
 ·have all:∀ (vs:List Value) (bs:List (Option Value)),Paired (fun _ b=> ∃ i t,b=some (Value.int i t)) vs bs→bs.length=vs.length∧(∀ b∈bs,∃ i t,b=some (Value.int i t)):=by
   intro vs
   induction vs with
   | nil=>intro bs q;cases q;exact ⟨rfl,fun _ z=>by cases z⟩
   | cons v vs ih=>
     intro bs q
     cases q with
     | cons q1 q2=>
       obtain ⟨l,m⟩:=ih _ q2
       refine ⟨by simp [l],fun b hb=>?_⟩
       rcases List.mem_cons.mp hb with rfl | hb
       ·exact q1
       ·exact m b hb
  obtain ⟨hl,hm⟩:=all vs bs hb
  have c:(bs.toArray.all fun b=>b.isSome)=true:=by
   simp only [List.all_toArray,List.all_eq_true]
   intro b hb
   obtain ⟨i,t,rfl⟩:=hm b hb
   rfl
  rw [if_pos c]
  apply wpAny_bind;apply wpAny_rule
  rw [oneTypeOnly'_eq]
  have ef:bs.toArray.filterMap id=(bs.filterMap id).toArray:=by simp
  rw [ef,List.mapM_toArray]
  simp only [bind_map_left,bind_assoc]
  apply wpAny_bind
  refine qp (fun _ b=>b=Value.type "int") _ _ (fun v hv' Q hQ=>?_) fun cs hc=>?_
  ·obtain ⟨b,hb1,hb2⟩:=List.mem_filterMap.mp hv'
   obtain ⟨i,t,rfl⟩:=hm b hb1
   have hb2:some (Value.int i t)=some v:=hb2
   cases hb2
   exact wpAny_typeOf (T:= "int") (typeIs_int s i t) (hQ _ rfl)
  ·have len:1≤(bs.filterMap id).length:=by
    cases bs with
    | nil=>simp at hl;omega
    | cons b bs=>
      obtain ⟨i,t,rfl⟩:=hm b (List.mem_cons_self ..)
      simp
   have all2:∀ (us cs:List Value),Paired (fun _ b=>b=Value.type "int") us cs→cs=us.map fun _=>Value.type "int" :=by
    intro us
    induction us with
    | nil=>intro cs q;cases q;rfl
    | cons u us ih=>intro cs q;cases q with | cons q1 q2=>rw [q1,ih _ q2];rfl
   rw [all2 _ _ hc]
   generalize bs.filterMap id=us at len
   cases us with
   | nil=>simp at len
   | cons u us=>
     have e0:(List.map (fun _=>Value.type "int") (u :: us)).toArray[0]?=some (Value.type "int"):=by simp
     rw [e0]
     have e1:((List.map (fun _=>Value.type "int") (u :: us)).toArray.all fun x=>x == Value.type "int")=true:=by
      simp only [List.all_toArray,List.all_map,List.all_eq_true]
      intro _ _;rfl
     simp only [e1,if_true,pure_bind]
     exact wpAny_pure h
end
end L3
namespace L3
open PySem PySem.Spec PyProof.Rows
section
variable {P:Program} {w:World} {A:Around} {E:Value→Shared→Prop} {s:Shared}
theorem JS {h0:Heap} {I S:Addr} {fp wr:List Addr} {n:Nat} {Pr:Nat→Value→Prop} {St:Nat→Heap→Prop} {bt:Nat→Nat→Bool} {R:Result→Shared→Prop} (W:Walks P w A.in1 I fp wr n Pr St)
 (hc:∀ (i j:Nat) (vi vj:Value) (t:Shared) (Q:Value→Shared→Prop) (E:Value→Shared→Prop),cP h0 t.heap→Pr i vi→Pr j vj→Q (.bool (bt i j)) t→wpAny (model P w) A.in1 (richCompare .Lt vi vj) Q E t)
 (hS:S∉fp) (xg:∀ b o,h0.get? b=some o→b∉wr∧b≠S):∀ (m k:Nat) (t:Shared) (vb:Value) (c:Nat),n - (k+1)=m→k+1≤n→cP h0 t.heap→St (k+1) t.heap→Pr (argBest bt k) vb→
 t.heap.get? S=some { cls:= .type "list",dict:=none,data:= .seq #[vb,vb] c,slots:= #[] }→
 (∀ v h' tk,Pr (argBest bt (n - 1)) v→(∀ b o,b∉wr→b≠S→t.heap.get? b=some o→h'.get? b=some o)→R (.ok (.ret v)) { t with heap:=h',toks:=tk })→
 codeAny (model P w) A (.builtin "min.loop" ⟨[.ref I,.none,.ref S],[]⟩) R t:=by
 have Sw:S∉wr:=fun q=>hS (W.sub _ q)
 have nm:(toString "min" ++ toString ".loop" :String)= "min.loop" :=by decide
 intro m
 induction m with
 | zero=>
   intro k t vb c e1 e2 gr st pb hs hR
   have ek:k+1=n:=by omega
   refine codeAny_builtin F.entry_min_loop ?_
   rw [Around.under_plainId F.plain_min_loop]
   show wpAny (model P w) A.in1 (seqItems? (.ref S) >>= _) _ _ t
   apply wpAny_bind;apply wpAny_seqItems hs rfl
   show wpAny (model P w) A.in1 (tryCatch (pyNext (.ref I)) _ >>= _) _ _ t
   apply wpAny_bind;apply wpAny_tryCatch
   refine W.done t _ _ (ek▸st) fun h' tk kp=>?_
   have hs2:=kp S _ Sw hs
   show wpAny (model P w) A.in1 (updateSeq S (fun _=> #[]) >>= _) _ _ _
   apply wpAny_bind
   refine wpAny_updateSeq hs2 rfl ?_
   apply wpAny_bind;apply wpAny_letGo;apply wpAny_pure
   exact hR vb _ tk (by rw [← ek];exact pb) fun b o q1 q2 q=>(Heap.get?_update_other _ _ (Ne.symm q2)).trans (kp b o q1 q)
 | succ m ih=>
   intro k t vb c e1 e2 gr st pb hs hR
   refine codeAny_builtin F.entry_min_loop ?_
   rw [Around.under_plainId F.plain_min_loop]
   show wpAny (model P w) A.in1 (seqItems? (.ref S) >>= _) _ _ t
   apply wpAny_bind;apply wpAny_seqItems hs rfl
   show wpAny (model P w) A.in1 (tryCatch (pyNext (.ref I)) _ >>= _) _ _ t
   apply wpAny_bind;apply wpAny_tryCatch
   refine W.item (k+1) t _ _ (by omega) st fun v h' tk pv st2 kp=>?_
   have hs2:=kp S _ Sw hs
   have zJ:cP h0 h':=fun b o q=>kp b o (xg b o q).1 (gr b o q)
   show wpAny (model P w) A.in1 (tryCatch (holding [v,v] (richCompare .Lt v vb >>= _)) _ >>= _) _ _ _
   apply wpAny_bind;apply wpAny_tryCatch;apply wpAny_holding;apply wpAny_bind
   refine hc (k+1) (argBest bt k) v vb _ _ _ zJ pv pb ?_
   apply wpAny_bind;apply wpAny_holding;apply wpAny_truthy_bool
   apply wpAny_bind;apply wpAny_letGo;apply wpAny_pure
   cases d:bt (k+1) (argBest bt k) with
   | true=>
     rw [if_pos rfl]
     apply wpAny_bind
     refine wpAny_updateSeq hs2 rfl ?_
     apply wpAny_bind;apply wpAny_letGo
     rw [nm]
     refine wpAny_pure ⟨plainId_quiet F.plain_min_loop _,ih (k+1) _ v _ (by omega) (by omega) (fun b o q=>(Heap.get?_update_other _ _ (Ne.symm (xg b o q).2)).trans (zJ b o q)) (W.frame _ _ _ st2 fun b q1 o q=>(Heap.get?_update_other _ _ (fun z:S=b=>hS (z▸q1))).trans q) (by simp only [argBest,d,if_true];exact pv) (Heap.get?_update_self _ hs2 rfl) fun v2 h2 zK p2 ya=>?_⟩
     exact hR v2 h2 zK p2 fun b o q1 q2 q=>ya b o q1 q2 ((Heap.get?_update_other _ _ (Ne.symm q2)).trans (kp b o q1 q))
   | false=>
     rw [if_neg Bool.false_ne_true]
     apply wpAny_bind;apply wpAny_letGo
     rw [nm]
     refine wpAny_pure ⟨plainId_quiet F.plain_min_loop _,ih (k+1) _ vb c (by omega) (by omega) zJ st2 (by simp only [argBest,d,Bool.false_eq_true,if_false];exact pb) hs2 fun v2 h2 zK p2 ya=>?_⟩
     exact hR v2 h2 zK p2 fun b o q1 q2 q=>ya b o q1 q2 (kp b o q1 q)
theorem qW {h0:Heap} {I S:Addr} {fp wr:List Addr} {n:Nat} {Pr:Nat→Value→Prop} {St:Nat→Heap→Prop} {bt:Nat→Nat→Bool} {R:Result→Shared→Prop} {t:Shared} {c:Nat} (W:Walks P w A.in1 I fp wr n Pr St)
 (hc:∀ (i j:Nat) (vi vj:Value) (t:Shared) (Q:Value→Shared→Prop) (E:Value→Shared→Prop),cP h0 t.heap→Pr i vi→Pr j vj→Q (.bool (bt i j)) t→wpAny (model P w) A.in1 (richCompare .Lt vi vj) Q E t)
 (hS:S∉fp) (xg:∀ b o,h0.get? b=some o→b∉wr∧b≠S) (hn:0 < n) (gr:cP h0 t.heap) (st:St 0 t.heap) (hs:t.heap.get? S=some { cls:= .type "list",dict:=none,data:= .seq #[] c,slots:= #[] })
 (hR:∀ v h' tk,Pr (argBest bt (n - 1)) v→(∀ b o,b∉wr→b≠S→t.heap.get? b=some o→h'.get? b=some o)→R (.ok (.ret v)) { t with heap:=h',toks:=tk }) :
 codeAny (model P w) A (.builtin "min.loop" ⟨[.ref I,.none,.ref S],[]⟩) R t:=by
 have Sw:S∉wr:=fun q=>hS (W.sub _ q)
 have nm:(toString "min" ++ toString ".loop" :String)= "min.loop" :=by decide
 refine codeAny_builtin F.entry_min_loop ?_
 rw [Around.under_plainId F.plain_min_loop]
 show wpAny (model P w) A.in1 (seqItems? (.ref S) >>= _) _ _ t
 apply wpAny_bind;apply wpAny_seqItems hs rfl
 show wpAny (model P w) A.in1 (tryCatch (pyNext (.ref I)) _ >>= _) _ _ t
 apply wpAny_bind;apply wpAny_tryCatch
 refine W.item 0 t _ _ hn st fun v h' tk pv st2 kp=>?_
 have hs2:=kp S _ Sw hs
 have zJ:cP h0 h':=fun b o q=>kp b o (xg b o q).1 (gr b o q)
 show wpAny (model P w) A.in1 (updateSeq S (fun _=> #[v,v]) >>= _) _ _ _
 apply wpAny_bind
 refine wpAny_updateSeq hs2 rfl ?_
 rw [nm]
 refine wpAny_pure ⟨plainId_quiet F.plain_min_loop _,JS W hc hS xg _ 0 _ v _ rfl hn (fun b o q=>(Heap.get?_update_other _ _ (Ne.symm (xg b o q).2)).trans (zJ b o q)) (W.frame _ _ _ st2 fun b q1 o q=>(Heap.get?_update_other _ _ (fun z:S=b=>hS (z▸q1))).trans q) pv (Heap.get?_update_self _ hs2 rfl) fun v2 h2 zK p2 ya=>?_⟩
 exact hR v2 h2 zK p2 fun b o q1 q2 q=>ya b o q1 q2 ((Heap.get?_update_other _ _ (Ne.symm q2)).trans (kp b o q1 q))
theorem Eo {vs:List Value} {bt:Nat→Nat→Bool} {Q:Value→Shared→Prop} (ha:argsOk "min" ⟨vs,[]⟩) (h2:2≤vs.length) (hz:vs.length < 64) (hh:A.handled=none)
 (hc:∀ (i j:Nat) (vi vj:Value) (t:Shared) (Q:Value→Shared→Prop) (E:Value→Shared→Prop),cP s.heap t.heap→vs[i]?=some vi→vs[j]?=some vj→Q (.bool (bt i j)) t→wpAny (model P w) A.in1 (richCompare .Lt vi vj) Q E t)
 (h:∀ v h' tk,vs[argBest bt (vs.length - 1)]?=some v→cP s.heap h'→Q v { s with heap:=h',toks:=tk }):wpAny (model P w) A (call (.builtin "min") vs) Q E s:=by
 have nm:(toString "min" ++ toString ".loop" :String)= "min.loop" :=by decide
 have lz:vs.length≤sizeLine:=by rw [sizeLine_eq];omega
 refine call_function_tree F.kind_min F.plain_min F.entry_min ha ?_
 match vs,h2 with
 | v1 :: v2 :: rest,_=>
   show wpAny (model P w) A.in1 (Builtin.Builtins.bindParams "min" ["key","default"] 0 ⟨[],[]⟩ >>= _) _ _ s
   refine wpAny_bind (wpAny_of_eq (show Builtin.Builtins.bindParams "min" ["key","default"] 0 ⟨[],[]⟩=pure [none,none] from rfl) ?_)
   show wpAny (model P w) A.in1 (newTuple (v1 :: v2 :: rest) >>= _) _ _ s
   refine wpAny_bind (wpAny_newTuple (hsz:=lz) ?_)
   have o4:(s.heap.push { cls:= .type "tuple",data:= .seq (v1 :: v2 :: rest).toArray }).objs.size=s.heap.objs.size+1:=Heap.size_push ..
   have tp:(s.heap.push { cls:= .type "tuple",data:= .seq (v1 :: v2 :: rest).toArray }).IsTuple s.heap.objs.size (v1 :: v2 :: rest).toArray:=⟨_,Heap.get?_push_size _ rfl,rfl,0,rfl⟩
   refine wpAny_bind (wpAny_pyIter_tuple tp ?_)
   generalize hg:s.heap.push { cls:= .type "tuple",data:= .seq (v1 :: v2 :: rest).toArray }=g at o4 tp
   have k0:cP s.heap g:=fun b o q=>by rw [← hg];exact Heap.get?_push_of_some _ q
   apply wpAny_bind
   refine wpAny_newObj_type ?_
   have JT:(g.push { cls:= .type "tuple_iterator",data:= .fields #[.ref s.heap.objs.size,.int 0 0] }).objs.size=s.heap.objs.size+2:=by rw [Heap.size_push,o4]
   rw [nm]
   refine wpAny_pure ⟨plainId_quiet F.plain_min_loop _,qW (h0:=s.heap) (Walks.tuple (A:=A.in1) hh _ s.heap.objs.size (by rw [o4];exact Nat.ne_of_lt (Nat.lt_succ_self _)) (v1 :: v2 :: rest).toArray) (bt:=bt) (fun i j vi vj t Q E g1 p1 p2 q=>hc i j vi vj t Q E g1 (by simpa using p1) (by simpa using p2) q) ?_ (fun b o q=>?_) (by simp) (fun b o q=>Heap.get?_push_of_some _ (Heap.get?_push_of_some _ (k0 b o q))) ⟨⟨_,Heap.get?_push_of_some _ (Heap.get?_push_size _ rfl),rfl,rfl⟩,(tp.push _).push _⟩ (Heap.get?_push_size _ rfl) fun v h' tk p kp=>?_⟩
   ·intro q
    rw [o4,JT] at q
    rcases List.mem_cons.mp q with q | q
    ·exact absurd q (by intro z;exact absurd (Nat.succ.inj z) (Nat.succ_ne_self _))
    ·have q:=List.mem_singleton.mp q
     exact absurd q (by intro z;have:s.heap.objs.size+2=s.heap.objs.size:=z;omega)
   ·have lb:=Heap.lt_size q
    rw [o4,JT]
    refine ⟨fun z=>?_,fun z=>?_⟩
    ·have z:=List.mem_singleton.mp z
     rw [z] at lb
     exact absurd lb (Nat.not_lt.mpr (Nat.le_succ _))
    ·rw [z] at lb
     exact absurd lb (Nat.not_lt.mpr (Nat.le_add_right _ 2))
   ·refine h v h' tk (by simpa using p) fun b o q=>?_
    have lb:=Heap.lt_size q
    refine kp b o (fun z=>?_) (fun z=>?_) (Heap.get?_push_of_some _ (Heap.get?_push_of_some _ (k0 b o q)))
    ·have z:=List.mem_singleton.mp z
     rw [z,o4] at lb
     exact absurd lb (Nat.not_lt.mpr (Nat.le_succ _))
    ·rw [z,JT] at lb
     exact absurd lb (Nat.not_lt.mpr (Nat.le_add_right _ 2))
theorem JU {h0:Heap} {I S:Addr} {fp wr:List Addr} {n:Nat} {Pr:Nat→Value→Prop} {St:Nat→Heap→Prop} {bt:Nat→Nat→Bool} {R:Result→Shared→Prop} (W:Walks P w A.in1 I fp wr n Pr St)
 (hc:∀ (i j:Nat) (vi vj:Value) (t:Shared) (Q:Value→Shared→Prop) (E:Value→Shared→Prop),cP h0 t.heap→Pr i vi→Pr j vj→Q (.bool (bt i j)) t→wpAny (model P w) A.in1 (richCompare .Gt vi vj) Q E t)
 (hS:S∉fp) (xg:∀ b o,h0.get? b=some o→b∉wr∧b≠S):∀ (m k:Nat) (t:Shared) (vb:Value) (c:Nat),n - (k+1)=m→k+1≤n→cP h0 t.heap→St (k+1) t.heap→Pr (argBest bt k) vb→
 t.heap.get? S=some { cls:= .type "list",dict:=none,data:= .seq #[vb,vb] c,slots:= #[] }→
 (∀ v h' tk,Pr (argBest bt (n - 1)) v→(∀ b o,b∉wr→b≠S→t.heap.get? b=some o→h'.get? b=some o)→R (.ok (.ret v)) { t with heap:=h',toks:=tk })→
 codeAny (model P w) A (.builtin "max.loop" ⟨[.ref I,.none,.ref S],[]⟩) R t:=by
 have Sw:S∉wr:=fun q=>hS (W.sub _ q)
 have nm:(toString "max" ++ toString ".loop" :String)= "max.loop" :=by decide
 intro m
 induction m with
 | zero=>
   intro k t vb c e1 e2 gr st pb hs hR
   have ek:k+1=n:=by omega
   refine codeAny_builtin F.entry_max_loop ?_
   rw [Around.under_plainId F.plain_max_loop]
   show wpAny (model P w) A.in1 (seqItems? (.ref S) >>= _) _ _ t
   apply wpAny_bind;apply wpAny_seqItems hs rfl
   show wpAny (model P w) A.in1 (tryCatch (pyNext (.ref I)) _ >>= _) _ _ t
   apply wpAny_bind;apply wpAny_tryCatch
   refine W.done t _ _ (ek▸st) fun h' tk kp=>?_
   have hs2:=kp S _ Sw hs
   show wpAny (model P w) A.in1 (updateSeq S (fun _=> #[]) >>= _) _ _ _
   apply wpAny_bind
   refine wpAny_updateSeq hs2 rfl ?_
   apply wpAny_bind;apply wpAny_letGo;apply wpAny_pure
   exact hR vb _ tk (by rw [← ek];exact pb) fun b o q1 q2 q=>(Heap.get?_update_other _ _ (Ne.symm q2)).trans (kp b o q1 q)
 | succ m ih=>
   intro k t vb c e1 e2 gr st pb hs hR
   refine codeAny_builtin F.entry_max_loop ?_
   rw [Around.under_plainId F.plain_max_loop]
   show wpAny (model P w) A.in1 (seqItems? (.ref S) >>= _) _ _ t
   apply wpAny_bind;apply wpAny_seqItems hs rfl
   show wpAny (model P w) A.in1 (tryCatch (pyNext (.ref I)) _ >>= _) _ _ t
   apply wpAny_bind;apply wpAny_tryCatch
   refine W.item (k+1) t _ _ (by omega) st fun v h' tk pv st2 kp=>?_
   have hs2:=kp S _ Sw hs
   have zJ:cP h0 h':=fun b o q=>kp b o (xg b o q).1 (gr b o q)
   show wpAny (model P w) A.in1 (tryCatch (holding [v,v] (richCompare .Gt v vb >>= _)) _ >>= _) _ _ _
   apply wpAny_bind;apply wpAny_tryCatch;apply wpAny_holding;apply wpAny_bind
   refine hc (k+1) (argBest bt k) v vb _ _ _ zJ pv pb ?_
   apply wpAny_bind;apply wpAny_holding;apply wpAny_truthy_bool
   apply wpAny_bind;apply wpAny_letGo;apply wpAny_pure
   cases d:bt (k+1) (argBest bt k) with
   | true=>
     rw [if_pos rfl]
     apply wpAny_bind
     refine wpAny_updateSeq hs2 rfl ?_
     apply wpAny_bind;apply wpAny_letGo
     rw [nm]
     refine wpAny_pure ⟨plainId_quiet F.plain_max_loop _,ih (k+1) _ v _ (by omega) (by omega) (fun b o q=>(Heap.get?_update_other _ _ (Ne.symm (xg b o q).2)).trans (zJ b o q)) (W.frame _ _ _ st2 fun b q1 o q=>(Heap.get?_update_other _ _ (fun z:S=b=>hS (z▸q1))).trans q) (by simp only [argBest,d,if_true];exact pv) (Heap.get?_update_self _ hs2 rfl) fun v2 h2 zK p2 ya=>?_⟩
     exact hR v2 h2 zK p2 fun b o q1 q2 q=>ya b o q1 q2 ((Heap.get?_update_other _ _ (Ne.symm q2)).trans (kp b o q1 q))
   | false=>
     rw [if_neg Bool.false_ne_true]
     apply wpAny_bind;apply wpAny_letGo
     rw [nm]
     refine wpAny_pure ⟨plainId_quiet F.plain_max_loop _,ih (k+1) _ vb c (by omega) (by omega) zJ st2 (by simp only [argBest,d,Bool.false_eq_true,if_false];exact pb) hs2 fun v2 h2 zK p2 ya=>?_⟩
     exact hR v2 h2 zK p2 fun b o q1 q2 q=>ya b o q1 q2 (kp b o q1 q)
theorem xh {h0:Heap} {I S:Addr} {fp wr:List Addr} {n:Nat} {Pr:Nat→Value→Prop} {St:Nat→Heap→Prop} {bt:Nat→Nat→Bool} {R:Result→Shared→Prop} {t:Shared} {c:Nat} (W:Walks P w A.in1 I fp wr n Pr St)
 (hc:∀ (i j:Nat) (vi vj:Value) (t:Shared) (Q:Value→Shared→Prop) (E:Value→Shared→Prop),cP h0 t.heap→Pr i vi→Pr j vj→Q (.bool (bt i j)) t→wpAny (model P w) A.in1 (richCompare .Gt vi vj) Q E t)
 (hS:S∉fp) (xg:∀ b o,h0.get? b=some o→b∉wr∧b≠S) (hn:0 < n) (gr:cP h0 t.heap) (st:St 0 t.heap) (hs:t.heap.get? S=some { cls:= .type "list",dict:=none,data:= .seq #[] c,slots:= #[] })
 (hR:∀ v h' tk,Pr (argBest bt (n - 1)) v→(∀ b o,b∉wr→b≠S→t.heap.get? b=some o→h'.get? b=some o)→R (.ok (.ret v)) { t with heap:=h',toks:=tk }) :
 codeAny (model P w) A (.builtin "max.loop" ⟨[.ref I,.none,.ref S],[]⟩) R t:=by
 have Sw:S∉wr:=fun q=>hS (W.sub _ q)
 have nm:(toString "max" ++ toString ".loop" :String)= "max.loop" :=by decide
 refine codeAny_builtin F.entry_max_loop ?_
 rw [Around.under_plainId F.plain_max_loop]
 show wpAny (model P w) A.in1 (seqItems? (.ref S) >>= _) _ _ t
 apply wpAny_bind;apply wpAny_seqItems hs rfl
 show wpAny (model P w) A.in1 (tryCatch (pyNext (.ref I)) _ >>= _) _ _ t
 apply wpAny_bind;apply wpAny_tryCatch
 refine W.item 0 t _ _ hn st fun v h' tk pv st2 kp=>?_
 have hs2:=kp S _ Sw hs
 have zJ:cP h0 h':=fun b o q=>kp b o (xg b o q).1 (gr b o q)
 show wpAny (model P w) A.in1 (updateSeq S (fun _=> #[v,v]) >>= _) _ _ _
 apply wpAny_bind
 refine wpAny_updateSeq hs2 rfl ?_
 rw [nm]
 refine wpAny_pure ⟨plainId_quiet F.plain_max_loop _,JU W hc hS xg _ 0 _ v _ rfl hn (fun b o q=>(Heap.get?_update_other _ _ (Ne.symm (xg b o q).2)).trans (zJ b o q)) (W.frame _ _ _ st2 fun b q1 o q=>(Heap.get?_update_other _ _ (fun z:S=b=>hS (z▸q1))).trans q) pv (Heap.get?_update_self _ hs2 rfl) fun v2 h2 zK p2 ya=>?_⟩
 exact hR v2 h2 zK p2 fun b o q1 q2 q=>ya b o q1 q2 ((Heap.get?_update_other _ _ (Ne.symm q2)).trans (kp b o q1 q))
theorem Ep {vs:List Value} {bt:Nat→Nat→Bool} {Q:Value→Shared→Prop} (ha:argsOk "max" ⟨vs,[]⟩) (h2:2≤vs.length) (hz:vs.length < 64) (hh:A.handled=none)
 (hc:∀ (i j:Nat) (vi vj:Value) (t:Shared) (Q:Value→Shared→Prop) (E:Value→Shared→Prop),cP s.heap t.heap→vs[i]?=some vi→vs[j]?=some vj→Q (.bool (bt i j)) t→wpAny (model P w) A.in1 (richCompare .Gt vi vj) Q E t)
 (h:∀ v h' tk,vs[argBest bt (vs.length - 1)]?=some v→cP s.heap h'→Q v { s with heap:=h',toks:=tk }):wpAny (model P w) A (call (.builtin "max") vs) Q E s:=by
 have nm:(toString "max" ++ toString ".loop" :String)= "max.loop" :=by decide
 have lz:vs.length≤sizeLine:=by rw [sizeLine_eq];omega
 refine call_function_tree F.kind_max F.plain_max F.entry_max ha ?_
 match vs,h2 with
 | v1 :: v2 :: rest,_=>
   show wpAny (model P w) A.in1 (Builtin.Builtins.bindParams "max" ["key","default"] 0 ⟨[],[]⟩ >>= _) _ _ s
   refine wpAny_bind (wpAny_of_eq (show Builtin.Builtins.bindParams "max" ["key","default"] 0 ⟨[],[]⟩=pure [none,none] from rfl) ?_)
   show wpAny (model P w) A.in1 (newTuple (v1 :: v2 :: rest) >>= _) _ _ s
   refine wpAny_bind (wpAny_newTuple (hsz:=lz) ?_)
   have o4:(s.heap.push { cls:= .type "tuple",data:= .seq (v1 :: v2 :: rest).toArray }).objs.size=s.heap.objs.size+1:=Heap.size_push ..
   have tp:(s.heap.push { cls:= .type "tuple",data:= .seq (v1 :: v2 :: rest).toArray }).IsTuple s.heap.objs.size (v1 :: v2 :: rest).toArray:=⟨_,Heap.get?_push_size _ rfl,rfl,0,rfl⟩
   refine wpAny_bind (wpAny_pyIter_tuple tp ?_)
   generalize hg:s.heap.push { cls:= .type "tuple",data:= .seq (v1 :: v2 :: rest).toArray }=g at o4 tp
   have k0:cP s.heap g:=fun b o q=>by rw [← hg];exact Heap.get?_push_of_some _ q
   apply wpAny_bind
   refine wpAny_newObj_type ?_
   have JT:(g.push { cls:= .type "tuple_iterator",data:= .fields #[.ref s.heap.objs.size,.int 0 0] }).objs.size=s.heap.objs.size+2:=by rw [Heap.size_push,o4]
   rw [nm]
   refine wpAny_pure ⟨plainId_quiet F.plain_max_loop _,xh (h0:=s.heap) (Walks.tuple (A:=A.in1) hh _ s.heap.objs.size (by rw [o4];exact Nat.ne_of_lt (Nat.lt_succ_self _)) (v1 :: v2 :: rest).toArray) (bt:=bt) (fun i j vi vj t Q E g1 p1 p2 q=>hc i j vi vj t Q E g1 (by simpa using p1) (by simpa using p2) q) ?_ (fun b o q=>?_) (by simp) (fun b o q=>Heap.get?_push_of_some _ (Heap.get?_push_of_some _ (k0 b o q))) ⟨⟨_,Heap.get?_push_of_some _ (Heap.get?_push_size _ rfl),rfl,rfl⟩,(tp.push _).push _⟩ (Heap.get?_push_size _ rfl) fun v h' tk p kp=>?_⟩
   ·intro q
    rw [o4,JT] at q
    rcases List.mem_cons.mp q with q | q
    ·exact absurd q (by intro z;exact absurd (Nat.succ.inj z) (Nat.succ_ne_self _))
    ·have q:=List.mem_singleton.mp q
     exact absurd q (by intro z;have:s.heap.objs.size+2=s.heap.objs.size:=z;omega)
   ·have lb:=Heap.lt_size q
    rw [o4,JT]
    refine ⟨fun z=>?_,fun z=>?_⟩
    ·have z:=List.mem_singleton.mp z
     rw [z] at lb
     exact absurd lb (Nat.not_lt.mpr (Nat.le_succ _))
    ·rw [z] at lb
     exact absurd lb (Nat.not_lt.mpr (Nat.le_add_right _ 2))
   ·refine h v h' tk (by simpa using p) fun b o q=>?_
    have lb:=Heap.lt_size q
    refine kp b o (fun z=>?_) (fun z=>?_) (Heap.get?_push_of_some _ (Heap.get?_push_of_some _ (k0 b o q)))
    ·have z:=List.mem_singleton.mp z
     rw [z,o4] at lb
     exact absurd lb (Nat.not_lt.mpr (Nat.le_succ _))
    ·rw [z,JT] at lb
     exact absurd lb (Nat.not_lt.mpr (Nat.le_add_right _ 2))
end
end L3
namespace HT
open PySem PyProof.Rows
theorem Er (A:Around) (s:Shared) (a:Int) (t:Tok) (c:Int) (u:Tok) (prog:Program) (w:World) (E:Value→Shared→Prop) (Q:Value→Shared→Prop) (h:Q (.bool (decide (c < a))) s) :
 wpAny (model prog w) A (richCompare .Gt (.int a t) (.int c u)) Q E s:=
 (PyProof.Rows.gt_int h:wpAny (model prog w) A (compareOp .Gt (.int a t) (.int c u)) Q E s)
section
open PySem.SeqAt
open PySem.AutoSeq1 (wpAny_loadPart')
open PySem.MeetsSeq PySem.MeetsSeq2 PySem.MeetsSeq3
theorem vG (l b:Addr) (items items2:Array Value) (n n2:Nat) (dd dd2:Option Addr) (sl sl2:Array (Option Value)) (ns ms:List Int) (hi:IntsAre items.toList ns) (hj:IntsAre items2.toList ms) :
 Meets (Builtin.«tuple.__gt__» ⟨[.ref l,.ref b],[]⟩)
  (fun _ R s=>s.heap.get? l=some { cls:= .type "tuple",dict:=dd,data:= .seq items n,slots:=sl }∧s.heap.get? b=some { cls:= .type "tuple",dict:=dd2,data:= .seq items2 n2,slots:=sl2 }∧
   R (.ok (.ret (.bool (lexLt ms ns)))) s):=
 .of_wp fun prog w A R s h=>by
  obtain ⟨hp,g,d,tk,os⟩:=s;obtain ⟨hl,hb,h⟩:=h
  have f2:=AutoSeq1.sub_tuple_tuple
  have z1:items.size=ns.length:=by rw [← hi.length];simp
  have z2:items2.size=ms.length:=by rw [← hj.length];simp
  wp_walk using wpAny_loadPart' hl,wpAny_loadPart' hb,wpAny_forIn_list _ (fun rest b s'=>b.1=none∧s'= ⟨hp,g,d,tk,os⟩∧∃ (vs ws:List Value) (ns' ms':List Int),rest=vs.zip ws∧
   IntsAre vs ns'∧IntsAre ws ms'∧ns'.length+items2.size=ms'.length+items.size∧R (.ok (.ret (.bool (lexLt ms' ns')))) ⟨hp,g,d,tk,os⟩) _
  case turn=>
   rintro ⟨y,x⟩ rest b s' ⟨hb',rfl,vs,ws,ns',ms',hz,DT,hwi,hlen,hR⟩
   cases DT with
   | nil=>rw [List.zip_nil_left] at hz;cases hz
   | cons a t DU=>
     cases hwi with
     | nil=>rw [List.zip_nil_right] at hz;cases hz
     | cons c u DV=>
       rw [List.zip_cons_cons] at hz
       injection hz with hyx hrest
       injection hyx with hy hx
       subst hy hx
       rw [lQ] at hR
       simp only [List.length_cons] at hlen
       obtain ⟨e,he,hiff⟩:=zx A.in1 ⟨hp,g,d,tk,os⟩ a t c u
       refine wpAny_bind (he prog w _ _ ?_)
       cases e with
       | true=>
         rw [if_pos (hiff.mp rfl).symm] at hR
         wp_walk
         exact ⟨rfl,rfl,_,_,_,_,hrest,DU,DV,by omega,hR⟩
       | false=>
         rw [if_neg (fun q=>absurd (hiff.mpr q.symm) Bool.false_ne_true)] at hR
         have LG:=Er A.in1 ⟨hp,g,d,tk,os⟩ a t c u prog w
         wp_walk using LG
         exact ⟨_,rfl,by simpa using hR⟩
  case fin=>
   rintro ⟨b1,b2⟩ s' ⟨hb',rfl,vs,ws,ns',ms',hz,DT,hwi,hlen,hR⟩
   simp only at hb'
   subst hb'
   have hv:lexLt ms' ns'=decide (items.size > items2.size):=by
    cases DT with
    | nil=>
      cases hwi with
      | nil=>
        simp only [List.length_nil] at hlen
        rw [jO]
        exact (decide_eq_false (by omega)).symm
      | cons c u hw=>
        simp only [List.length_nil,List.length_cons] at hlen
        rw [nJ]
        exact (decide_eq_false (by omega)).symm
    | cons a t hv=>
      cases hwi with
      | nil=>
        simp only [List.length_nil,List.length_cons] at hlen
        rw [nI]
        exact (decide_eq_true (by omega)).symm
      | cons c u hw=>
        rw [List.zip_cons_cons] at hz
        cases hz
   rw [hv] at hR
   wp_walk
   exact ⟨_,rfl,by simpa [Builtin.Tuple.tupleCompareSizes] using hR⟩
  case h=>
   exact ⟨rfl,rfl,items.toList,items2.toList,ns,ms,rfl,hi,hj,by omega,h⟩
end
section
variable {prog:Program} {w:World} {A:Around} {E:Value→Shared→Prop} {s:Shared}
theorem tT {l b:Addr} {items items2:Array Value} {ns ms:List Int} {Q:Value→Shared→Prop} (hl:IsTup s.heap l items) (hb:IsTup s.heap b items2) (hi:IntsAre items.toList ns) (hj:IntsAre items2.toList ms)
 (hu:A.units < cLine) (h:Q (.bool (lexLt ms ns)) s):wpAny (model prog w) A (compareOp .Gt (.ref l) (.ref b)) Q E s:=by
 obtain ⟨⟨cls,dd,data,sl⟩,ho,hc,n,hd⟩:=id hl
 obtain ⟨⟨Ju,dd2,data2,sl2⟩,ho2,hc2,n2,hd2⟩:=id hb
 simp only at hc hd hc2 hd2
 subst hc hd hc2 hd2
 exact richCompare_meets_room (op:= .Gt) ⟨_,ho,rfl⟩ ⟨_,ho2,rfl⟩ PySem.F.slot_tuple_gt PySem.F.entry_tuple_gt (PySem.F.args_tuple_gt_2 _ _) (vG l b items items2 n n2 dd dd2 sl sl2 ns ms hi hj)
  ⟨ho,ho2,show Value.bool (lexLt ms ns)≠Value.notImplemented∧Q (.bool (lexLt ms ns)) s from ⟨(fun x=>nomatch x),h⟩⟩ hu
end
end HT
namespace L3
open PySem PySem.Spec PyProof.Rows L2
section
variable {X:Cx} {pos:Pos}
theorem cM (p q:Pl):HT.lexLt [p.x,p.y] [q.x,q.y]=decide (aT p q):=by
 rw [HT.lQ,HT.lQ,HT.jO]
 by_cases ex:p.x=q.x
 ·rw [if_pos ex]
  by_cases ey:p.y=q.y
  ·rw [if_pos ey];exact (decide_eq_false (by unfold aT;omega)).symm
  ·rw [if_neg ey,decide_eq_decide];unfold aT;omega
 ·rw [if_neg ex,decide_eq_decide];unfold aT;omega
theorem Es {P:Program} {w:World} {K:PySem.W.Frag} {H:Hp} {h:Heap} {p:Pl} {x:V} {u:Value} (ok:nF P w H h) (d:Dat K H p.d x) (r:RelV x u):pK h u p:=by
 obtain ⟨a,xs,rfl,ha,hx⟩:=bB.mp d
 obtain rfl:u=Value.ref a:=r
 obtain ⟨its,rv,⟨o,h1,h2,n,h3⟩,_⟩:=eO ok ha
 obtain ⟨v1,v2,rfl,d1,d2⟩:=tK hx
 obtain rfl:=aU.mp d1
 obtain rfl:=aU.mp d2
 obtain ⟨u1,u2,rfl,⟨t1,rfl⟩,⟨t2,rfl⟩⟩:=vals2 rv
 exact ⟨a,o,t1,t2,n,rfl,h1,h2,h3⟩
theorem pK.tup {h:Heap} {v:Value} {p:Pl} (a:pK h v p):∃ (l:Addr) (its:Array Value),v= .ref l∧IsTup h l its∧IntsAre its.toList [p.x,p.y]:=by
 obtain ⟨b,o,t,u,n,h1,h2,h3,h4⟩:=a
 exact ⟨b,_,h1,⟨o,h2,h3,n,h4⟩,.cons _ _ (.cons _ _ .nil)⟩
def dh (h:Heap):List Value→List Pl→Prop:=Paired (pK h)
theorem eX {P:Program} {w:World} {K:PySem.W.Frag} {H:Hp} {h:Heap} (ok:nF P w H h):∀ {ps:List Pl} {xs:List V} {us:List Value},aL K H (ps.map Pl.d) xs→Vals xs us→dh h us ps
 | [],xs,us,d,r=>by rw [aS.mp d] at r;cases r;exact .nil
 | p :: ps,xs,us,d,r=>by
   obtain ⟨v,vs,rfl,d1,d2⟩:=aP.mp d
   cases r with
   | cons r rr=>exact .cons (Es ok d1 r) (eX ok d2 rr)
theorem dh.get {h:Heap}:∀ {us:List Value} {ps:List Pl} {i:Nat} {u:Value},dh h us ps→us[i]?=some u→∃ p,ps[i]?=some p∧pK h u p
 | _,_,i,u,.nil,e=>by simp at e
 | _,_,i,u,.cons a r,e=>by
   cases i with
   | zero=>simp at e;subst e;exact ⟨_,rfl,a⟩
   | succ i=>exact dh.get (i:=i) r (by simpa using e)
theorem Vals.len {xs:List V} {us:List Value} (r:Vals xs us):us.length=xs.length:=(Vals.length r).symm
def bestOf (lt:Pl→Pl→Bool) (ps:List Pl) (i j:Nat):Bool:=lt (ps.getD i ⟨0,0⟩) (ps.getD j ⟨0,0⟩)
def Iw (lt:Pl→Pl→Bool):List D→Mp→DK→Prop:=fun ds M Q=> ∃ ps:List Pl,ds=ps.map Pl.d∧2≤ps.length∧ps.length≤4∧Q (ps.getD (argBest (bestOf lt ps) (ps.length - 1)) ⟨0,0⟩).d M
theorem pW (bt:Nat→Nat→Bool):∀ n,argBest bt n≤n
 | 0=>Nat.le_refl 0
 | n+1=>by
   unfold argBest
   split
   ·exact Nat.le_refl _
   ·exact Nat.le_succ_of_le (pW bt n)
theorem GY (a b:Value):argsOk "min" ⟨[a,b],[]⟩:=by unfold argsOk;kernel_rfl
theorem GZ (a b c:Value):argsOk "min" ⟨[a,b,c],[]⟩:=by unfold argsOk;kernel_rfl
theorem G0 (a b c d:Value):argsOk "min" ⟨[a,b,c,d],[]⟩:=by unfold argsOk;kernel_rfl
theorem JV:∀ (vs:List Value),2≤vs.length→vs.length≤4→argsOk "min" ⟨vs,[]⟩:=by
 intro vs h2 h4
 cases vs with
 | nil=>exact absurd h2 (by decide)
 | cons a vs=>
   cases vs with
   | nil=>exact absurd h2 (by simp)
   | cons b vs=>
     cases vs with
     | nil=>exact GY a b
     | cons c vs=>
       cases vs with
       | nil=>exact GZ a b c
       | cons d vs=>
         cases vs with
         | nil=>exact G0 a b c d
         | cons e vs=>exact absurd h4 (by simp only [List.length_cons];omega)
theorem G1 (a b:Value):argsOk "max" ⟨[a,b],[]⟩:=by unfold argsOk;kernel_rfl
theorem G2 (a b c:Value):argsOk "max" ⟨[a,b,c],[]⟩:=by unfold argsOk;kernel_rfl
theorem G3 (a b c d:Value):argsOk "max" ⟨[a,b,c,d],[]⟩:=by unfold argsOk;kernel_rfl
theorem JW:∀ (vs:List Value),2≤vs.length→vs.length≤4→argsOk "max" ⟨vs,[]⟩:=by
 intro vs h2 h4
 cases vs with
 | nil=>exact absurd h2 (by decide)
 | cons a vs=>
   cases vs with
   | nil=>exact absurd h2 (by simp)
   | cons b vs=>
     cases vs with
     | nil=>exact G1 a b
     | cons c vs=>
       cases vs with
       | nil=>exact G2 a b c
       | cons d vs=>
         cases vs with
         | nil=>exact G3 a b c d
         | cons e vs=>exact absurd h4 (by simp only [List.length_cons];omega)
theorem JX (hu:X.A.units+64 < cLine) (hc:X.calm=true):Call3 X (.builtin "min") (Iw fun p q=>decide (aT p q)):=by
 constructor
 intro pins s σ H M xs ds us Q I rm rs dx ⟨ps,e,h2,h4,q⟩
 subst e
 have hl:us.length=ps.length:=by rw [Vals.len rs,← dx.length,List.length_map]
 have hp:=eX I.hok dx rs
 refine Eo (JV us (by omega) (by omega)) (by omega) (by omega) (I.ok.hd hc) (bt:=bestOf (fun p q=>decide (aT p q)) ps) (fun i j vi vj t Q E g e1 e2 q=>?_) fun v h' tk e g=>?_
 ·obtain ⟨p1,f1,a1⟩:=hp.get e1
  obtain ⟨p2,f2,a2⟩:=hp.get e2
  obtain ⟨l1,i1,rfl,t1,n1⟩:=(a1.grow g).tup
  obtain ⟨l2,i2,rfl,t2,n2⟩:=(a2.grow g).tup
  have eb:bestOf (fun p q=>decide (aT p q)) ps i j=decide (aT p1 p2):=by unfold bestOf;rw [List.getD_eq_getElem?_getD,List.getD_eq_getElem?_getD,f1,f2];rfl
  rw [eb,← cM] at q
  exact (HT.fm t1 t2 n1 n2 (by show X.A.units+1 < cLine;omega) q:wpAny (model X.prog X.w) X.A.in1 (compareOp .Lt (.ref l1) (.ref l2)) Q E t)
 ·rw [hl] at e
  obtain ⟨x,ex,rx⟩:∃ x,xs[argBest (bestOf (fun p q=>decide (aT p q)) ps) (ps.length - 1)]?=some x∧RelV x v:=by
   have lt:argBest (bestOf (fun p q=>decide (aT p q)) ps) (ps.length - 1) < xs.length:=by
    have:=pW (bestOf (fun p q=>decide (aT p q)) ps) (ps.length - 1)
    rw [← dx.length,List.length_map];omega
   obtain ⟨u,eu,ru⟩:=Vals.get rs (List.getElem?_eq_getElem lt)
   rw [e] at eu
   cases eu
   exact ⟨_,List.getElem?_eq_getElem lt,ru⟩
  obtain ⟨d,ed,dd⟩:=dx.back ex
  rw [List.getElem?_map] at ed
  have eq:d=(ps.getD (argBest (bestOf (fun p q=>decide (aT p q)) ps) (ps.length - 1)) ⟨0,0⟩).d:=by
   rw [List.getD_eq_getElem?_getD]
   cases z:ps[argBest (bestOf (fun p q=>decide (aT p q)) ps) (ps.length - 1)]? with
   | none=>rw [z] at ed;cases ed
   | some p=>rw [z] at ed;cases ed;rfl
  subst eq
  exact ⟨x,H,I.kept g,rx,aG rm dd q⟩
theorem JY (hu:X.A.units+64 < cLine) (hc:X.calm=true):Call3 X (.builtin "max") (Iw fun p q=>decide (aT q p)):=by
 constructor
 intro pins s σ H M xs ds us Q I rm rs dx ⟨ps,e,h2,h4,q⟩
 subst e
 have hl:us.length=ps.length:=by rw [Vals.len rs,← dx.length,List.length_map]
 have hp:=eX I.hok dx rs
 refine Ep (JW us (by omega) (by omega)) (by omega) (by omega) (I.ok.hd hc) (bt:=bestOf (fun p q=>decide (aT q p)) ps) (fun i j vi vj t Q E g e1 e2 q=>?_) fun v h' tk e g=>?_
 ·obtain ⟨p1,f1,a1⟩:=hp.get e1
  obtain ⟨p2,f2,a2⟩:=hp.get e2
  obtain ⟨l1,i1,rfl,t1,n1⟩:=(a1.grow g).tup
  obtain ⟨l2,i2,rfl,t2,n2⟩:=(a2.grow g).tup
  have eb:bestOf (fun p q=>decide (aT q p)) ps i j=decide (aT p2 p1):=by unfold bestOf;rw [List.getD_eq_getElem?_getD,List.getD_eq_getElem?_getD,f1,f2];rfl
  rw [eb,← cM] at q
  exact (HT.tT t1 t2 n1 n2 (by show X.A.units+1 < cLine;omega) q:wpAny (model X.prog X.w) X.A.in1 (compareOp .Gt (.ref l1) (.ref l2)) Q E t)
 ·rw [hl] at e
  obtain ⟨x,ex,rx⟩:∃ x,xs[argBest (bestOf (fun p q=>decide (aT q p)) ps) (ps.length - 1)]?=some x∧RelV x v:=by
   have lt:argBest (bestOf (fun p q=>decide (aT q p)) ps) (ps.length - 1) < xs.length:=by
    have:=pW (bestOf (fun p q=>decide (aT q p)) ps) (ps.length - 1)
    rw [← dx.length,List.length_map];omega
   obtain ⟨u,eu,ru⟩:=Vals.get rs (List.getElem?_eq_getElem lt)
   rw [e] at eu
   cases eu
   exact ⟨_,List.getElem?_eq_getElem lt,ru⟩
  obtain ⟨d,ed,dd⟩:=dx.back ex
  rw [List.getElem?_map] at ed
  have eq:d=(ps.getD (argBest (bestOf (fun p q=>decide (aT q p)) ps) (ps.length - 1)) ⟨0,0⟩).d:=by
   rw [List.getD_eq_getElem?_getD]
   cases z:ps[argBest (bestOf (fun p q=>decide (aT q p)) ps) (ps.length - 1)]? with
   | none=>rw [z] at ed;cases ed
   | some p=>rw [z] at ed;cases ed;rfl
  subst eq
  exact ⟨x,H,I.kept g,rx,aG rm dd q⟩
def Rz:List D→Mp→DK→Prop:=fun ds M Q=> ∃ p q:Pl,ds= [p.d,q.d]∧Q (lo p q).d M
def RA:List D→Mp→DK→Prop:=fun ds M Q=> ∃ p q:Pl,ds= [p.d,q.d]∧Q (hi p q).d M
theorem Call3.imp {f:Value} {r r':List D→Mp→DK→Prop} (h:Call3 X f r) (g:∀ ds M Q,r' ds M Q→r ds M Q):Call3 X f r':=
 ⟨fun pins s σ H M xs ds us Q I rm rs dx q=>h.run pins s σ H M xs ds us Q I rm rs dx (g _ _ _ q)⟩
theorem O1 (hu:X.A.units+64 < cLine) (hc:X.calm=true):Call3 X (.builtin "min") Rz:=(JX hu hc).imp fun ds M Q ⟨p,q,e,h⟩=>by
 refine ⟨[p,q],e,Nat.le_refl 2,Nat.le_add_right 2 2,?_⟩
 have e: [p,q].getD (argBest (bestOf (fun p q=>decide (aT p q)) [p,q]) ([p,q].length - 1)) ⟨0,0⟩=lo p q:=by
  have a:argBest (bestOf (fun p q=>decide (aT p q)) [p,q]) ([p,q].length - 1)=if decide (aT q p)=true then 1 else 0:=rfl
  rw [a]
  unfold lo
  by_cases c:aT q p
  ·rw [if_pos c,if_pos (decide_eq_true c)];rfl
  ·rw [if_neg c,if_neg (fun z=>c (of_decide_eq_true z))];rfl
 rw [e];exact h
theorem O2 (hu:X.A.units+64 < cLine) (hc:X.calm=true):Call3 X (.builtin "max") RA:=(JY hu hc).imp fun ds M Q ⟨p,q,e,h⟩=>by
 refine ⟨[p,q],e,Nat.le_refl 2,Nat.le_add_right 2 2,?_⟩
 have e: [p,q].getD (argBest (bestOf (fun p q=>decide (aT q p)) [p,q]) ([p,q].length - 1)) ⟨0,0⟩=hi p q:=by
  have a:argBest (bestOf (fun p q=>decide (aT q p)) [p,q]) ([p,q].length - 1)=if decide (aT p q)=true then 1 else 0:=rfl
  rw [a]
  unfold hi
  by_cases c:aT p q
  ·rw [if_pos c,if_pos (decide_eq_true c)];rfl
  ·rw [if_neg c,if_neg (fun z=>c (of_decide_eq_true z))];rfl
 rw [e];exact h
noncomputable def qq (h:Heap) (v:Value):Pl:=Option.getD (α:=Pl) ((x8 h).keyOf v) ⟨0,0⟩
theorem Cg {h:Heap} {v:Value} {p:Pl} (a:pK h v p):qq h v=p:=by
 unfold qq
 have e:(x8 h).keyOf v=some p:=x9 a
 exact congrArg (fun o=>Option.getD (α:=Pl) o ⟨0,0⟩) e
theorem dh.keys {h:Heap}:∀ {us:List Value} {ps:List Pl},dh h us ps→us.map (qq h)=ps
 | _,_,.nil=>rfl
 | _,_,.cons a r=>by rw [List.map_cons,Cg a,dh.keys r]
theorem dh.mem {h:Heap}:∀ {us:List Value} {ps:List Pl} {v:Value},dh h us ps→v∈us→∃ p,pK h v p
 | _,_,v,.nil,m=>by cases m
 | _,_,v,.cons a r,m=>by
   rcases List.mem_cons.mp m with rfl | m
   ·exact ⟨_,a⟩
   ·exact dh.mem r m
theorem cQ {α:Type}:∀ {vs:List α} {p:α ×α},p∈vs.zip vs→p.1=p.2∧p.1∈vs
 | [],p,m=>by simp at m
 | v :: vs,p,m=>by
   rw [List.zip_cons_cons] at m
   rcases List.mem_cons.mp m with rfl | m
   ·exact ⟨rfl,List.mem_cons_self ..⟩
   ·exact ⟨(cQ m).1,List.mem_cons_of_mem _ (cQ m).2⟩
theorem vI {P:Program} {w:World} {A:Around} {E:Value→Shared→Prop} {s:Shared} {l:Addr} {vs:List Value} {ps:List Pl} {Q:Value→Shared→Prop} (hl:s.heap.IsList l vs.toArray) (hv:dh s.heap vs ps) (h64:vs.length < 64)
 (h:∀ (out:List Value) (qs:List Pl),(∀ v∈out,v∈vs)→qs=out.map (qq s.heap)→qs.Perm ps→qs.Pairwise (fun p q=> ¬ aT q p)→Q (.ref (s.heap.objs.size+1)) { s with heap:=sortedAll s.heap vs out.toArray }) :
 wpAny (model P w) A (call (.builtin "sorted") [.ref l]) Q E s:=by
 have hk:KeysOf (x8 s.heap) (pairsOf vs):=fun p hp=>by
  rw [pairsOf_toList] at hp
  obtain ⟨q,a⟩:=hv.mem (cQ hp).2
  exact ⟨q,x9 a⟩
 refine w5 (κ:=x8 s.heap) (kd:=tuples' true) hl hk (fun t E Q g h2 q=>Cf (by omega) (fun v m=>?_) q) (fun t g=>Em g true) h64 fun y hp hs=>?_
 ·obtain ⟨p,a⟩:=hv.mem m
  exact ⟨p,a.grow g⟩
 ·have pl:y.toList.Perm (vs.zip vs):=by rw [← pairsOf_toList];exact Array.perm_iff_toList_perm.mp hp
  have same:∀ p∈y.toList,p.1=p.2∧p.1∈vs:=fun p m=>cQ (pl.mem_iff.mp m)
  have eo:y.map (·.2)=(y.toList.map (·.2)).toArray:=by rw [← Array.toList_map,Array.toArray_toList]
  rw [eo]
  refine h (y.toList.map (·.2)) _ (fun v m=>?_) rfl ?_ ?_
  ·obtain ⟨p,m2,rfl⟩:=List.mem_map.mp m
   rw [← (same p m2).1];exact (same p m2).2
  ·have q:=(pl.map (fun p=>p.2)).map (qq s.heap)
   have e:(vs.zip vs).map (fun p=>p.2)=vs:=List.map_snd_zip (Nat.le_refl _)
   rw [e,hv.keys] at q
   exact q
  ·rw [List.pairwise_iff_getElem]
   intro i j hi hj hij
   have li:i < y.size:=by simpa using hi
   have lj:j < y.size:=by simpa using hj
   have q:=hs i j (Nat.le_of_lt hij) (by rw [← hp.size_eq];exact lj)
   have key:∀ k (hk:k < y.size),KK (x8 s.heap) y k=qq s.heap y[k].2:=fun k hk=>by
    unfold KK
    rw [getElem?_pos y k hk]
    show Option.getD (α:=Pl) ((x8 s.heap).keyOf y[k].1) ⟨0,0⟩=_
    rw [(same y[k] (by simp)).1]
    rfl
   have q:(x8 s.heap).blt (KK (x8 s.heap) y j) (KK (x8 s.heap) y i)=false:=q
   rw [key i li,key j lj] at q
   have q:decide (aT (qq s.heap y[j].2) (qq s.heap y[i].2))=false:=q
   simpa using of_decide_eq_false q
def G4:List D→Mp→DK→Prop:=fun ds M Q=> ∃ (l:Addr) (ps:List Pl),ds= [.ref l]∧M l=some (.lst (ps.map Pl.d))∧ps.length < 64∧∀ (p:Addr) (qs:List Pl),M p=none→qs.Perm ps→qs.Pairwise (fun p q=> ¬ aT q p)→Q (.ref p) (aA M p (.lst (qs.map Pl.d)))
theorem qX {K:PySem.W.Frag} {H:Hp} {h:Heap} {P:Program} {w:World} (ok:nF P w H h) {ps:List Pl} {zs:List V} {vs:List Value} (d:aL K H (ps.map Pl.d) zs) (r:Vals zs vs):∀ (out:List Value),(∀ v∈out,v∈vs)→
 ∃ ws,Vals ws out∧aL K H ((out.map (qq h)).map Pl.d) ws
 | [],_=>⟨[],.nil,aS.mpr rfl⟩
 | v :: out,m=>by
   obtain ⟨ws,h1,h2⟩:=qX ok d r out fun u hu=>m u (List.mem_cons_of_mem _ hu)
   have one:∀ {ps:List Pl} {zs:List V} {vs:List Value},aL K H (ps.map Pl.d) zs→Vals zs vs→v∈vs→∃ (p:Pl) (x:V),RelV x v∧Dat K H p.d x:=by
    intro ps
    induction ps with
    | nil=>intro zs vs d r m;rw [aS.mp d] at r;cases r;cases m
    | cons p ps ih=>
      intro zs vs d r m
      obtain ⟨x,xs,rfl,d1,d2⟩:=aP.mp d
      cases r with
      | cons r1 r2=>
        rcases List.mem_cons.mp m with rfl | m
        ·exact ⟨p,x,r1,d1⟩
        ·exact ih d2 r2 m
   obtain ⟨p,x,rx,dx⟩:=one d r (m v (List.mem_cons_self ..))
   refine ⟨x :: ws,.cons rx h1,?_⟩
   rw [List.map_cons,List.map_cons,Cg (Es ok dx rx)]
   exact aP.mpr ⟨x,ws,rfl,dx,h2⟩
theorem kQ:Call3 X (.builtin "sorted") G4:=by
 constructor
 intro pins s σ H M xs ds us Q I rm rs dx ⟨l,ps,e,hM,h64,q⟩
 subst e
 obtain ⟨v,rfl,hv⟩:=jx dx
 obtain rfl:=aO.mp hv
 obtain ⟨u,rfl,r1⟩:=vals1 rs
 obtain rfl:u=Value.ref l:=r1
 obtain ⟨zs,hH,hz⟩:=rm.lst hM
 obtain ⟨its,rv,pl,hsz⟩:=I.list (gO.of (K:=X.K) hH)
 have hl:its.length=ps.length:=by rw [Vals.len rv,← hz.length,List.length_map]
 refine vI pl.isList (eX I.hok hz rv) (by omega) fun out qs hm eq hp hs=>?_
 obtain ⟨ws,w1,w2⟩:=qX I.hok hz rv out hm
 rw [← eq] at w2
 obtain ⟨n,hn⟩:=sortedAll_at s.heap its out.toArray
 have fr:H (s.heap.objs.size+1)=none:=I.hok.fresh (Nat.le_succ _)
 have zw:ws.length≤sizeLine:=by
  rw [← w2.length,List.length_map,hp.length_eq,sizeLine_eq];omega
 refine ⟨.ref (s.heap.objs.size+1),upd H (s.heap.objs.size+1) (.lst ws),I.laid (t':=s.toks) (fun b o e=>sortedAll_old e) (Nat.le_succ _) ⟨zw,out,n,w1,hn⟩,rfl,.ref _,aA M _ (.lst (qs.map Pl.d)),Fr.new fr fun _ hb=>bG hb,aO.mpr rfl,rm.newL fr w2,q _ _ (rm.free fr) hp hs⟩
end
end L3
local macro_rules | `(tactic| walk_at "sm")=> `(tactic| first | assumption | exact L3.Sm.sign _ | exact L3.Sm.zero | exact L3.Sm.one | exact L3.Sm.two | ((with_reducible apply L3.Sm.mul) <;> walk_at "sm") | ((with_reducible apply L3.Sm.sub) <;> walk_at "sm") | ((with_reducible apply L3.Sm.add) <;> walk_at "sm") | ((with_reducible apply L3.Sm.neg) <;> walk_at "sm") | ((with_reducible apply L3.Sm.abs) <;> walk_at "sm") | ((with_reducible apply L3.Sm.emod);(first | omega | decide +kernel);walk_at "sm") | exact L3.Sm.lit _)
local macro_rules | `(tactic| walk_at "mulok")=> `(tactic| (apply L3.MulOk.of;walk_at "sm";walk_at "sm";first | omega | decide +kernel))
local macro_rules | `(tactic| walk_at "rd1")=> `(tactic| first | refine ⟨_,rfl,?_⟩ | refine ⟨_,_,rfl,rfl,?_⟩ | refine ⟨_,_,_,Or.inl rfl,rfl,rfl,?_⟩ | (refine ⟨?side,?_⟩;(case side=>first | walk_at "mulok" | (simp only [List.length_cons,List.length_nil];decide) | (show (0:Int) < _;first | omega | (dsimp only;omega) | decide +kernel) | (show (0:Int)≤_;first | omega | (dsimp only;omega)) | exact ⟨by decide +kernel,by decide +kernel,by decide +kernel⟩ | exact ⟨by decide +kernel,_,L3.Sm.lit _,by decide +kernel⟩ | (left;walk_at "mulok") | exact Or.inr (Or.inr ⟨by decide,by decide⟩) | decide)) | refine ⟨rfl,?_⟩ | refine ⟨trivial,?_⟩ | refine ⟨_,Or.inl rfl,rfl,?_⟩ | refine ⟨_,_,rfl,Or.inl rfl,?_⟩ | refine ⟨_,_,_,_,rfl,L3.Eb.int _,L3.bZ,?_⟩ | refine ⟨_,_,_,_,rfl,L3.Eb.tup _,L3.bZ,?_⟩ | refine ⟨_,_,_,_,rfl,L3.Eb.bl _,L3.bZ,?_⟩ | refine ⟨_,_,rfl,?_⟩ | refine ⟨_,_,_,rfl,?_⟩ | refine ⟨_,_,_,_,rfl,?_⟩)
local macro_rules | `(tactic| walk_at "rd")=> `(tactic| repeat walk_at "rd1")
local macro_rules | `(tactic| walk_at "smle")=> `(tactic| (apply L3.Sm.le;walk_at "sm";first | omega | decide +kernel))
local macro_rules | `(tactic| walk_at "om")=> `(tactic| first | omega | (dsimp only;omega))
namespace L3
open PySem L2
theorem nQ {a b c:Pl} (ha:a.Ok 140) (hb:b.Ok 140) (hc:c.Ok 140):Sm 290 (tw a b c):=by
 obtain ⟨a1,a2⟩:=ha
 obtain ⟨b1,b2⟩:=hb
 obtain ⟨c1,c2⟩:=hc
 unfold tw
 walk_at "smle"
theorem AY {p q:Pl} (hp:p.Ok 140) (hq:q.Ok 140):Sm 290 (qm p q):=by
 obtain ⟨p1,p2⟩:=hp
 obtain ⟨q1,q2⟩:=hq
 unfold qm
 walk_at "smle"
theorem O3 (a b c d:Pl):inD d.d [a.d,b.d,c.d]=decide (d=a∨d=b∨d=c):=by
 unfold inD
 rw [List.any_cons,List.any_cons,List.any_cons,List.any_nil,cL,cL,cL,Bool.or_false,Bool.eq_iff_iff]
 simp only [Bool.or_eq_true,decide_eq_true_eq]
 grind
theorem nR {α:Type} {qs:List α} (h:qs.length=3):∃ u v w,qs= [u,v,w]:=by
 match qs,h with
 | [u,v,w],_=>exact ⟨u,v,w,rfl⟩
theorem Et {α:Type} {v w b c:α} (h: [v,w].Perm [b,c]):(v=b∧w=c)∨(v=c∧w=b):=by
 have m:v∈[b,c]:=h.mem_iff.mp (by simp)
 rcases List.mem_cons.mp m with rfl | m
 ·exact .inl ⟨rfl,by have:=(List.perm_cons v).mp h;simpa using this⟩
 ·have:=List.mem_singleton.mp m
  subst this
  have h2:=(List.perm_cons v).mp (h.trans (List.Perm.swap v b []))
  exact .inr ⟨rfl,by simpa using h2⟩
theorem tU {α:Type} {u v w a b c:α} (h: [u,v,w].Perm [a,b,c]):(u=a∧v=b∧w=c)∨(u=a∧v=c∧w=b)∨(u=b∧v=a∧w=c)∨(u=b∧v=c∧w=a)∨(u=c∧v=a∧w=b)∨(u=c∧v=b∧w=a):=by
 have m:u∈[a,b,c]:=h.mem_iff.mp (by simp)
 rcases List.mem_cons.mp m with rfl | m
 ·rcases Et ((List.perm_cons u).mp h) with ⟨e1,e2⟩ | ⟨e1,e2⟩
  ·exact .inl ⟨rfl,e1,e2⟩
  ·exact .inr (.inl ⟨rfl,e1,e2⟩)
 ·rcases List.mem_cons.mp m with rfl | m
  ·have h2:=(List.perm_cons u).mp (h.trans (List.Perm.swap u a [c]))
   rcases Et h2 with ⟨e1,e2⟩ | ⟨e1,e2⟩
   ·exact .inr (.inr (.inl ⟨rfl,e1,e2⟩))
   ·exact .inr (.inr (.inr (.inl ⟨rfl,e1,e2⟩)))
  ·have:=List.mem_singleton.mp m
   subst this
   have h2:=(List.perm_cons u).mp (h.trans ((List.Perm.cons a (List.Perm.swap u b [])).trans (List.Perm.swap u a [b])))
   rcases Et h2 with ⟨e1,e2⟩ | ⟨e1,e2⟩
   ·exact .inr (.inr (.inr (.inr (.inl ⟨rfl,e1,e2⟩))))
   ·exact .inr (.inr (.inr (.inr (.inr ⟨rfl,e1,e2⟩))))
theorem tW {n:Nat} {u v w a b c:Pl} (h: [u,v,w].Perm [a,b,c]) (ha:a.Ok n) (hb:b.Ok n) (hc:c.Ok n):u.Ok n∧v.Ok n∧w.Ok n:=by
 rcases tU h with ⟨rfl,rfl,rfl⟩ | ⟨rfl,rfl,rfl⟩ | ⟨rfl,rfl,rfl⟩ | ⟨rfl,rfl,rfl⟩ | ⟨rfl,rfl,rfl⟩ | ⟨rfl,rfl,rfl⟩ <;> exact ⟨by assumption,by assumption,by assumption⟩
theorem zL {u v w a b c d:Pl} (h: [u,v,w].Perm [a,b,c]):pq u v w d↔pq a b c d:=by
 rcases tU h with ⟨rfl,rfl,rfl⟩ | ⟨rfl,rfl,rfl⟩ | ⟨rfl,rfl,rfl⟩ | ⟨rfl,rfl,rfl⟩ | ⟨rfl,rfl,rfl⟩ | ⟨rfl,rfl,rfl⟩
 ·exact Iff.rfl
 ·exact GS _ _ _ _
 ·exact tQ _ _ _ _
 ·exact jz _ _ _ _
 ·exact (jz _ _ _ _).trans (jz _ _ _ _)
 ·exact (tQ _ _ _ _).trans (jz _ _ _ _)
theorem G5 {u v w a b c d:Pl} (h: [u,v,w].Perm [a,b,c]):rg u v w d=rg a b c d:=by
 have mid:∀ a b c d,rg a c b d=rg a b c d:=fun a b c d=>by rw [← nO a c b d,qo b c a d,nO]
 rcases tU h with ⟨rfl,rfl,rfl⟩ | ⟨rfl,rfl,rfl⟩ | ⟨rfl,rfl,rfl⟩ | ⟨rfl,rfl,rfl⟩ | ⟨rfl,rfl,rfl⟩ | ⟨rfl,rfl,rfl⟩
 ·rfl
 ·exact mid _ _ _ _
 ·exact qo _ _ _ _
 ·exact nO _ _ _ _
 ·exact (nO _ _ _ _).trans (nO _ _ _ _)
 ·exact (qo _ _ _ _).trans (nO _ _ _ _)
theorem xj {a b c d u v w:Pl} (hn:tw a b c≠0) (h0:rg a b c d=0) (hd:¬ (d=a∨d=b∨d=c)) (hp: [u,v,w].Perm [a,b,c]) (s1:¬ aT v u) (s2:¬ aT w u) :
 decide (pq a b c d)=if aT d u then true else decide ((tw v w d).sign≠(tw v w u).sign):=by
 have nab:a≠b:=fun e=>by subst e;rw [nN] at hn;exact hn rfl
 have Ui:a≠c:=fun e=>by subst e;rw [tO] at hn;exact hn rfl
 have Uj:b≠c:=fun e=>by subst e;rw [tN] at hn;exact hn rfl
 have ho:(u≠v∧u≠w)∧(d≠u∧d≠v∧d≠w):=by
  rcases tU hp with ⟨rfl,rfl,rfl⟩ | ⟨rfl,rfl,rfl⟩ | ⟨rfl,rfl,rfl⟩ | ⟨rfl,rfl,rfl⟩ | ⟨rfl,rfl,rfl⟩ | ⟨rfl,rfl,rfl⟩ <;> grind
 obtain ⟨⟨n1,n2⟩,e1,e2,e3⟩:=ho
 have b1:aT u v:=by rcases gW n1 with z | z;exact z;exact absurd z s1
 have b2:aT u w:=by rcases gW n2 with z | z;exact z;exact absurd z s2
 have e:decide (pq a b c d)=decide (pq u v w d):=by rw [decide_eq_decide];exact (zL hp).symm
 rw [e]
 have h1:rg u v w d=0:=by rw [G5 hp];exact h0
 by_cases k:aT d u
 ·rw [if_pos k]
  exact decide_eq_true (.inr ⟨h1,e1,e2,e3,.inl ⟨k,b9 k b1,b9 k b2⟩⟩)
 ·rw [if_neg k,decide_eq_decide]
  have k2:aT u d:=by rcases gW e1 with z | z;exact absurd z k;exact z
  unfold pq
  rw [h1]
  constructor
  ·rintro (z | ⟨_,_,_,_,z | z | z | z⟩)
   ·cases z
   ·exact absurd z.1 k
   ·exact z.2.2.2
   ·exact absurd z.1 s1
   ·exact absurd z.1 s2
  ·intro z
   exact .inr ⟨rfl,e1,e2,e3,.inr (.inl ⟨b1,b2,k2,z⟩)⟩
theorem AZ {a b c d u v w:Pl} (hn:tw a b c≠0) (h0:rg a b c d=0) (hd:¬ (d=a∨d=b∨d=c)) (hp: [u,v,w].Perm [a,b,c]) (hs: [u,v,w].Pairwise (fun p q=> ¬ aT q p)) :
 decide (pq a b c d)=if aT d u then true else decide ((tw v w d).sign≠(tw v w u).sign):=
 xj hn h0 hd hp ((List.pairwise_cons.mp hs).1 v (by simp)) ((List.pairwise_cons.mp hs).1 w (by simp))
instance (p q r s:Pl):Decidable (Rw p q r s):=inferInstanceAs (Decidable (_∨_))
theorem iX (i j:Int):(!dQ (.int i) (.int j))=decide (i≠j):=by
 rw [bM,Bool.eq_iff_iff]
 simp
theorem bH (qs:List Pl):(qs.map Pl.d).all (plain 9)=true:=by
 rw [List.all_map,List.all_eq_true]
 intro q _
 rfl
end L3
namespace L3
open PySem PySem.Spec PyProof.Rows L2
def bW (cells:List (Str ×Addr)) (names:List (Str ×NameKind)) (cs:List (Str ×Addr)):List (Str ×Addr):=
 names.foldl (fun cs y=>if (y.2 == NameKind.free)=true then (y.1,(cells.lookup y.1).getD 0) :: cs else cs) cs
theorem tX {α β:Type} {f:α→β→Sem (ForInStep β)} {g:β→α→β}:∀ {l:List α} {b:β},(∀ x∈l,∀ b,f x b=pure (.yield (g b x)))→forIn l b f=(pure (l.foldl g b):Sem β)
 | [],b,_=>rfl
 | x :: l,b,h=>by
   rw [List.forIn_cons,h x (List.mem_cons_self ..),pure_bind]
   exact tX fun y hy=>h y (List.mem_cons_of_mem _ hy)
theorem tY {sc:Scope} {env:Env} (h:∀ y∈sc.names,y.2= .free→∃ c,env.cells.lookup y.1=some c):closureFor sc env=pure (bW env.cells sc.names []):=by
 unfold closureFor bW
 dsimp only
 rw [tX (g:=fun cs y=>if (y.2 == NameKind.free)=true then (y.1,(env.cells.lookup y.1).getD 0) :: cs else cs)]
 ·rfl
 ·rintro ⟨n,k⟩ hy b
  by_cases hk:k= .free
  ·subst hk
   obtain ⟨c,hc⟩:=h _ hy rfl
   have hc:env.cells.lookup n=some c:=hc
   simp [cellOf,hc]
  ·have hb:(k == NameKind.free)=false:=by simpa using hk
   simp [hb]
theorem nS {cells:List (Str ×Addr)} {x:Str} {c:Addr}:∀ {names:List (Str ×NameKind)} {cs:List (Str ×Addr)},(∀ y∈names,y.2= .free→∃ c,cells.lookup y.1=some c)→(∀ x c,cs.lookup x=some c→cells.lookup x=some c)→
 (bW cells names cs).lookup x=some c→cells.lookup x=some c
 | [],cs,_,h,e=>h x c e
 | (n,k) :: r,cs,hf,h,e=>by
   refine nS (names:=r) (cs:=if (k == NameKind.free)=true then (n,(cells.lookup n).getD 0) :: cs else cs) (fun y hy=>hf y (List.mem_cons_of_mem _ hy)) (fun x c q=>?_) e
   split at q
   ·rename_i hk
    rw [List.lookup_cons] at q
    split at q
    ·rename_i hx
     have hx:=eq_of_beq hx
     subst hx
     obtain ⟨c',hc⟩:=hf (x,k) (List.mem_cons_self ..) (eq_of_beq hk)
     have hc:cells.lookup x=some c':=hc
     rw [hc] at q
     rw [hc];exact q
    ·exact h x c q
   ·exact h x c q
theorem nT {cells:List (Str ×Addr)} {x:Str}:∀ {names:List (Str ×NameKind)} {cs:List (Str ×Addr)},((cs.lookup x).isSome=true∨(x,NameKind.free)∈names)→((bW cells names cs).lookup x).isSome=true
 | [],cs,h=>by
   rcases h with h | h
   ·exact h
   ·cases h
 | (n,k) :: r,cs,h=>by
   refine nT (names:=r) (cs:=if (k == NameKind.free)=true then (n,(cells.lookup n).getD 0) :: cs else cs) ?_
   rcases h with h | h
   ·left
    split
    ·rw [List.lookup_cons]
     split
     ·rfl
     ·exact h
    ·exact h
   ·rcases List.mem_cons.mp h with e | h
    ·left
     cases e
     simp [List.lookup_cons]
    ·exact .inr h
theorem mem_of_lookup {β:Type} {x:Str} {b:β}:∀ {l:List (Str ×β)},l.lookup x=some b→(x,b)∈l
 | [],h=>by cases h
 | (n,c) :: r,h=>by
   rw [List.lookup_cons] at h
   split at h
   ·rename_i hx
    cases h
    have:=eq_of_beq hx
    subst this
    exact List.mem_cons_self ..
   ·exact List.mem_cons_of_mem _ (mem_of_lookup h)
def b8 (outer:Scope) (N:List Str) (sc:Scope) (x:Str) (ys:List Str) (fs:List Nat):Bool:=
 (sc.kind == .function) && (outer.kind == .function) && sc.names.all (fun y=>!(y.2 == .cell) && (!(y.2 == .local) || sc.names.lookup y.1 == some .local) && (!(y.2 == .free) || outer.names.lookup y.1 == some .cell)) && (sc.names.lookup x == some .local) &&
  decide (ys.length=fs.length) && (ys.zip fs).all (fun p=>N[p.2]? == some p.1 && sc.names.lookup p.1 == some .free) && decide (x :: ys).Nodup
structure tZ (outer:Scope) (N:List Str) (sc:Scope) (x:Str) (ys:List Str) (fs:List Nat):Prop where
 kind:sc.kind= .function
 Mt:outer.kind= .function
 Eu:∀ y∈sc.names,y.2≠ .cell
 names:∀ y∈sc.names,y.2= .local→sc.names.lookup y.1=some .local
 JZ:∀ y∈sc.names,y.2= .free→outer.names.lookup y.1=some .cell
 loc:sc.names.lookup x=some .local
 len:ys.length=fs.length
 at':∀ (k:Nat) y,ys[k]?=some y→∃ i,fs[k]?=some i∧N[i]?=some y∧sc.names.lookup y=some .free
 nd:(x :: ys).Nodup
theorem tZ.of {outer:Scope} {N:List Str} {sc:Scope} {x:Str} {ys:List Str} {fs:List Nat} (h:b8 outer N sc x ys fs=true):tZ outer N sc x ys fs:=by
 unfold b8 at h
 simp only [Bool.and_eq_true,List.all_eq_true,decide_eq_true_eq] at h
 obtain ⟨⟨⟨⟨⟨⟨h1,O4⟩,h2⟩,h3⟩,h4⟩,h5⟩,h6⟩:=h
 refine ⟨eq_of_beq h1,eq_of_beq O4,fun y hy z=>?_,fun y hy z=>?_,fun y hy z=>?_,eq_of_beq h3,h4,fun k y e=>?_,h6⟩
 ·have:=(h2 y hy).1.1
  rw [z] at this
  simp at this
 ·have:=(h2 y hy).1.2
  rw [z] at this
  simpa using this
 ·have:=(h2 y hy).2
  rw [z] at this
  simpa using this
 ·have hk:k < fs.length:=by rw [← h4];exact (List.getElem?_eq_some_iff.mp e).1
  have ez:(ys.zip fs)[k]?=some (y,fs[k]):=by
   rw [List.getElem?_zip_eq_some]
   exact ⟨e,List.getElem?_eq_getElem hk⟩
  obtain ⟨q1,q2⟩:=h5 _ (List.mem_of_getElem? ez)
  exact ⟨fs[k],List.getElem?_eq_getElem hk,eq_of_beq q1,eq_of_beq q2⟩
theorem lW {env:Env} {y:Str} (hk:env.scope.kind= .function) (hc:env.scope.names.lookup y=some .cell):∀ {names:List (Str ×NameKind)},names.lookup y=some .free→
 (names.map fun (n,k)=>if (k == NameKind.free && env.scope.kind == .function && env.kindOf n == some .cell) then (n,NameKind.cell) else (n,k)).lookup y=some .cell
 | [],h=>by cases h
 | (n,k) :: r,h=>by
   rw [List.lookup_cons] at h
   split at h
   ·rename_i hx
    cases h
    have:=eq_of_beq hx
    subst this
    have hc:env.kindOf y=some .cell:=hc
    simp [hk,hc,List.lookup_cons]
   ·rename_i hx
    have ih:=lW hk hc h
    simp only [List.map_cons]
    split
    ·rw [List.lookup_cons,hx];exact ih
    ·rw [List.lookup_cons,hx];exact ih
abbrev vB (X:Cx) (sc:Scope) (x:Str) (ys:List Str) (cl:List (Str ×Addr)) (C:Addr) (s0:Shared) (H0:Hp) (ex:List Addr):Cx:=
 { X with N:=x :: ys,s₀:=s0,H₀:=H0,env:=compEnvC sc cl C X.env,outer:=X.stack,ex:=ex,fn:=fun _=>false,pn:=[],xe:=fun _ _=>False }
structure FW (X:Cx) (ifs:List Expr) (t:pH):Prop where
 run:∀ (pins:List (Addr ×Obj)) (s:Shared) (σ:St) (H:Hp) (ρ:En) (M:Mp) (Q:Bool→Mp→Prop),Inv X pins σ H s→Rep X.K H σ ρ M→t ρ M Q→
  wpAny (model X.prog X.w) X.A (forIn ifs true fun c r=>if r=true then do { let ok ← isTrue c X.env (eval c X.env);pure (ForInStep.yield ok) } else pure (ForInStep.yield r)) (TP X pins σ (rP X.K M H Q)) X.xe s
def O5:pH:=fun _ M Q=>Q true M
theorem t6 {X:Cx}:FW X [] O5:=⟨fun pins s σ H ρ M Q I r q=>wpAny_tests_nil ⟨H,I,M,.refl _ _,r.mem,q⟩⟩
theorem nc {X:Cx} {c:Expr} {t:pH} (h:Av X c t):FW X [c] t:=⟨fun pins s σ H ρ M Q I r q=>wpAny_tests_one (h.run pins s σ H ρ M Q I r q)⟩
def ng (gd:Mp→Prop) (tt:pH) (te:cY) (fr:En) (Q:List D→Mp→Prop):List D→List D→Mp→Prop
 | [],acc,M=>gd M∧Q acc M
 | d :: ds,acc,M=>gd M∧tt (some d :: fr) M fun b M1=>if b=true then te (some d :: fr) M1 fun y M2=>ng gd tt te fr Q ds (acc ++ [y]) M2 else ng gd tt te fr Q ds acc M1
def iI (fs:List Nat) (ρ:En):En:=fs.map fun i=>(ρ[i]?).join
section
variable {X:Cx} {sc:Scope} {x:Str} {ys:List Str} {fs:List Nat}
theorem zM {fs:List Nat} {ρ:En} {k:Nat} {d:D} (h:(iI fs ρ)[k]?=some (some d)):∃ i,fs[k]?=some i∧ρ[i]?=some (some d):=by
 unfold iI at h
 rw [List.getElem?_map] at h
 cases e:fs[k]? with
 | none=>rw [e] at h;cases h
 | some i=>
   rw [e] at h
   refine ⟨i,rfl,?_⟩
   have h:(ρ[i]?).join=some d:=Option.some.inj h
   cases q:ρ[i]? with
   | none=>rw [q] at h;cases h
   | some o=>rw [q] at h;rw [show o=some d from h]
theorem CZ {pins:List (Addr ×Obj)} {σ:St} {H:Hp} {s s':Shared} {C:Addr} {fp:List Addr} {cl:List (Str ×Addr)} {ρ:En} {M:Mp} (ck:tZ X.env.scope X.N sc x ys fs) (I:Inv X pins σ H s) (r:Rep X.K H σ ρ M) (hcl:cl=bW X.env.cells sc.names [])
 (hC:s.heap.objs.size≤C) (old:∀ b o,s.heap.get? b=some o→s'.heap.get? b=some o) (ns:∃ m,s'.heap.Ns C m) (hos:s'.os=s.os) (hg:s'.gens=s.gens) (hf:∀ b∈fp,iE X pins H b) (hfp:∀ b∈fp,b < s.heap.objs.size) :
 ∃ σ',Inv (vB X sc x ys cl C s H fp) [] σ' H s'∧Rep X.K H σ' (none :: iI fs ρ) M:=by
 have t7:∀ y∈sc.names,y.2= .free→∃ c,X.env.cells.lookup y.1=some c:=fun y hy hk=>I.ok.has y.1 (.inl (ck.JZ y hy hk))
 have cf:∀ {y c},cl.lookup y=some c→X.env.cells.lookup y=some c:=fun {y c} e=>by rw [hcl] at e;exact nS t7 (fun _ _ z=>by cases z) e
 have ch:∀ y,sc.names.lookup y=some .free→∃ c,cl.lookup y=some c:=fun y e=>by rw [hcl];exact Option.isSome_iff_exists.mp (nT (.inr (mem_of_lookup e)))
 have rk:∀ y k,(relabel sc X.env).names.lookup y=some k→(k= .cell∨k= .free)→∃ c,cl.lookup y=some c:=by
  intro y k e hk
  have:∃ k',sc.names.lookup y=some k'∧(k'=k∨k'= .free):=by
   clear ck t7 cf ch
   revert e
   show (sc.names.map _).lookup y=some k→_
   generalize sc.names=names
   intro e
   induction names with
   | nil=>cases e
   | cons p r ih=>
     obtain ⟨n,kn⟩:=p
     simp only [List.map_cons] at e
     rw [List.lookup_cons]
     split
     ·rename_i hx
      split at e
      ·rename_i hc
       refine ⟨kn,rfl,.inr ?_⟩
       simp only [Bool.and_eq_true] at hc
       exact eq_of_beq hc.1.1
      ·rw [List.lookup_cons,hx] at e
       exact ⟨kn,rfl,.inl (Option.some.inj e)⟩
     ·rename_i hx
      split at e <;> (rw [List.lookup_cons,hx] at e;exact ih e)
  obtain ⟨k',e',hk'⟩:=this
  rcases hk' with rfl | rfl
  ·rcases hk with rfl | rfl
   ·exact absurd rfl (ck.Eu _ (mem_of_lookup e'))
   ·exact ch y e'
  ·exact ch y e'
 have lfp:∀ b∈fp,b≠C:=fun b hb z=>absurd (Nat.lt_of_lt_of_le (hfp b hb) hC) (by rw [z];exact Nat.lt_irrefl _)
 have ok:(vB X sc x ys cl C s H fp).Ok:={
  mod:=I.ok.mod
  kind:=ck.kind
  glob:=I.ok.glob
  blt:=I.ok.blt
  above:=hC
  inj:=fun a b c e1 e2=>I.ok.inj a b c (cf e1) (cf e2)
  has:=fun y hy=>by
   rcases hy with hy | hy
   ·exact rk y _ hy (.inl rfl)
   ·exact rk y _ hy (.inr rfl)
  IV:=fun _ _ z=>by cases z
  hd:=I.ok.hd
  frames:=I.ok.frames
  stk:= .inl rfl
  Ig:=fun b hb=>⟨lfp b hb,fun y c e=>(hf b hb).2.2.2.2.1 y c (cf e)⟩
  bs:=I.bs
  FP:=Nat.le_trans I.ok.FP I.sz
  zm:=fun b o e hb=>by
   rcases (hf b hb).2.2.2.1 with z | z
   ·exact I.ok.zm b o e z
   ·exact absurd (Nat.lt_of_lt_of_le (Heap.lt_size (I.ok.bs b o e).1) z) (Nat.lt_irrefl _)
  zo:=fun b hb z=>by
   rcases List.mem_cons.mp (I.xT b z) with e | e
   ·exact (hf b hb).2.1 e
   ·exact (hf b hb).2.2.1 e
  qR:=I.stack
  Ih:=I.xU }
 have fC:H C=none:=I.hok.fresh hC
 obtain ⟨m,hm⟩:=ns
 refine ⟨none :: fs.map (fun i=>(σ[i]?).join),⟨ok,hos,by rw [hg];exact I.bare,Un.kept old,⟨m,hm,fun i y v e1 e2 e3=>?_⟩,fun y c e=>?_,fC,fun y c e=>I.nG y c (cf e),fun p hp=>(by cases hp),I.hok.kept old,by simp [ck.len]⟩,⟨fun i d e=>?_,?_,r.mem⟩⟩
 ·cases i with
  | zero=>cases e2
  | succ i=>
    have e1:ys[i]?=some y:=e1
    obtain ⟨j,f1,f2,f3⟩:=ck.at' i y e1
    have e2:(fs.map fun i=>(σ[i]?).join)[i]?=some (some v):=e2
    rw [List.getElem?_map,f1] at e2
    have e2:(σ[j]?).join=some v:=Option.some.inj e2
    have e4:σ[j]?=some (some v):=by
     cases q:σ[j]? with
     | none=>rw [q] at e2;cases e2
     | some o=>rw [q] at e2;rw [show o=some v from e2]
    have hc:X.env.scope.names.lookup y=some .cell:=ck.JZ (y,.free) (mem_of_lookup f3) rfl
    obtain ⟨m0,_,hl⟩:=I.loc
    obtain ⟨u,ru,lk⟩:=hl j y v f2 e4 (.inr (.inl hc))
    refine ⟨u,ru,?_⟩
    rcases lk with ⟨k1,_⟩ | ⟨_,c,e5,e6⟩
    ·have k1:X.env.scope.names.lookup y=some .local:=k1
     rw [hc] at k1;cases k1
    ·obtain ⟨c',e7⟩:=ch y f3
     have:=cf e7
     rw [e5] at this
     cases this
     refine .inr ⟨.inl (lW I.ok.kind hc f3),c,e7,?_⟩
     obtain ⟨o,ho,hd⟩:=e6
     exact ⟨o,old _ _ ho,hd⟩
 ·obtain ⟨v,o,ho,hd⟩:=I.cell y c (cf e)
  exact ⟨v,o,old _ _ ho,hd⟩
 ·cases i with
  | zero=>cases e
  | succ i=>
    obtain ⟨j,f1,f2⟩:=zM (show (iI fs ρ)[i]?=some (some d) from e)
    obtain ⟨v,g1,g2⟩:=r.env j d f2
    refine ⟨v,?_,g2⟩
    show (fs.map fun i=>(σ[i]?).join)[i]?=some (some v)
    rw [List.getElem?_map,f1]
    show some ((σ[j]?).join)=_
    rw [g1];rfl
 ·simp [iI]
end
end L3
namespace L3
open PySem PySem.Spec PyProof.Rows L2
section
variable {X:Cx} {sc:Scope} {x:Str} {ys:List Str} {fs:List Nat} {elt iter:Expr} {px pos:Pos} {ifs:List Expr} {tt:pH} {te:cY}
theorem qt {α:Type} {t:Sem α} {Q Q':α→Shared→Prop} {M:Model} {A:Around} {E:Value→Shared→Prop} {s:Shared} (h:wpAny M A t Q (fun _ _=>False) s) (hQ:∀ a s,Q a s→Q' a s):wpAny M A t Q' E s:=wpAny_mono h hQ fun _ _ z=>z.elim
theorem rQ (elt target iter:Expr) (ifs:List Expr) (sc:Scope) (pos:Pos) (it acc:Value) (env:Env):compTurn (.ListComp elt [⟨target,iter,ifs,0⟩] sc pos) 0 it acc env=(standAt iter.pos >>= fun _=>pyNext it >>= fun r=>match r with
 | none=>pure (.done .next)
 | some v=>letOwnedTupleGo target it v >>= fun _=>assign target env v >>= fun _=>(forIn ifs true fun c r=>if r=true then do { let ok ← isTrue c env (eval c env);pure (ForInStep.yield ok) } else pure (ForInStep.yield r)) >>= fun ok=>
   if ok=true then (eval elt env >>= fun y=>call (.builtin "list.append") [acc,y] >>= fun _=>again (.compLoop (.ListComp elt [⟨target,iter,ifs,0⟩] sc pos) 0 it acc env)) else again (.compLoop (.ListComp elt [⟨target,iter,ifs,0⟩] sc pos) 0 it acc env)):=by
 rw [compTurn_list]
 congr 1;funext _;congr 1;funext r
 cases r with
 | none=>rfl
 | some v=>
   dsimp only
   congr 1;funext _;congr 1;funext _;congr 1;funext ok
   cases ok with
   | false=>rfl
   | true=>simp only [if_true,bind_assoc,pure_bind]
structure Mu (X X':Cx) (Dl:Addr) (fp:List Addr) (tn:Nat→Heap→Prop) (M0:Mp) (H0:Hp) (fr:En) (i:Nat) (s:Shared) (acc:List D) (M:Mp):Prop where
 ex:∃ σ H y ws,Inv X' [] σ H s∧tn i s.heap∧(∀ b∈fp,H b=none)∧Rep X.K H σ (y :: fr) M∧Fr M0 H0 M H∧H Dl=some (.lst ws)∧M Dl=none∧aL X.K H acc ws∧acc.length≤i
theorem G6 (hc:X.calm=true) (ck:tZ X.env.scope X.N sc x ys fs) (ht:∀ cl C s0 H0 ex,FW (vB X sc x ys cl C s0 H0 ex) ifs tt) (he:∀ cl C s0 H0 ex,cE (vB X sc x ys cl C s0 H0 ex) elt te)
 {pins:List (Addr ×Obj)} {σ:St} {H:Hp} {s:Shared} {ρ:En} {M:Mp} {it:Addr} {fp:List Addr} {tn:Nat→Heap→Prop} {J:It} {inv:Hp→Prop} {ds:List D} {gd:Mp→Prop} {Q:DK} {E:Value→Shared→Prop} {Ma:Mp} {Ha:Hp} {use:Option (Value→Sem Unit)} {Qs:Value→Shared→Prop} (fa:Fr Ma Ha M H)
 (fin:∀ (C Dl:Addr) (s6:Shared) (H5:Hp),Inv X pins σ H5 s6→(∃ m,s6.heap.Ns C m)→iE X pins H5 C→Post X.K Ma Ha Q (.ref Dl) H5→compPost (model X.prog X.w) X.A E use Qs (.ref Dl) C (.ok .next) s6)
 (I:Inv X pins σ H s) (r:Rep X.K H σ ρ M) (T:Turn X.prog X.w X.K (.Name x px) J fp it tn) (st:tn 0 s.heap) (hf:∀ b∈fp,iE X pins H b) (hJ:AU X.K J inv ds) (hz:ds.length < sizeLine)
 (stay:∀ M1 H1,Fr M H M1 H1→cK X.K H1 M1→gd M1→inv H1) (q:ng gd tt te (iI fs ρ) (fun zs M2=> ∀ p,M2 p=none→Q (.ref p) (aA M2 p (.lst zs))) ds [] M) :
 wpAny (model X.prog X.w) X.A (newList []) (fun acc s3=>wpAny (model X.prog X.w) X.A (newFunctionEnv sc X.env.globals (bW X.env.cells sc.names []) [] X.env.qual none .none (some X.env)) (fun cenv s4=>
  codeAny (model X.prog X.w) X.A (.compStart (.ListComp elt [⟨.Name x px,iter,ifs,0⟩] sc pos) 0 (.ref it) acc { cenv with scope:=relabel sc X.env }) (compPost (model X.prog X.w) X.A E use Qs acc cenv.locals) s4) E s3) E s:=by
 have hfp:∀ b∈fp,b < s.heap.objs.size:=fun b hb=>by
  obtain ⟨o,e,_⟩:=T.obj 0 _ st b hb
  exact Heap.lt_size e
 refine wpAny_newList (hsz:=Nat.zero_le _) ?_
 have fD:H s.heap.objs.size=none:=I.hok.fresh (Nat.le_refl _)
 have k1:∀ b o,s.heap.get? b=some o→(s.heap.push { cls:= .type "list",data:= .seq ([]:List Value).toArray }).get? b=some o:=fun b o e=>Heap.get?_push_of_some _ e
 have z3:(s.heap.push { cls:= .type "list",data:= .seq ([]:List Value).toArray }).objs.size=s.heap.objs.size+1:=Heap.size_push ..
 have I3:Inv X pins σ (upd H s.heap.objs.size (.lst [])) { s with heap:=s.heap.push { cls:= .type "list",data:= .seq ([]:List Value).toArray } }:=
  I.laid (t':=s.toks) k1 (Nat.le_refl _) ⟨Nat.zero_le _,[],0,.nil,Heap.get?_push_size _ rfl⟩
 refine wpAny_newFunctionEnv ck.Eu (fun y hy=>by cases hy) (fun h1 NJ QB=>?_) ck.kind
 generalize Mv:({ s with heap:=s.heap.push { cls:= .type "list",data:= .seq ([]:List Value).toArray } }:Shared)=s3 at I3 NJ QB ⊢
 have O6:s3.heap.objs.size=s.heap.objs.size+1:=by rw [← Mv];exact z3
 have old:∀ b o,s3.heap.get? b=some o→h1.get? b=some o:=fun b o e=>QB.extBut b o (Nat.ne_of_lt (Heap.lt_size e)) (Heap.get?_push_of_some _ e)
 have Mw:∀ b∈fp,iE X pins (upd H s.heap.objs.size (.lst [])) b:=fun b hb=>⟨by rw [bh (Nat.ne_of_lt (hfp b hb))];exact (hf b hb).1,(hf b hb).2⟩
 have Mx:Fr M H M (upd H s.heap.objs.size (.lst [])):=Fr.new fD fun _ _=>rfl
 have r3:Rep X.K (upd H s.heap.objs.size (.lst [])) σ ρ M:=r.go Mx (r.mem.new fD)
 obtain ⟨σ',I4,r4⟩:=CZ (s:=s3) (s':={ s3 with heap:=h1,toks:=s3.toks+([]:List (Str ×Value)).length }) (C:=s3.heap.objs.size) (fp:=fp) ck I3 r3 rfl (Nat.le_refl _) old ⟨_,NJ⟩ rfl rfl Mw (fun b hb=>by rw [O6];exact Nat.lt_succ_of_lt (hfp b hb))
 have MD:M s.heap.objs.size=none:=r.mem.free fD
 have My:tn 0 h1:=T.keep 0 _ _ st fun b hb o e=>old b o (by rw [← Mv];exact k1 b o e)
 have J0:∀ {H':Hp},(∀ b∈fp,H' b=none)→∀ b∈fp,iE (vB X sc x ys (bW X.env.cells sc.names []) s3.heap.objs.size s3 (upd H s.heap.objs.size (.lst [])) fp) [] H' b:=fun {H'} hn b hb=>
  ⟨hn b hb,(I4.ok.Ig b hb).1,I4.ok.zo b hb,.inl hb,fun y c e z=>(I4.ok.Ig b hb).2 y c e z,fun p hp=>by cases hp⟩
 have loop:∀ s4:Shared,s4= { s3 with heap:=h1,toks:=s3.toks+([]:List (Str ×Value)).length }→
  codeAny (model X.prog X.w) X.A (.compLoop (.ListComp elt [⟨.Name x px,iter,ifs,0⟩] sc pos) 0 (.ref it) (.ref s.heap.objs.size) ((vB X sc x ys (bW X.env.cells sc.names []) s3.heap.objs.size s3 (upd H s.heap.objs.size (.lst [])) fp)).env) (compPost (model X.prog X.w) X.A E use Qs (.ref s.heap.objs.size) s3.heap.objs.size) s4:=by
  rintro s4 rfl
  refine codeAny_loop rfl (I:=fun n s'=> ∃ i acc M',n=ds.length - i∧i≤ds.length∧Mu X (vB X sc x ys (bW X.env.cells sc.names []) s3.heap.objs.size s3 (upd H s.heap.objs.size (.lst [])) fp) s.heap.objs.size fp tn M H (iI fs ρ) i s' acc M'∧ng gd tt te (iI fs ρ) (fun zs M2=> ∀ p,M2 p=none→Q (.ref p) (aA M2 p (.lst zs))) (ds.drop i) acc M')
   (fun n s5 hI=>?_) ds.length ⟨0,[],M,rfl,Nat.zero_le _,⟨σ',_,none,[],I4,My,fun b hb=>(Mw b hb).1,r4,Mx,dR,MD,aS.mpr rfl,Nat.le_refl _⟩,q⟩
  obtain ⟨i,acc,M5,rfl,hi,⟨σ5,H5,y5,ws,I5,Gk,f5,r5,BS,Mz,MA,MB,RB⟩,q5⟩:=hI
  show wpAny (model X.prog X.w) X.A ((compTurn (.ListComp elt [⟨.Name x px,iter,ifs,0⟩] sc pos) 0 (.ref it) (.ref s.heap.objs.size) ((vB X sc x ys (bW X.env.cells sc.names []) s3.heap.objs.size s3 (upd H s.heap.objs.size (.lst [])) fp)).env).onRaise (fun z=>do { noteFrame z ((vB X sc x ys (bW X.env.cells sc.names []) s3.heap.objs.size s3 (upd H s.heap.objs.size (.lst [])) fp)).env;theTreesLotGoes z })) _ _ s5
  refine wpAny_noted ?_
  rw [rQ]
  refine wpAny_bind (wpAny_standAt ?_)
  by_cases hlt:i < ds.length
  ·have hdr:ds.drop i=ds[i] :: ds.drop (i+1):=List.drop_eq_getElem_cons hlt
   rw [hdr] at q5
   obtain ⟨hg,q5⟩:=q5
   have hinv:=stay M5 H5 BS r5.mem hg
   refine wpAny_bind (qt (T.item (vB X sc x ys (bW X.env.cells sc.names []) s3.heap.objs.size s3 (upd H s.heap.objs.size (.lst [])) fp) rfl rfl rfl hc i [] s5 σ5 H5 (fun _ _=>False) I5 (J0 f5) Gk (hJ.go i H5 hlt hinv)) fun r6 s6 ⟨u,e6,h6⟩=>?_)
   subst e6
   refine wpAny_bind (qt h6 fun _ s7 ⟨v,H7,I7,rv,yl,J1,f7⟩=>?_)
   obtain ⟨e7,d,hd1,hd2⟩:=hJ.FT i H5 v H7 hlt hinv yl
   subst e7
   have ed:d=ds[i]:=Option.some.inj (hd1.symm.trans (List.getElem?_eq_getElem hlt))
   subst ed
   have O7:=I7.pinned (J0 f7) (T.obj _ _ J1)
   have lx:(relabel sc X.env).names.lookup x=some .local:=lookup_relabel_local ck.loc
   refine wpAny_bind (qt ((bg (X:=(vB X sc x ys (bW X.env.cells sc.names []) s3.heap.objs.size s3 (upd H s.heap.objs.size (.lst [])) fp)) (i:=0) (x:=x) (pos:=px) ck.nd rfl (.inl lx) (.inr lx)).run _ s7 σ5 H7 (y5 :: iI fs ρ) M5 v ds[i] u (fun ρ' M'=>ρ'=some ds[i] :: iI fs ρ∧M'=M5) O7 r5 rv hd2 ⟨rfl,rfl⟩) fun _ s8 ⟨σ8,H8,I8,ρ8,M8,J2,r8,e8,O8⟩=>?_)
   subst e8 O8
   obtain ⟨O9,J3⟩:=J2 _ _ MA Mz
   refine wpAny_bind (qt ((ht _ _ _ _ _).run _ s8 σ8 H8 _ M8 _ I8 r8 q5) fun b s9 ⟨H9,I9,M9,G7,Pa,q9⟩=>?_)
   obtain ⟨MC,ME⟩:=G7 _ _ J3 O9
   have r9:=r8.go G7 Pa
   have Ew:=(BS.trans J2).trans G7
   have MF:aL X.K H9 acc ws:=aL.mono ((J2.trans G7).ext r5.mem) _ _ MB
   have next:∀ {H':Hp} {s':Shared},Inv (vB X sc x ys (bW X.env.cells sc.names []) s3.heap.objs.size s3 (upd H s.heap.objs.size (.lst [])) fp) ([] ++ qS fp s7.heap) σ8 H' s'→(tn (i+1) s'.heap∧∀ b∈fp,H' b=none):=fun {H' s'} I'=>by
    have pin:∀ b∈fp,∀ o,s7.heap.get? b=some o→s'.heap.get? b=some o∧H' b=none:=fun b hb o e=>by
     have:=I'.pin (b,o) (List.mem_append_right _ (List.mem_append_right _ (lO hb e)))
     exact ⟨this.1,this.2.1⟩
    refine ⟨T.keep _ _ _ J1 fun b hb o e=>(pin b hb o e).1,fun b hb=>?_⟩
    obtain ⟨o,e,_⟩:=T.obj _ _ J1 b hb
    exact (pin b hb o e).2
   cases b with
   | false=>
     rw [if_neg Bool.false_ne_true]
     obtain ⟨n1,n2⟩:=next I9
     exact wpAny_pure ⟨rfl,ds.length - (i+1),by omega,i+1,acc,M9,rfl,hlt,⟨σ8,H9,_,ws,I9.iS,n1,n2,r9,Ew,MC,ME,MF,by omega⟩,q9⟩
   | true=>
     rw [if_pos rfl]
     refine wpAny_bind (qt ((he _ _ _ _ _).run _ s9 σ8 H9 _ M9 _ I9 r9 q9) fun Pb Pc ⟨v10,zN,Pd,J4,dy,G8,yb,J5,Ex,Pe⟩=>?_)
     obtain ⟨Ey,Ez⟩:=yb _ _ ME MC
     have MG:=r9.go yb Ex
     have EA:aL X.K zN acc ws:=aL.mono (yb.ext r9.mem) _ _ MF
     have lw:ws.length < sizeLine:=by rw [← EA.length];omega
     refine wpAny_bind (qt (kI (X:=(vB X sc x ys (bW X.env.cells sc.names []) s3.heap.objs.size s3 (upd H s.heap.objs.size (.lst [])) fp)) _ Pc σ8 zN (.ref s.heap.objs.size) [v10] (.ref s.heap.objs.size) [Pb] (fun _ H'=>H'=upd zN s.heap.objs.size (.lst (ws ++ [v10]))) Pd rfl (.cons J4 .nil) ⟨_,ws,v10,rfl,rfl,Ey,lw,rfl⟩) fun _ RC ⟨_,RD,MH,_,Pg⟩=>?_)
     subst Pg
     have ex:Ext zN (upd zN s.heap.objs.size (.lst (ws ++ [v10]))):=Ext.jP Ey
     have J6:cK X.K (upd zN s.heap.objs.size (.lst (ws ++ [v10]))) G8:=fun a o e=>by
      have na:a≠s.heap.objs.size:=fun z=>by rw [z,Ez] at e;cases e
      exact (Ex a o e).mono ex fun u q=>by rw [bh na];exact q
     have Ph:Rep X.K (upd zN s.heap.objs.size (.lst (ws ++ [v10]))) σ8 (some ds[i] :: iI fs ρ) G8:=⟨fun j d e=>let ⟨v,e1,e2⟩:=MG.env j d e;⟨v,e1,Dat.mono ex _ _ e2⟩,MG.len,J6⟩
     have J7:Fr M H G8 (upd zN s.heap.objs.size (.lst (ws ++ [v10]))):=fun b o n e=>by
      obtain ⟨e1,n1⟩:=(Ew.trans yb) b o n e
      exact ⟨by rw [bh (bX e fD)];exact e1,n1⟩
     obtain ⟨n1,n2⟩:=next MH
     exact wpAny_pure ⟨rfl,ds.length - (i+1),by omega,i+1,acc ++ [dy],G8,rfl,hlt,⟨σ8,_,_,ws ++ [v10],MH.iS,n1,n2,Ph,J7,dR,Ez,aL.mono ex _ _ (EA.append (aL.one J5)),by simp;omega⟩,Pe⟩
  ·have ei:i=ds.length:=by omega
   subst ei
   rw [List.drop_of_length_le (Nat.le_refl _)] at q5
   obtain ⟨hg,q5⟩:=q5
   have hinv:=stay M5 H5 BS r5.mem hg
   refine wpAny_bind (qt (T.done (vB X sc x ys (bW X.env.cells sc.names []) s3.heap.objs.size s3 (upd H s.heap.objs.size (.lst [])) fp) rfl rfl rfl hc ds.length [] s5 σ5 H5 (fun _ _=>False) I5 (J0 f5) Gk (hJ.stop H5 hinv)) fun r6 s6 ⟨e6,I6⟩=>?_)
   subst e6
   refine wpAny_pure ?_
   obtain ⟨m,hm,_⟩:=id I6.loc
   have I7:Inv X pins σ H5 s6:=I3.Ij (s':=s6) (ch:=fp) I6.os I6.base I6.hok I6.bare fun b hb=>⟨(hf b hb).2.2.2.1,(hf b hb).2.1,(hf b hb).2.2.2.2.1,(hf b hb).2.2.2.2.2⟩
   refine fin _ _ s6 H5 I7 ⟨m,hm⟩ (I3.CL (Nat.le_refl _) I6.free) (Post.back fa ⟨.ref s.heap.objs.size,aA M5 s.heap.objs.size (.lst acc),fun b o n e=>?_,aO.mpr rfl,fun a o e=>?_,q5 _ MA⟩)
   ·obtain ⟨e1,n1⟩:=BS b o n e
    exact ⟨e1,by rw [bG (bX e fD)];exact n1⟩
   ·by_cases ha:a=s.heap.objs.size
    ·subst ha
     rw [ah] at e
     cases e
     exact ⟨ws,Mz,MB⟩
    ·rw [bG ha] at e
     exact r5.mem a o e
 exact codeAny_compStart_list (loop _ rfl) (T.self X.A 0 _ _ _ My (loop _ rfl))
end
end L3
namespace L3
open PySem PySem.Spec PyProof.Rows L2
section
variable {X:Cx} {sc:Scope} {x:Str} {ys:List Str} {fs:List Nat} {elt iter:Expr} {px pos:Pos} {ifs:List Expr} {tt:pH} {te:cY} {ti:cY}
def NK (Q:DK):List D→Mp→Prop:=fun zs M2=> ∀ p,M2 p=none→Q (.ref p) (aA M2 p (.lst zs))
def Pj (fs:List Nat) (ti:cY) (tt:pH) (te:cY):cY:=fun ρ M Q=>ti ρ M fun d M1=> ∃ xs,d= .tup xs∧xs.length < sizeLine∧aI (ng (fun _=>True) tt te (iI fs ρ) (NK Q) xs [] M1)
def MI (fs:List Nat) (ti:cY) (tt:pH) (te:cY):cY:=fun ρ M Q=>ti ρ M fun d M1=> ∃ a xs,d= .ref a∧M1 a=some (.lst xs)∧xs.length < sizeLine∧aI (ng (fun M=>M a=some (.lst xs)) tt te (iI fs ρ) (NK Q) xs [] M1)
def Pk (fs:List Nat) (t:vA) (tt:pH) (te:cY):cY:=fun ρ M Q=>t ρ M fun vs M1=> ∃ j:Int,vs= [.int j]∧ -(2 ^ 62)≤j∧j < 2 ^ 62∧j.toNat < sizeLine∧aI (ng (fun _=>True) tt te (iI fs ρ) (NK Q) ((List.range j.toNat).map fun (k:Nat)=>L3.D.int (k:Int)) [] M1)
def QC (X:Cx) (fs:List Nat) (tt:pH) (te:cY) (σ:St) (ρ:En) (M:Mp) (H:Hp) (Q:DK):It→Hp→Prop:=fun J H2=> ∃ M2 inv ds gd,Fr M H M2 H2∧Rep X.K H2 σ ρ M2∧AU X.K J inv ds∧ds.length < sizeLine∧(∀ M1 H1,Fr M2 H2 M1 H1→cK X.K H1 M1→gd M1→inv H1)∧ng gd tt te (iI fs ρ) (NK Q) ds [] M2
theorem G9 {pins:List (Addr ×Obj)} {σ:St} {M:Mp} {H:Hp} {Q:DK} {E:Value→Shared→Prop}:∀ (C Dl:Addr) (s6:Shared) (H5:Hp),Inv X pins σ H5 s6→(∃ m,s6.heap.Ns C m)→iE X pins H5 C→Post X.K M H Q (.ref Dl) H5→
 compPost (model X.prog X.w) X.A E none (EP X pins σ (Post X.K M H Q)) (.ref Dl) C (.ok .next) s6:=fun C Dl s6 H5 I ⟨m,hm⟩ f P=>
 ⟨m,hm,fun h' sb=>⟨.ref Dl,H5,I.turned (t':=s6.toks) (fun b o hb e=>sb.extBut b o hb e) f.1 f.2.1 f.2.2.2.1 f.2.2.2.2.1 f.2.2.2.2.2,rfl,P⟩⟩
theorem EB {use:Option (Value→Sem Unit)} {Qs:Value→Shared→Prop} {ps:Pos} (hc:X.calm=true) (hk:b8 X.env.scope X.N sc x ys fs=true) (ht:∀ cl C s0 H0 ex,FW (vB X sc x ys cl C s0 H0 ex) ifs tt) (he:∀ cl C s0 H0 ex,cE (vB X sc x ys cl C s0 H0 ex) elt te)
 (hs:∀ z,foldedSetIterable iter X.env z=pure z) {pins:List (Addr ×Obj)} {s:Shared} {σ:St} {H:Hp} {ρ:En} {M:Mp} {Q:DK} (I:Inv X pins σ H s)
 (fin:∀ (C Dl:Addr) (s6:Shared) (H5:Hp),Inv X pins σ H5 s6→(∃ m,s6.heap.Ns C m)→iE X pins H5 C→Post X.K M H Q (.ref Dl) H5→compPost (model X.prog X.w) X.A X.xe use Qs (.ref Dl) C (.ok .next) s6)
 (h:wpAny (model X.prog X.w) X.A (eval iter X.env) (fun v s1=>wpAny (model X.prog X.w) X.A (pyIter v) (NC X pins σ (.Name x px) (QC X fs tt te σ ρ M H Q)) X.xe s1) X.xe s) :
 wpAny (model X.prog X.w) X.A (comprehension (.ListComp elt [⟨.Name x px,iter,ifs,0⟩] sc pos) sc X.env ps (newList []) false (eval iter X.env) use) Qs X.xe s:=by
 have ck:=tZ.of hk
 refine wpAny_comprehension_free (use:=use) (cl:=bW X.env.cells sc.names []) rfl hs (tY fun y hy z=>I.ok.has y.1 (.inl (ck.JZ y hy z))) ck.kind ck.names (dD h fun v s1 h1=>dD h1 fun itv s2 h2=>?_)
 obtain ⟨it,fp,tn,J,H2,e,I2,T,st2,f2,M2,inv,ds,gd,fr,r2,hJ,hz,stay,q⟩:=h2
 subst e
 exact G6 hc ck ht he fr fin I2 r2 T st2 f2 hJ hz stay q
structure K9 (X:Cx) (sc:Scope) (x:Str) (px:Pos) (ys:List Str) (fs:List Nat) (iter:Expr) (ifs:List Expr) (elt:Expr) (t:cY):Prop where
 run:∀ {use:Option (Value→Sem Unit)} {Qs:Value→Shared→Prop} {ps pos:Pos} {pins:List (Addr ×Obj)} {s:Shared} {σ:St} {H:Hp} {ρ:En} {M:Mp} {Q:DK},Inv X pins σ H s→Rep X.K H σ ρ M→t ρ M Q→
  (∀ (C Dl:Addr) (s6:Shared) (H5:Hp),Inv X pins σ H5 s6→(∃ m,s6.heap.Ns C m)→iE X pins H5 C→Post X.K M H Q (.ref Dl) H5→compPost (model X.prog X.w) X.A X.xe use Qs (.ref Dl) C (.ok .next) s6)→
  wpAny (model X.prog X.w) X.A (comprehension (.ListComp elt [⟨.Name x px,iter,ifs,0⟩] sc pos) sc X.env ps (newList []) false (eval iter X.env) use) Qs X.xe s
theorem rZ {t:cY} (h:K9 X sc x px ys fs iter ifs elt t):cE X (.ListComp elt [⟨.Name x px,iter,ifs,0⟩] sc pos) t:=by
 constructor
 intro pins s σ H ρ M Q I r q
 rw [eval_ListComp]
 exact h.run I r q G9
theorem A0 {t:cY} {j:Nat} {y:Str} {py spos:Pos} (h:K9 X sc x px ys fs iter ifs elt t) (hN:X.N.Nodup) (hj:X.N[j]?=some y) (hy:Loc X.env.scope y)
 (hsw:swapsWith (.ListComp elt [⟨.Name x px,iter,ifs,0⟩] sc pos) (some (.Name y py)) spos.line X.env=pure true:=by rfl) (hf:X.fn y=true∨X.env.scope.names.lookup y=some .local:=by first | exact .inl rfl | exact .inr rfl) :
 zD X (.Assign [.Name y py] (.ListComp elt [⟨.Name x px,iter,ifs,0⟩] sc pos) spos) (Iu j t):=by
 constructor
 intro pins s σ H ρ M D I r q
 rw [exec_Assign_Name_used _ _ _ _ hsw]
 refine wpAny_bind (wpAny_standAt (wpAny_bind ?_))
 show wpAny (model X.prog X.w) X.A (do { let _ ← comprehension (.ListComp elt [⟨.Name x px,iter,ifs,0⟩] sc pos) sc X.env _ (newList []) false (eval iter X.env) (some (assign (.Name y py) X.env)) }) _ _ s
 refine wpAny_bind (dD (h.run (use:=some (assign (.Name y py) X.env)) (Qs:=fun _ s'=>SP X pins (ends X.K M H D) .next s') I r q fun C Dl s6 H5 I6 hC f P=>?_) fun _ s' hq=>wpAny_pure (wpAny_pure hq))
 obtain ⟨m,o,es,ep,ho,hd,hrest⟩:=hC
 obtain ⟨d,M5,BS,dd,RE,q5⟩:=P
 have RG:Inv X (pins ++ [(C,o)]) σ H5 s6:=I6.sU fun p hp=>(List.mem_append.mp hp).elim (fun z=>I6.pin p (List.mem_append_right _ z)) fun z=>by
  have e:=List.mem_singleton.mp z
  subst e
  exact ⟨ho,f.1,f.2.1,f.2.2.1,fun v z=>by rw [hd] at z;cases z⟩
 refine dD ((bg (i:=j) (x:=y) (pos:=py) hN hj hy hf).run _ s6 σ H5 ρ M5 (.ref Dl) d (.ref Dl) (D.nx) RG (r.go BS RE) rfl dd q5) fun _ s7 ⟨σ7,H7,I7,ρ7,M7,RH,r7,q7⟩=>?_
 have pin:=I7.pin (C,o) (List.mem_append_right _ (List.mem_append_right _ (List.mem_singleton.mpr rfl)))
 refine ⟨m,⟨o,es,ep,pin.1,hd,hrest⟩,fun h' sb=>?_⟩
 have I8:Inv X pins σ7 H7 s7:=I7.sU fun p hp=>I7.pin p (List.mem_append_right _ (List.mem_append_left _ hp))
 exact ⟨σ7,H7,I8.turned (t':=s7.toks) (fun b o hb e=>sb.extBut b o hb e) pin.2.1 f.2.1 f.2.2.2.1 f.2.2.2.2.1 f.2.2.2.2.2,ρ7,M7,BS.trans RH,r7,q7⟩
theorem MJ (hc:X.calm=true) (hk:b8 X.env.scope X.N sc x ys fs=true) (hi:cE X iter ti) (ht:∀ cl C s0 H0 ex,FW (vB X sc x ys cl C s0 H0 ex) ifs tt) (he:∀ cl C s0 H0 ex,cE (vB X sc x ys cl C s0 H0 ex) elt te)
 (hs:∀ z,foldedSetIterable iter X.env z=pure z:=by intro _;rfl):K9 X sc x px ys fs iter ifs elt (Pj fs ti tt te):=by
 constructor
 intro use Qs ps pos pins s σ H ρ M Q I r h fin
 refine EB (ρ:=ρ) hc hk ht he hs I fin (DN hi.dn pins s σ H _ I (dF r h fun v H' d M' f dv r' ⟨xs,e1,hz,q⟩=>?_))
 subst e1
 obtain ⟨a,zs,rfl,ha,hy⟩:=bB.mp dv
 refine ⟨a,rfl,⟨zs,vz.of ha⟩,M',_,xs,_,f,r',Ed,hz,fun M1 H1 f1 _ _=>⟨zs,?_,aL.mono (f1.ext r'.mem) _ _ hy⟩,q.out⟩
 exact (f1 a _ (r'.mem.x6 ha (fun _ z=>by cases z)) ha).1
theorem iB (hc:X.calm=true) (hk:b8 X.env.scope X.N sc x ys fs=true) (hi:cE X iter ti) (ht:∀ cl C s0 H0 ex,FW (vB X sc x ys cl C s0 H0 ex) ifs tt) (he:∀ cl C s0 H0 ex,cE (vB X sc x ys cl C s0 H0 ex) elt te)
 (hs:∀ z,foldedSetIterable iter X.env z=pure z:=by intro _;rfl):K9 X sc x px ys fs iter ifs elt (MI fs ti tt te):=by
 constructor
 intro use Qs ps pos pins s σ H ρ M Q I r h fin
 refine EB (ρ:=ρ) hc hk ht he hs I fin (xV hi.dn pins s σ H _ I (dF r h fun v H' d M' f dv r' ⟨a,xs,e1,hM,hz,q⟩=>?_))
 subst e1
 obtain rfl:=aO.mp dv
 obtain ⟨zs,ha,hy⟩:=r'.mem.lst hM
 exact ⟨a,rfl,⟨zs,gO.of ha⟩,M',_,xs,_,f,r',AV,hz,fun M1 H1 f1 oY g1=>oY.lst g1,q.out⟩
theorem MK {a:Expr} {t:vA} {p rpos:Pos} (hc:X.calm=true) (hk:b8 X.env.scope X.N sc x ys fs=true) (JP:Gl X "range") (hm:X.mg "range" =none) (ha:AN X [a] t) (ht:∀ cl C s0 H0 ex,FW (vB X sc x ys cl C s0 H0 ex) ifs tt) (he:∀ cl C s0 H0 ex,cE (vB X sc x ys cl C s0 H0 ex) elt te)
 (hst:starEach [a] X.env= [(false,eval a X.env)]:=by rfl) (hs:∀ z,foldedSetIterable (.Call (.Name "range" p) [a] [] rpos) X.env z=pure z:=by intro _;rfl):K9 X sc x px ys fs (.Call (.Name "range" p) [a] [] rpos) ifs elt (Pk fs t tt te):=by
 constructor
 intro use Qs ps pos pins s σ H ρ M Q I r h fin
 refine EB (ρ:=ρ) hc hk ht he hs I fin (wK JP hm ha.dn hst pins s σ H _ I (nM r h fun vs H' ds M' f dv r' ⟨j,e1,h1,h2,hz,q⟩=>?_))
 subst e1
 obtain ⟨v,rfl,hv⟩:=jx dv
 obtain rfl:=aU.mp hv
 exact ⟨j,rfl,h1,h2,M',_,_,_,f,r',Ef,by simpa using hz,fun _ _ _ _ _=>trivial,q.out⟩
theorem bR {gd:Mp→Prop} {fr:En} {Q:List D→Mp→Prop} {M:Mp} (Pv:Nat→List D→Mp→Prop):∀ (ds:List D),(∀ (i:Nat) (d:D) (acc:List D) (M:Mp) (N:List D→Mp→Prop),ds[i]?=some d→Pv i acc M→(∀ acc' M',Pv (i+1) acc' M'→N acc' M')→
 gd M∧tt (some d :: fr) M fun b M1=>if b=true then te (some d :: fr) M1 fun y M2=>N (acc ++ [y]) M2 else N acc M1)→
 (∀ acc M,Pv ds.length acc M→gd M∧Q acc M)→Pv 0 [] M→ng gd tt te fr Q ds [] M:=by
 intro ds hstep hend h0
 have key:∀ (zs:List D) (i:Nat) (acc:List D) (M:Mp),ds.drop i=zs→Pv i acc M→i≤ds.length→ng gd tt te fr Q zs acc M:=by
  intro zs
  induction zs with
  | nil=>
    intro i acc M e p hi
    have:ds.length≤i:=by
     have:=congrArg List.length e
     rw [List.length_drop] at this
     simp at this
     omega
    obtain rfl:i=ds.length:=by omega
    exact hend acc M p
  | cons z zs ih=>
    intro i acc M e p hi
    have hx:ds[i]?=some z:=by
     have:=congrArg (fun l=>l[0]?) e
     simpa using this
    have hlt:i < ds.length:=(List.getElem?_eq_some_iff.mp hx).1
    refine hstep i z acc M _ hx p fun acc' M' p'=>ih (i+1) acc' M' ?_ p' hlt
    rw [← List.drop_drop,e]
    rfl
 exact key ds 0 [] M rfl h0 (Nat.zero_le _)
end
end L3
namespace L3
open PySem PySem.Spec PyProof.Rows L2
def nU (outer:Scope) (N:List Str) (sc:Scope) (x:Str) (ys:List Str) (fs:List Nat):Bool:=
 (sc.kind == .function) && (outer.kind == .function) && sc.names.all (fun y=>(!(y.2 == .local) || sc.names.lookup y.1 == some .local) && (!(y.2 == .free) || outer.names.lookup y.1 == some .cell)) && (sc.names.lookup x == some .cell) &&
  (sc.names.filter (fun y=>y.2 == .cell) == [(x,.cell)]) &&
  decide (ys.length=fs.length) && (ys.zip fs).all (fun p=>N[p.2]? == some p.1 && sc.names.lookup p.1 == some .free) && decide (x :: ys).Nodup
structure lX (outer:Scope) (N:List Str) (sc:Scope) (x:Str) (ys:List Str) (fs:List Nat):Prop where
 kind:sc.kind= .function
 Mt:outer.kind= .function
 names:∀ y∈sc.names,y.2= .local→sc.names.lookup y.1=some .local
 JZ:∀ y∈sc.names,y.2= .free→outer.names.lookup y.1=some .cell
 loc:sc.names.lookup x=some .cell
 cells:sc.names.filter (fun y=>y.2 == .cell)= [(x,.cell)]
 len:ys.length=fs.length
 at':∀ (k:Nat) y,ys[k]?=some y→∃ i,fs[k]?=some i∧N[i]?=some y∧sc.names.lookup y=some .free
 nd:(x :: ys).Nodup
theorem lX.of {outer:Scope} {N:List Str} {sc:Scope} {x:Str} {ys:List Str} {fs:List Nat} (h:nU outer N sc x ys fs=true):lX outer N sc x ys fs:=by
 unfold nU at h
 simp only [Bool.and_eq_true,List.all_eq_true,decide_eq_true_eq] at h
 obtain ⟨⟨⟨⟨⟨⟨⟨h1,O4⟩,h2⟩,h3⟩,hc⟩,h4⟩,h5⟩,h6⟩:=h
 refine ⟨eq_of_beq h1,eq_of_beq O4,fun y hy z=>?_,fun y hy z=>?_,eq_of_beq h3,eq_of_beq hc,h4,fun k y e=>?_,h6⟩
 ·have:=(h2 y hy).1
  rw [z] at this
  simpa using this
 ·have:=(h2 y hy).2
  rw [z] at this
  simpa using this
 ·have hk:k < fs.length:=by rw [← h4];exact (List.getElem?_eq_some_iff.mp e).1
  have ez:(ys.zip fs)[k]?=some (y,fs[k]):=by
   rw [List.getElem?_zip_eq_some]
   exact ⟨e,List.getElem?_eq_getElem hk⟩
  obtain ⟨q1,q2⟩:=h5 _ (List.mem_of_getElem? ez)
  exact ⟨fs[k],List.getElem?_eq_getElem hk,eq_of_beq q1,eq_of_beq q2⟩
theorem lX.ML {outer:Scope} {N:List Str} {sc:Scope} {x:Str} {ys:List Str} {fs:List Nat} (ck:lX outer N sc x ys fs) {y:Str} (h:(y,NameKind.cell)∈sc.names):y=x:=by
 have m:(y,NameKind.cell)∈sc.names.filter (fun y=>y.2 == .cell):=List.mem_filter.mpr ⟨h,rfl⟩
 rw [ck.cells] at m
 have:=List.mem_singleton.mp m
 injection this
theorem t8:∀ {names:List (Str ×NameKind)},names.filter (fun y=>y.2 == .cell)= []→∀ (n:Nat) (acc:List (Str ×Addr)) (h:Heap),cellsFrom n names acc=acc∧pushCells h names=h
 | [],_,_,_,_=>⟨rfl,rfl⟩
 | (y,k) :: r,e,n,acc,h=>by
   rw [List.filter_cons] at e
   by_cases hk:(k == NameKind.cell)=true
   ·rw [if_pos hk] at e;cases e
   ·rw [if_neg hk] at e
    unfold cellsFrom pushCells
    rw [if_neg hk,if_neg hk]
    exact t8 e n acc h
theorem xm {x:Str}:∀ {names:List (Str ×NameKind)},names.filter (fun y=>y.2 == .cell)= [(x,.cell)]→∀ (n:Nat) (acc:List (Str ×Addr)) (h:Heap),cellsFrom n names acc=(x,n) :: acc∧pushCells h names=h.push { cls:= .type "cell",data:= .cell none }
 | [],e,_,_,_=>by cases e
 | (y,k) :: r,e,n,acc,h=>by
   rw [List.filter_cons] at e
   by_cases hk:(k == NameKind.cell)=true
   ·rw [if_pos hk] at e
    injection e with e1 e2
    injection e1 with e1 e3
    subst e1
    unfold cellsFrom pushCells
    rw [if_pos hk,if_pos hk]
    exact t8 e2 _ _ _
   ·rw [if_neg hk] at e
    unfold cellsFrom pushCells
    rw [if_neg hk,if_neg hk]
    exact xm e n acc h
theorem A4 {M:Model} {A:Around} {E:Value→Shared→Prop} {s:Shared} {sc:Scope} {x:Str} {globals:Addr} {cl:List (Str ×Addr)} {qual:Str} {outer:Env} {Q:Env→Shared→Prop} (hc:sc.names.filter (fun y=>y.2 == .cell)= [(x,.cell)])
 (hQ:Q { scope:=sc,locals:=s.heap.objs.size,globals:=globals,cells:=(x,s.heap.objs.size+1) :: cl,qual:=qual,func:=none,code:=outer.code,frame:=outer.frame,builtins:=outer.builtins }
  { s with heap:=(s.heap.push { cls:= .type "dict",data:= .dict #[] }).push { cls:= .type "cell",data:= .cell none } }) :
 wpAny M A (newFunctionEnv sc globals cl [] qual none .none (some outer)) Q E s:=by
 simp only [newFunctionEnv,Option.isSome_some,if_true]
 refine wpAny_bind (wpAny_alloc ?_)
 refine wpAny_bind (wpAny_layCells _ (fun name kind cells=>by cases hkc:kind == NameKind.cell <;> simp [hkc]) _ _ _ _ ?_)
 obtain ⟨e1,e2⟩:=xm hc ({ s with heap:=s.heap.push { cls:= .type "dict",data:= .dict #[] } }:Shared).heap.objs.size cl (s.heap.push { cls:= .type "dict",data:= .dict #[] })
 rw [e1,e2]
 have z:({ s with heap:=s.heap.push { cls:= .type "dict",data:= .dict #[] } }:Shared).heap.objs.size=s.heap.objs.size+1:=Heap.size_push ..
 rw [z]
 simp only [List.forIn_nil,pure_bind]
 exact wpAny_pure hQ
theorem iC {env:Env}:∀ {names:List (Str ×NameKind)} {x:Str},names.lookup x=some .cell→
 (names.map fun (n,k)=>if (k == NameKind.free && env.scope.kind == .function && env.kindOf n == some .cell) then (n,NameKind.cell) else (n,k)).lookup x=some .cell
 | [],_,h=>by cases h
 | (n,k) :: r,x,h=>by
   rw [List.lookup_cons] at h
   split at h
   ·rename_i hx
    cases h
    simp only [List.map_cons]
    split
    ·rw [List.lookup_cons,hx]
    ·rw [List.lookup_cons,hx]
   ·rename_i hx
    have ih:=iC (env:=env) h
    simp only [List.map_cons]
    split
    ·rw [List.lookup_cons,hx];exact ih
    ·rw [List.lookup_cons,hx];exact ih
abbrev nA (X:Cx) (sc:Scope) (x:Str) (ys:List Str) (cl:List (Str ×Addr)) (C:Addr) (s0:Shared) (H0:Hp) (ex:List Addr):Cx:=
 { X with N:=x :: ys,s₀:=s0,H₀:=H0,env:=compEnvC sc ((x,C+1) :: cl) C X.env,outer:=X.stack,ex:=ex,fn:=fun y=>y == x,pn:=[],xe:=fun _ _=>False }
section
variable {X:Cx} {sc:Scope} {x:Str} {ys:List Str} {fs:List Nat}
theorem A5 {pins:List (Addr ×Obj)} {σ:St} {H:Hp} {s s':Shared} {C:Addr} {fp:List Addr} {cl:List (Str ×Addr)} {ρ:En} {M:Mp} (ck:lX X.env.scope X.N sc x ys fs) (I:Inv X pins σ H s) (r:Rep X.K H σ ρ M) (hcl:cl=bW X.env.cells sc.names [])
 (hC:s.heap.objs.size≤C) (old:∀ b o,s.heap.get? b=some o→s'.heap.get? b=some o) (ns:∃ m,s'.heap.Ns C m) (Pn:s'.heap.IsCell (C+1) none) (hos:s'.os=s.os) (hg:s'.gens=s.gens) (hf:∀ b∈fp,iE X pins H b) (hfp:∀ b∈fp,b < s.heap.objs.size) :
 ∃ σ',Inv (nA X sc x ys cl C s H fp) [] σ' H s'∧Rep X.K H σ' (none :: iI fs ρ) M:=by
 have t7:∀ y∈sc.names,y.2= .free→∃ c,X.env.cells.lookup y.1=some c:=fun y hy hk=>I.ok.has y.1 (.inl (ck.JZ y hy hk))
 have cf:∀ {y c},cl.lookup y=some c→X.env.cells.lookup y=some c:=fun {y c} e=>by rw [hcl] at e;exact nS t7 (fun _ _ z=>by cases z) e
 have ch:∀ y,sc.names.lookup y=some .free→∃ c,cl.lookup y=some c:=fun y e=>by rw [hcl];exact Option.isSome_iff_exists.mp (nT (.inr (mem_of_lookup e)))
 have Po:∀ {y c},cl.lookup y=some c→c < s.heap.objs.size:=fun {y c} e=>by
  obtain ⟨v,o,ho,_⟩:=I.cell y c (cf e)
  exact Heap.lt_size ho
 have lk:∀ {y c},((x,C+1) :: cl).lookup y=some c→(y=x∧c=C+1)∨(y≠x∧cl.lookup y=some c):=fun {y c} e=>by
  rw [List.lookup_cons] at e
  by_cases hx:(y == x)=true
  ·rw [hx] at e
   exact .inl ⟨eq_of_beq hx,(Option.some.inj e).symm⟩
  ·have hx:(y == x)=false:=by simpa using hx
   rw [hx] at e
   exact .inr ⟨fun z=>by subst z;simp at hx,e⟩
 have up:∀ {y},(∃ c,cl.lookup y=some c)→∃ c,((x,C+1) :: cl).lookup y=some c:=fun {y} ⟨c,e⟩=>by
  rw [List.lookup_cons]
  by_cases hx:(y == x)=true
  ·rw [hx];exact ⟨_,rfl⟩
  ·have hx:(y == x)=false:=by simpa using hx
   rw [hx];exact ⟨c,e⟩
 have rk:∀ y k,(relabel sc X.env).names.lookup y=some k→(k= .cell∨k= .free)→∃ c,((x,C+1) :: cl).lookup y=some c:=by
  intro y k e hk
  have:∃ k',sc.names.lookup y=some k'∧(k'=k∨k'= .free):=by
   clear ck t7 cf ch Po lk up
   revert e
   show (sc.names.map _).lookup y=some k→_
   generalize sc.names=names
   intro e
   induction names with
   | nil=>cases e
   | cons p r ih=>
     obtain ⟨n,kn⟩:=p
     simp only [List.map_cons] at e
     rw [List.lookup_cons]
     split
     ·rename_i hx
      split at e
      ·rename_i hc
       refine ⟨kn,rfl,.inr ?_⟩
       simp only [Bool.and_eq_true] at hc
       exact eq_of_beq hc.1.1
      ·rw [List.lookup_cons,hx] at e
       exact ⟨kn,rfl,.inl (Option.some.inj e)⟩
     ·rename_i hx
      split at e <;> (rw [List.lookup_cons,hx] at e;exact ih e)
  obtain ⟨k',e',hk'⟩:=this
  rcases hk' with rfl | rfl
  ·rcases hk with rfl | rfl
   ·obtain rfl:=ck.ML (mem_of_lookup e')
    exact ⟨C+1,by rw [List.lookup_cons,beq_self_eq_true]⟩
   ·exact up (ch y e')
  ·exact up (ch y e')
 have lfp:∀ b∈fp,b≠C:=fun b hb z=>absurd (Nat.lt_of_lt_of_le (hfp b hb) hC) (by rw [z];exact Nat.lt_irrefl _)
 have ok:(nA X sc x ys cl C s H fp).Ok:={
  mod:=I.ok.mod
  kind:=ck.kind
  glob:=I.ok.glob
  blt:=I.ok.blt
  above:=hC
  inj:=fun a b c e1 e2=>by
   rcases lk e1 with ⟨p1,p2⟩ | ⟨p1,p2⟩ <;> rcases lk e2 with ⟨q1,q2⟩ | ⟨q1,q2⟩
   ·rw [p1,q1]
   ·have:=Po q2
    subst p2
    exact absurd (Nat.lt_of_lt_of_le this hC) (by omega)
   ·have:=Po p2
    subst q2
    exact absurd (Nat.lt_of_lt_of_le this hC) (by omega)
   ·exact I.ok.inj a b c (cf p2) (cf q2)
  has:=fun y hy=>by
   rcases hy with hy | hy
   ·exact rk y _ hy (.inl rfl)
   ·exact rk y _ hy (.inr rfl)
  IV:=fun y c hy e=>by
   rcases lk e with ⟨p1,p2⟩ | ⟨p1,p2⟩
   ·rw [p2];exact Nat.le_succ_of_le hC
   ·exact absurd (eq_of_beq hy) p1
  hd:=I.ok.hd
  frames:=I.ok.frames
  stk:= .inl rfl
  Ig:=fun b hb=>⟨lfp b hb,fun y c e=>by
   rcases lk e with ⟨p1,p2⟩ | ⟨p1,p2⟩
   ·rw [p2]
    intro z
    have:=hfp b hb
    rw [← z] at this
    exact absurd (Nat.lt_of_lt_of_le this hC) (by omega)
   ·exact (hf b hb).2.2.2.2.1 y c (cf p2)⟩
  bs:=I.bs
  FP:=Nat.le_trans I.ok.FP I.sz
  zm:=fun b o e hb=>by
   rcases (hf b hb).2.2.2.1 with z | z
   ·exact I.ok.zm b o e z
   ·exact absurd (Nat.lt_of_lt_of_le (Heap.lt_size (I.ok.bs b o e).1) z) (Nat.lt_irrefl _)
  zo:=fun b hb z=>by
   rcases List.mem_cons.mp (I.xT b z) with e | e
   ·exact (hf b hb).2.1 e
   ·exact (hf b hb).2.2.1 e
  qR:=I.stack
  Ih:=I.xU }
 have fC:H C=none:=I.hok.fresh hC
 obtain ⟨m,hm⟩:=ns
 refine ⟨none :: fs.map (fun i=>(σ[i]?).join),⟨ok,hos,by rw [hg];exact I.bare,Un.kept old,⟨m,hm,fun i y v e1 e2 e3=>?_⟩,fun y c e=>?_,fC,(fun y c e=>by rcases lk e with ⟨p1,p2⟩ | ⟨p1,p2⟩;(rw [p2];exact I.hok.fresh (Nat.le_succ_of_le hC));exact I.nG y c (cf p2)),fun p hp=>(by cases hp),I.hok.kept old,by simp [ck.len]⟩,⟨fun i d e=>?_,?_,r.mem⟩⟩
 ·cases i with
  | zero=>cases e2
  | succ i=>
    have e1:ys[i]?=some y:=e1
    obtain ⟨j,f1,f2,f3⟩:=ck.at' i y e1
    have e2:(fs.map fun i=>(σ[i]?).join)[i]?=some (some v):=e2
    rw [List.getElem?_map,f1] at e2
    have e2:(σ[j]?).join=some v:=Option.some.inj e2
    have e4:σ[j]?=some (some v):=by
     cases q:σ[j]? with
     | none=>rw [q] at e2;cases e2
     | some o=>rw [q] at e2;rw [show o=some v from e2]
    have hc:X.env.scope.names.lookup y=some .cell:=ck.JZ (y,.free) (mem_of_lookup f3) rfl
    obtain ⟨m0,_,hl⟩:=I.loc
    obtain ⟨u,ru,lk⟩:=hl j y v f2 e4 (.inr (.inl hc))
    refine ⟨u,ru,?_⟩
    rcases lk with ⟨k1,_⟩ | ⟨_,c,e5,e6⟩
    ·have k1:X.env.scope.names.lookup y=some .local:=k1
     rw [hc] at k1;cases k1
    ·obtain ⟨c',e7⟩:=ch y f3
     have:=cf e7
     rw [e5] at this
     cases this
     have hyx:(y == x)=false:=by
      have:=(List.nodup_cons.mp ck.nd).1
      simp only [beq_eq_false_iff_ne]
      intro z
      subst z
      exact this (List.mem_of_getElem? e1)
     refine .inr ⟨.inl (lW I.ok.kind hc f3),c,by show ((x,C+1) :: cl).lookup y=some c;rw [List.lookup_cons,hyx];exact e7,?_⟩
     obtain ⟨o,ho,hd⟩:=e6
     exact ⟨o,old _ _ ho,hd⟩
 ·rcases lk e with ⟨p1,p2⟩ | ⟨p1,p2⟩
  ·rw [p2];exact ⟨none,Pn⟩
  ·obtain ⟨v,o,ho,hd⟩:=I.cell y c (cf p2)
   exact ⟨v,o,old _ _ ho,hd⟩
 ·cases i with
  | zero=>cases e
  | succ i=>
    obtain ⟨j,f1,f2⟩:=zM (show (iI fs ρ)[i]?=some (some d) from e)
    obtain ⟨v,g1,g2⟩:=r.env j d f2
    refine ⟨v,?_,g2⟩
    show (fs.map fun i=>(σ[i]?).join)[i]?=some (some v)
    rw [List.getElem?_map,f1]
    show some ((σ[j]?).join)=_
    rw [g1];rfl
 ·simp [iI]
end
section
variable {X:Cx} {sc:Scope} {x:Str} {ys:List Str} {fs:List Nat} {elt iter:Expr} {px pos:Pos} {ifs:List Expr} {tt:pH} {te:cY} {ti:cY}
theorem EC (hc:X.calm=true) (ck:lX X.env.scope X.N sc x ys fs) (ht:∀ cl C s0 H0 ex,FW (nA X sc x ys cl C s0 H0 ex) ifs tt) (he:∀ cl C s0 H0 ex,cE (nA X sc x ys cl C s0 H0 ex) elt te)
 {pins:List (Addr ×Obj)} {σ:St} {H:Hp} {s:Shared} {ρ:En} {M:Mp} {it:Addr} {fp:List Addr} {tn:Nat→Heap→Prop} {J:It} {inv:Hp→Prop} {ds:List D} {gd:Mp→Prop} {Q:DK} {E:Value→Shared→Prop} {Ma:Mp} {Ha:Hp} {use:Option (Value→Sem Unit)} {Qs:Value→Shared→Prop} (fa:Fr Ma Ha M H)
 (fin:∀ (C Dl:Addr) (s6:Shared) (H5:Hp),Inv X pins σ H5 s6→(∃ m,s6.heap.Ns C m)→iE X pins H5 C→Post X.K Ma Ha Q (.ref Dl) H5→compPost (model X.prog X.w) X.A E use Qs (.ref Dl) C (.ok .next) s6)
 (I:Inv X pins σ H s) (r:Rep X.K H σ ρ M) (T:Turn X.prog X.w X.K (.Name x px) J fp it tn) (st:tn 0 s.heap) (hf:∀ b∈fp,iE X pins H b) (hJ:AU X.K J inv ds) (hz:ds.length < sizeLine)
 (stay:∀ M1 H1,Fr M H M1 H1→cK X.K H1 M1→gd M1→inv H1) (q:ng gd tt te (iI fs ρ) (fun zs M2=> ∀ p,M2 p=none→Q (.ref p) (aA M2 p (.lst zs))) ds [] M) :
 wpAny (model X.prog X.w) X.A (newList []) (fun acc s3=>wpAny (model X.prog X.w) X.A (newFunctionEnv sc X.env.globals (bW X.env.cells sc.names []) [] X.env.qual none .none (some X.env)) (fun cenv s4=>
  codeAny (model X.prog X.w) X.A (.compStart (.ListComp elt [⟨.Name x px,iter,ifs,0⟩] sc pos) 0 (.ref it) acc { cenv with scope:=relabel sc X.env }) (compPost (model X.prog X.w) X.A E use Qs acc cenv.locals) s4) E s3) E s:=by
 have hfp:∀ b∈fp,b < s.heap.objs.size:=fun b hb=>by
  obtain ⟨o,e,_⟩:=T.obj 0 _ st b hb
  exact Heap.lt_size e
 refine wpAny_newList (hsz:=Nat.zero_le _) ?_
 have fD:H s.heap.objs.size=none:=I.hok.fresh (Nat.le_refl _)
 have k1:∀ b o,s.heap.get? b=some o→(s.heap.push { cls:= .type "list",data:= .seq ([]:List Value).toArray }).get? b=some o:=fun b o e=>Heap.get?_push_of_some _ e
 have z3:(s.heap.push { cls:= .type "list",data:= .seq ([]:List Value).toArray }).objs.size=s.heap.objs.size+1:=Heap.size_push ..
 have I3:Inv X pins σ (upd H s.heap.objs.size (.lst [])) { s with heap:=s.heap.push { cls:= .type "list",data:= .seq ([]:List Value).toArray } }:=
  I.laid (t':=s.toks) k1 (Nat.le_refl _) ⟨Nat.zero_le _,[],0,.nil,Heap.get?_push_size _ rfl⟩
 refine A4 ck.cells ?_
 generalize Mv:({ s with heap:=s.heap.push { cls:= .type "list",data:= .seq ([]:List Value).toArray } }:Shared)=s3 at I3 ⊢
 have O6:s3.heap.objs.size=s.heap.objs.size+1:=by rw [← Mv];exact z3
 generalize Pp:(s3.heap.push { cls:= .type "dict",data:= .dict #[] }).push { cls:= .type "cell",data:= .cell none }=h1
 have old:∀ b o,s3.heap.get? b=some o→h1.get? b=some o:=fun b o e=>by rw [← Pp];exact Heap.get?_push_of_some _ (Heap.get?_push_of_some _ e)
 have NJ:∃ m,h1.Ns s3.heap.objs.size m:=⟨_,(Heap.Ns.new s3.heap (.type "dict")).keeps fun b o e=>by rw [← Pp];exact Heap.get?_push_of_some _ e⟩
 have Pn:h1.IsCell (s3.heap.objs.size+1) none:=by
  have e:=Heap.get?_push_size (s3.heap.push { cls:= .type "dict",data:= .dict #[] }) (o:={ cls:= .type "cell",data:= .cell none }) rfl
  rw [Heap.size_push,Pp] at e
  exact ⟨_,e,rfl⟩
 have Mw:∀ b∈fp,iE X pins (upd H s.heap.objs.size (.lst [])) b:=fun b hb=>⟨by rw [bh (Nat.ne_of_lt (hfp b hb))];exact (hf b hb).1,(hf b hb).2⟩
 have Mx:Fr M H M (upd H s.heap.objs.size (.lst [])):=Fr.new fD fun _ _=>rfl
 have r3:Rep X.K (upd H s.heap.objs.size (.lst [])) σ ρ M:=r.go Mx (r.mem.new fD)
 obtain ⟨σ',I4,r4⟩:=A5 (s:=s3) (s':={ s3 with heap:=h1 }) (C:=s3.heap.objs.size) (fp:=fp) ck I3 r3 rfl (Nat.le_refl _) old NJ Pn rfl rfl Mw (fun b hb=>by rw [O6];exact Nat.lt_succ_of_lt (hfp b hb))
 have MD:M s.heap.objs.size=none:=r.mem.free fD
 have My:tn 0 h1:=T.keep 0 _ _ st fun b hb o e=>old b o (by rw [← Mv];exact k1 b o e)
 have J0:∀ {H':Hp},(∀ b∈fp,H' b=none)→∀ b∈fp,iE (nA X sc x ys (bW X.env.cells sc.names []) s3.heap.objs.size s3 (upd H s.heap.objs.size (.lst [])) fp) [] H' b:=fun {H'} hn b hb=>
  ⟨hn b hb,(I4.ok.Ig b hb).1,I4.ok.zo b hb,.inl hb,fun y c e z=>(I4.ok.Ig b hb).2 y c e z,fun p hp=>by cases hp⟩
 have loop:∀ s4:Shared,s4= { s3 with heap:=h1 }→
  codeAny (model X.prog X.w) X.A (.compLoop (.ListComp elt [⟨.Name x px,iter,ifs,0⟩] sc pos) 0 (.ref it) (.ref s.heap.objs.size) ((nA X sc x ys (bW X.env.cells sc.names []) s3.heap.objs.size s3 (upd H s.heap.objs.size (.lst [])) fp)).env) (compPost (model X.prog X.w) X.A E use Qs (.ref s.heap.objs.size) s3.heap.objs.size) s4:=by
  rintro s4 rfl
  refine codeAny_loop rfl (I:=fun n s'=> ∃ i acc M',n=ds.length - i∧i≤ds.length∧Mu X (nA X sc x ys (bW X.env.cells sc.names []) s3.heap.objs.size s3 (upd H s.heap.objs.size (.lst [])) fp) s.heap.objs.size fp tn M H (iI fs ρ) i s' acc M'∧ng gd tt te (iI fs ρ) (fun zs M2=> ∀ p,M2 p=none→Q (.ref p) (aA M2 p (.lst zs))) (ds.drop i) acc M')
   (fun n s5 hI=>?_) ds.length ⟨0,[],M,rfl,Nat.zero_le _,⟨σ',_,none,[],I4,My,fun b hb=>(Mw b hb).1,r4,Mx,dR,MD,aS.mpr rfl,Nat.le_refl _⟩,q⟩
  obtain ⟨i,acc,M5,rfl,hi,⟨σ5,H5,y5,ws,I5,Gk,f5,r5,BS,Mz,MA,MB,RB⟩,q5⟩:=hI
  show wpAny (model X.prog X.w) X.A ((compTurn (.ListComp elt [⟨.Name x px,iter,ifs,0⟩] sc pos) 0 (.ref it) (.ref s.heap.objs.size) ((nA X sc x ys (bW X.env.cells sc.names []) s3.heap.objs.size s3 (upd H s.heap.objs.size (.lst [])) fp)).env).onRaise (fun z=>do { noteFrame z ((nA X sc x ys (bW X.env.cells sc.names []) s3.heap.objs.size s3 (upd H s.heap.objs.size (.lst [])) fp)).env;theTreesLotGoes z })) _ _ s5
  refine wpAny_noted ?_
  rw [rQ]
  refine wpAny_bind (wpAny_standAt ?_)
  by_cases hlt:i < ds.length
  ·have hdr:ds.drop i=ds[i] :: ds.drop (i+1):=List.drop_eq_getElem_cons hlt
   rw [hdr] at q5
   obtain ⟨hg,q5⟩:=q5
   have hinv:=stay M5 H5 BS r5.mem hg
   refine wpAny_bind (qt (T.item (nA X sc x ys (bW X.env.cells sc.names []) s3.heap.objs.size s3 (upd H s.heap.objs.size (.lst [])) fp) rfl rfl rfl hc i [] s5 σ5 H5 (fun _ _=>False) I5 (J0 f5) Gk (hJ.go i H5 hlt hinv)) fun r6 s6 ⟨u,e6,h6⟩=>?_)
   subst e6
   refine wpAny_bind (qt h6 fun _ s7 ⟨v,H7,I7,rv,yl,J1,f7⟩=>?_)
   obtain ⟨e7,d,hd1,hd2⟩:=hJ.FT i H5 v H7 hlt hinv yl
   subst e7
   have ed:d=ds[i]:=Option.some.inj (hd1.symm.trans (List.getElem?_eq_getElem hlt))
   subst ed
   have O7:=I7.pinned (J0 f7) (T.obj _ _ J1)
   have lx:(relabel sc X.env).names.lookup x=some .cell:=iC ck.loc
   refine wpAny_bind (qt ((bg (X:=(nA X sc x ys (bW X.env.cells sc.names []) s3.heap.objs.size s3 (upd H s.heap.objs.size (.lst [])) fp)) (i:=0) (x:=x) (pos:=px) ck.nd rfl (.inr lx) (.inl (beq_self_eq_true x))).run _ s7 σ5 H7 (y5 :: iI fs ρ) M5 v ds[i] u (fun ρ' M'=>ρ'=some ds[i] :: iI fs ρ∧M'=M5) O7 r5 rv hd2 ⟨rfl,rfl⟩) fun _ s8 ⟨σ8,H8,I8,ρ8,M8,J2,r8,e8,O8⟩=>?_)
   subst e8 O8
   obtain ⟨O9,J3⟩:=J2 _ _ MA Mz
   refine wpAny_bind (qt ((ht _ _ _ _ _).run _ s8 σ8 H8 _ M8 _ I8 r8 q5) fun b s9 ⟨H9,I9,M9,G7,Pa,q9⟩=>?_)
   obtain ⟨MC,ME⟩:=G7 _ _ J3 O9
   have r9:=r8.go G7 Pa
   have Ew:=(BS.trans J2).trans G7
   have MF:aL X.K H9 acc ws:=aL.mono ((J2.trans G7).ext r5.mem) _ _ MB
   have next:∀ {H':Hp} {s':Shared},Inv (nA X sc x ys (bW X.env.cells sc.names []) s3.heap.objs.size s3 (upd H s.heap.objs.size (.lst [])) fp) ([] ++ qS fp s7.heap) σ8 H' s'→(tn (i+1) s'.heap∧∀ b∈fp,H' b=none):=fun {H' s'} I'=>by
    have pin:∀ b∈fp,∀ o,s7.heap.get? b=some o→s'.heap.get? b=some o∧H' b=none:=fun b hb o e=>by
     have:=I'.pin (b,o) (List.mem_append_right _ (List.mem_append_right _ (lO hb e)))
     exact ⟨this.1,this.2.1⟩
    refine ⟨T.keep _ _ _ J1 fun b hb o e=>(pin b hb o e).1,fun b hb=>?_⟩
    obtain ⟨o,e,_⟩:=T.obj _ _ J1 b hb
    exact (pin b hb o e).2
   cases b with
   | false=>
     rw [if_neg Bool.false_ne_true]
     obtain ⟨n1,n2⟩:=next I9
     exact wpAny_pure ⟨rfl,ds.length - (i+1),by omega,i+1,acc,M9,rfl,hlt,⟨σ8,H9,_,ws,I9.iS,n1,n2,r9,Ew,MC,ME,MF,by omega⟩,q9⟩
   | true=>
     rw [if_pos rfl]
     refine wpAny_bind (qt ((he _ _ _ _ _).run _ s9 σ8 H9 _ M9 _ I9 r9 q9) fun Pb Pc ⟨v10,zN,Pd,J4,dy,G8,yb,J5,Ex,Pe⟩=>?_)
     obtain ⟨Ey,Ez⟩:=yb _ _ ME MC
     have MG:=r9.go yb Ex
     have EA:aL X.K zN acc ws:=aL.mono (yb.ext r9.mem) _ _ MF
     have lw:ws.length < sizeLine:=by rw [← EA.length];omega
     refine wpAny_bind (qt (kI (X:=(nA X sc x ys (bW X.env.cells sc.names []) s3.heap.objs.size s3 (upd H s.heap.objs.size (.lst [])) fp)) _ Pc σ8 zN (.ref s.heap.objs.size) [v10] (.ref s.heap.objs.size) [Pb] (fun _ H'=>H'=upd zN s.heap.objs.size (.lst (ws ++ [v10]))) Pd rfl (.cons J4 .nil) ⟨_,ws,v10,rfl,rfl,Ey,lw,rfl⟩) fun _ RC ⟨_,RD,MH,_,Pg⟩=>?_)
     subst Pg
     have ex:Ext zN (upd zN s.heap.objs.size (.lst (ws ++ [v10]))):=Ext.jP Ey
     have J6:cK X.K (upd zN s.heap.objs.size (.lst (ws ++ [v10]))) G8:=fun a o e=>by
      have na:a≠s.heap.objs.size:=fun z=>by rw [z,Ez] at e;cases e
      exact (Ex a o e).mono ex fun u q=>by rw [bh na];exact q
     have Ph:Rep X.K (upd zN s.heap.objs.size (.lst (ws ++ [v10]))) σ8 (some ds[i] :: iI fs ρ) G8:=⟨fun j d e=>let ⟨v,e1,e2⟩:=MG.env j d e;⟨v,e1,Dat.mono ex _ _ e2⟩,MG.len,J6⟩
     have J7:Fr M H G8 (upd zN s.heap.objs.size (.lst (ws ++ [v10]))):=fun b o n e=>by
      obtain ⟨e1,n1⟩:=(Ew.trans yb) b o n e
      exact ⟨by rw [bh (bX e fD)];exact e1,n1⟩
     obtain ⟨n1,n2⟩:=next MH
     exact wpAny_pure ⟨rfl,ds.length - (i+1),by omega,i+1,acc ++ [dy],G8,rfl,hlt,⟨σ8,_,_,ws ++ [v10],MH.iS,n1,n2,Ph,J7,dR,Ez,aL.mono ex _ _ (EA.append (aL.one J5)),by simp;omega⟩,Pe⟩
  ·have ei:i=ds.length:=by omega
   subst ei
   rw [List.drop_of_length_le (Nat.le_refl _)] at q5
   obtain ⟨hg,q5⟩:=q5
   have hinv:=stay M5 H5 BS r5.mem hg
   refine wpAny_bind (qt (T.done (nA X sc x ys (bW X.env.cells sc.names []) s3.heap.objs.size s3 (upd H s.heap.objs.size (.lst [])) fp) rfl rfl rfl hc ds.length [] s5 σ5 H5 (fun _ _=>False) I5 (J0 f5) Gk (hJ.stop H5 hinv)) fun r6 s6 ⟨e6,I6⟩=>?_)
   subst e6
   refine wpAny_pure ?_
   obtain ⟨m,hm,_⟩:=id I6.loc
   have I7:Inv X pins σ H5 s6:=I3.Ij (s':=s6) (ch:=fp) I6.os I6.base I6.hok I6.bare fun b hb=>⟨(hf b hb).2.2.2.1,(hf b hb).2.1,(hf b hb).2.2.2.2.1,(hf b hb).2.2.2.2.2⟩
   refine fin _ _ s6 H5 I7 ⟨m,hm⟩ (I3.CL (Nat.le_refl _) I6.free) (Post.back fa ⟨.ref s.heap.objs.size,aA M5 s.heap.objs.size (.lst acc),fun b o n e=>?_,aO.mpr rfl,fun a o e=>?_,q5 _ MA⟩)
   ·obtain ⟨e1,n1⟩:=BS b o n e
    exact ⟨e1,by rw [bG (bX e fD)];exact n1⟩
   ·by_cases ha:a=s.heap.objs.size
    ·subst ha
     rw [ah] at e
     cases e
     exact ⟨ws,Mz,MB⟩
    ·rw [bG ha] at e
     exact r5.mem a o e
 exact codeAny_compStart_list (loop _ rfl) (T.self X.A 0 _ _ _ My (loop _ rfl))
theorem J8 {use:Option (Value→Sem Unit)} {Qs:Value→Shared→Prop} {ps:Pos} (hc:X.calm=true) (hk:nU X.env.scope X.N sc x ys fs=true) (ht:∀ cl C s0 H0 ex,FW (nA X sc x ys cl C s0 H0 ex) ifs tt) (he:∀ cl C s0 H0 ex,cE (nA X sc x ys cl C s0 H0 ex) elt te)
 (hs:∀ z,foldedSetIterable iter X.env z=pure z) {pins:List (Addr ×Obj)} {s:Shared} {σ:St} {H:Hp} {ρ:En} {M:Mp} {Q:DK} (I:Inv X pins σ H s)
 (fin:∀ (C Dl:Addr) (s6:Shared) (H5:Hp),Inv X pins σ H5 s6→(∃ m,s6.heap.Ns C m)→iE X pins H5 C→Post X.K M H Q (.ref Dl) H5→compPost (model X.prog X.w) X.A X.xe use Qs (.ref Dl) C (.ok .next) s6)
 (h:wpAny (model X.prog X.w) X.A (eval iter X.env) (fun v s1=>wpAny (model X.prog X.w) X.A (pyIter v) (NC X pins σ (.Name x px) (QC X fs tt te σ ρ M H Q)) X.xe s1) X.xe s) :
 wpAny (model X.prog X.w) X.A (comprehension (.ListComp elt [⟨.Name x px,iter,ifs,0⟩] sc pos) sc X.env ps (newList []) false (eval iter X.env) use) Qs X.xe s:=by
 have ck:=lX.of hk
 refine wpAny_comprehension_free (use:=use) (cl:=bW X.env.cells sc.names []) rfl hs (tY fun y hy z=>I.ok.has y.1 (.inl (ck.JZ y hy z))) ck.kind ck.names (dD h fun v s1 h1=>dD h1 fun itv s2 h2=>?_)
 obtain ⟨it,fp,tn,J,H2,e,I2,T,st2,f2,M2,inv,ds,gd,fr,r2,hJ,hz,stay,q⟩:=h2
 subst e
 exact EC hc ck ht he fr fin I2 r2 T st2 f2 hJ hz stay q
theorem J9 (hc:X.calm=true) (hk:nU X.env.scope X.N sc x ys fs=true) (hi:cE X iter ti) (ht:∀ cl C s0 H0 ex,FW (nA X sc x ys cl C s0 H0 ex) ifs tt) (he:∀ cl C s0 H0 ex,cE (nA X sc x ys cl C s0 H0 ex) elt te)
 (hs:∀ z,foldedSetIterable iter X.env z=pure z:=by intro _;rfl):K9 X sc x px ys fs iter ifs elt (MI fs ti tt te):=by
 constructor
 intro use Qs ps pos pins s σ H ρ M Q I r h fin
 refine J8 (ρ:=ρ) hc hk ht he hs I fin (xV hi.dn pins s σ H _ I (dF r h fun v H' d M' f dv r' ⟨a,xs,e1,hM,hz,q⟩=>?_))
 subst e1
 obtain rfl:=aO.mp dv
 obtain ⟨zs,ha,hy⟩:=r'.mem.lst hM
 exact ⟨a,rfl,⟨zs,gO.of ha⟩,M',_,xs,_,f,r',AV,hz,fun M1 H1 f1 oY g1=>oY.lst g1,q.out⟩
end
end L3
namespace L3
open PySem PySem.Spec PyProof.Rows L2
section
variable {X:Cx}
theorem qu {ds es:List D} (h:ds.length≠es.length):ee ds es=false:=by
 rw [fX,beq_eq_false_iff_ne.mpr h,Bool.and_false]
def Pq:R3:=fun d e M Q=> ∃ a b xs ys,d= .ref a∧e= .ref b∧M a=some (.lst xs)∧M b=some (.lst ys)∧xs.all (plain 9)=true∧ys.all (plain 9)=true∧Q (.bl (ee xs ys)) M
theorem MM (hu:X.A.units+64 < cLine):pS X (compareOp .Eq) Pq:=by
 constructor
 intro pins s σ H M x y d e v u Q I rm rx ry dx dy ⟨a,b,xs,ys,e1,e2,ha,hb,pa,pb,q⟩
 subst e1;subst e2
 obtain rfl:=aO.mp dx
 obtain rfl:=aO.mp dy
 obtain rfl:v=Value.ref a:=rx
 obtain rfl:u=Value.ref b:=ry
 obtain ⟨zs,h1,h2⟩:=rm.lst ha
 obtain ⟨ws,h3,h4⟩:=rm.lst hb
 obtain ⟨its,rv,pl,hz⟩:=I.list (gO.of (K:=X.K) h1)
 obtain ⟨its2,qi,C0,hz2⟩:=I.list (gO.of (K:=X.K) h3)
 have l1:=h2.length.trans rv.length
 have l2:=h4.length.trans qi.length
 have fin:∀ k,k=ee xs ys→EP X pins σ (Post X.K M H Q) (.bool k) s:=fun k e=>⟨.bl k,H,I,rfl,aG rm (bx.mpr rfl) (by rw [e];exact q)⟩
 by_cases hs:its.toArray.size=its2.toArray.size
 ·refine SeqAt.RcAt.lists (A:=X.A) (s:=s) (e:=fun j=>dQ (xs.getD j .bK) (ys.getD j .bK)) pl.isList C0.isList hs (by omega) (kO I.hok (n:=9) (by show X.A.units+1+9 < cLine;omega) pa pb h2 h4 rv qi) _ _ _ _ (fin _ ?_)
  simp only [List.size_toArray] at hs
  rw [fX,List.size_toArray,← l1]
  have e:ys.length=xs.length:=by omega
  rw [e,Nat.min_self,beq_self_eq_true,Bool.and_true]
 ·refine SeqAt.RcAt.lists_lengths (A:=X.A) (s:=s) pl.isList C0.isList (by simpa using hs) (by omega) _ _ _ _ (fin _ ?_)
  simp only [List.size_toArray] at hs
  exact (qu (by omega)).symm
abbrev MN:=En→Mp→(Option Int→Mp→Prop)→Prop
structure NL (X:Cx) (e:Option Expr) (t:MN):Prop where
 dn:∃ t2:TO,PO X e t2∧∀ σ H ρ M Q Q',Rep X.K H σ ρ M→t ρ M Q→(∀ o H' M',Fr M H M' H'→Rep X.K H' σ ρ M'→Q o M'→Q' o H')→t2 σ H Q'
def Pu:MN:=fun _ M Q=>Q none M
def Ka (t:cY):MN:=fun ρ M Q=>t ρ M fun d M1=> ∃ i,d= .int i∧Q (some i) M1
theorem qY:NL X none Pu:=⟨B0,Gr,fun σ H ρ M Q Q' r q k=>k none H M (.refl _ _) r q⟩
theorem gw {e:Expr} {t:cY} (h:cE X e t):NL X (some e) (Ka t):=⟨Il (L3.dn X.K t),Gs h.dn,fun σ H ρ M Q Q' r q k=>dF r q fun v H' d M' f dv r' ⟨i,e1,q⟩=>by
 subst e1
 obtain rfl:=aU.mp dv
 exact ⟨i,rfl,k (some i) H' M' f r' q⟩⟩
def cutD (xs:List D) (lo hi:Option Int):List D:=(xs.drop (HT.rN xs.length 0 lo)).take (HT.rN xs.length xs.length hi - HT.rN xs.length 0 lo)
theorem aL.drop {K:PySem.W.Frag} {H:Hp}:∀ {ds:List D} {xs:List V} (n:Nat),aL K H ds xs→aL K H (ds.drop n) (xs.drop n)
 | ds,xs,0,h=>h
 | [],xs,n+1,h=>by rw [aS.mp h];exact aS.mpr rfl
 | d :: ds,xs,n+1,h=>by
   obtain ⟨v,vs,rfl,_,h2⟩:=aP.mp h
   exact aL.drop n h2
theorem aL.take {K:PySem.W.Frag} {H:Hp}:∀ {ds:List D} {xs:List V} (n:Nat),aL K H ds xs→aL K H (ds.take n) (xs.take n)
 | ds,xs,0,h=>aS.mpr rfl
 | [],xs,n+1,h=>by rw [aS.mp h];exact aS.mpr rfl
 | d :: ds,xs,n+1,h=>by
   obtain ⟨v,vs,rfl,h1,h2⟩:=aP.mp h
   exact aP.mpr ⟨v,vs.take n,rfl,h1,aL.take n h2⟩
def MP:R3:=fun d e M Q=> ∃ a b xs ys,d= .ref a∧e= .ref b∧M a=some (.lst xs)∧M b=some (.lst ys)∧xs.length+ys.length≤sizeLine∧∀ p,M p=none→Q (.ref p) (aA M p (.lst (xs ++ ys)))
theorem fJ:pS X (binaryOp .Add) MP:=K8 Jz fun H M x y d e Q rm dx dy ⟨a,b,xs,ys,e1,e2,ha,hb,hz,q⟩=>by
 subst e1;subst e2
 obtain rfl:=aO.mp dx
 obtain rfl:=aO.mp dy
 obtain ⟨zs,h1,h2⟩:=rm.lst ha
 obtain ⟨ws,h3,h4⟩:=rm.lst hb
 exact ⟨a,b,zs,ws,rfl,rfl,h1,h3,by rw [← h2.length,← h4.length];exact hz,fun p hp=>⟨.ref p,aA M p (.lst (xs ++ ys)),Fr.new hp fun _ hb=>bG hb,aO.mpr rfl,rm.newL hp (h2.append h4),q p (rm.free hp)⟩⟩
end
end L3
namespace L3
open PySem PySem.Spec PyProof.Rows L2
section
variable {X:Cx}
def ED (M:Mp) (d:D) (xs:List D):Prop:=d= .tF xs∨∃ a,d= .ref a∧M a=some (.lst xs)
theorem ED.of {M:Mp} {a:Addr} {xs:List D} (h:M a=some (.lst xs)):ED M (.ref a) xs:= .inr ⟨a,rfl,h⟩
theorem ED.sq {K:PySem.W.Frag} {H:Hp} {M:Mp} {d:D} {xs:List D} {x:V} (h:ED M d xs) (rm:cK K H M) (dx:Dat K H d x):∃ a zs,x= .ref a∧gO K H a zs∧aL K H xs zs:=by
 rcases h with rfl | ⟨a,rfl,hM⟩
 ·obtain ⟨a,zs,rfl,h1,h2⟩:=qf.mp dx
  exact ⟨a,zs,rfl,h1.sq,h2⟩
 ·obtain rfl:=aO.mp dx
  obtain ⟨zs,h1,h2⟩:=rm.lst hM
  exact ⟨a,zs,rfl,gO.of h1,h2⟩
def MQ:R3:=fun d e M Q=> ∃ xs ys,ED M d xs∧ED M e ys∧xs.all (plain 9)=true∧ys.all (plain 9)=true∧Q (.bl (ee xs ys)) M
def MR:R3:=fun d e M Q=> ∃ xs ys,ED M d xs∧ED M e ys∧xs.all (plain 9)=true∧ys.all (plain 9)=true∧Q (.bl (!ee xs ys)) M
theorem EE (hu:X.A.units+64 < cLine):pS X (compareOp .Eq) MQ:=by
 constructor
 intro pins s σ H M x y d e v u Q I rm rx ry dx dy ⟨xs,ys,ha,hb,pa,pb,q⟩
 obtain ⟨a,zs,rfl,h1,h2⟩:=ha.sq rm dx
 obtain ⟨b,ws,rfl,h3,h4⟩:=hb.sq rm dy
 obtain rfl:v=Value.ref a:=rx
 obtain rfl:u=Value.ref b:=ry
 obtain ⟨its,rv,pl,hz⟩:=I.list h1
 obtain ⟨its2,qi,C0,hz2⟩:=I.list h3
 have l1:=h2.length.trans rv.length
 have l2:=h4.length.trans qi.length
 have fin:∀ k,k=ee xs ys→EP X pins σ (Post X.K M H Q) (.bool k) s:=fun k e=>⟨.bl k,H,I,rfl,aG rm (bx.mpr rfl) (by rw [e];exact q)⟩
 by_cases hs:its.toArray.size=its2.toArray.size
 ·refine SeqAt.RcAt.lists (A:=X.A) (s:=s) (e:=fun j=>dQ (xs.getD j .bK) (ys.getD j .bK)) pl.isList C0.isList hs (by omega) (kO I.hok (n:=9) (by show X.A.units+1+9 < cLine;omega) pa pb h2 h4 rv qi) _ _ _ _ (fin _ ?_)
  simp only [List.size_toArray] at hs
  rw [fX,List.size_toArray,← l1]
  have e:ys.length=xs.length:=by omega
  rw [e,Nat.min_self,beq_self_eq_true,Bool.and_true]
 ·refine SeqAt.RcAt.lists_lengths (A:=X.A) (s:=s) pl.isList C0.isList (by simpa using hs) (by omega) _ _ _ _ (fin _ ?_)
  simp only [List.size_toArray] at hs
  exact (qu (by omega)).symm
theorem qZ (hu:X.A.units+64 < cLine):pS X (compareOp .NotEq) MR:=by
 constructor
 intro pins s σ H M x y d e v u Q I rm rx ry dx dy ⟨xs,ys,ha,hb,pa,pb,q⟩
 obtain ⟨a,zs,rfl,h1,h2⟩:=ha.sq rm dx
 obtain ⟨b,ws,rfl,h3,h4⟩:=hb.sq rm dy
 obtain rfl:v=Value.ref a:=rx
 obtain rfl:u=Value.ref b:=ry
 obtain ⟨its,rv,pl,hz⟩:=I.list h1
 obtain ⟨its2,qi,C0,hz2⟩:=I.list h3
 have l1:=h2.length.trans rv.length
 have l2:=h4.length.trans qi.length
 have fin:∀ k,k=(!ee xs ys)→EP X pins σ (Post X.K M H Q) (.bool k) s:=fun k e=>⟨.bl k,H,I,rfl,aG rm (bx.mpr rfl) (by rw [e];exact q)⟩
 by_cases hs:its.toArray.size=its2.toArray.size
 ·refine SeqAt.RcNeAt.lists (A:=X.A) (s:=s) (e:=fun j=>dQ (xs.getD j .bK) (ys.getD j .bK)) pl.isList C0.isList hs (by omega) (kO I.hok (n:=9) (by show X.A.units+1+9 < cLine;omega) pa pb h2 h4 rv qi) _ _ _ _ (fin _ ?_)
  simp only [List.size_toArray] at hs
  rw [fX,List.size_toArray,← l1]
  have e:ys.length=xs.length:=by omega
  rw [e,Nat.min_self,beq_self_eq_true,Bool.and_true]
 ·refine SeqAt.RcNeAt.lists_lengths (A:=X.A) (s:=s) pl.isList C0.isList (by simpa using hs) (by omega) _ _ _ _ (fin _ ?_)
  simp only [List.size_toArray] at hs
  rw [qu (by omega)]
  rfl
def A6:D→Bool | .bK=>true | _=>false
def Pw:R3:=fun d e M Q=>e= .bK∧Q (.bl (A6 d)) M
def MS:R3:=fun d e M Q=>e= .bK∧Q (.bl (!A6 d)) M
theorem xo {K:PySem.W.Frag} {H:Hp} {d:D} {x:V} (h:Dat K H d x):decide (x= .bK)=A6 d:=by
 cases d with
 | bK=>obtain rfl:=cF.mp h;rfl
 | bl b=>obtain rfl:=bx.mp h;rfl
 | int i=>obtain rfl:=aU.mp h;rfl
 | str z=>obtain rfl:=gG.mp h;rfl
 | ty n=>obtain rfl:=AM.mp h;rfl
 | ref a=>obtain rfl:=aO.mp h;rfl
 | tup ds=>obtain ⟨a,xs,rfl,_⟩:=bB.mp h;rfl
 | tF ds=>obtain ⟨a,xs,rfl,_⟩:=qf.mp h;rfl
 | Io n=>obtain ⟨a,o,u,rfl,_⟩:=B8.mp h;rfl
 | exc C nm ds=>obtain ⟨a,o,u,xs,rfl,_⟩:=GA.mp h;rfl
theorem iD:pS X (compareOp .Is) Pw:=K8 Jo fun H M x y d e Q rm dx dy ⟨e1,q⟩=>by
 subst e1
 exact ⟨cF.mp dy,by rw [xo dx];exact aG rm (bx.mpr rfl) q⟩
theorem q8:pS X (compareOp .IsNot) MS:=K8 Gn fun H M x y d e Q rm dx dy ⟨e1,q⟩=>by
 subst e1
 exact ⟨cF.mp dy,by rw [xo dx];exact aG rm (bx.mpr rfl) q⟩
def Kc:List D→Mp→DK→Prop:=fun ds M Q=> ∃ d xs,ds= [d]∧ED M d xs∧∀ p,M p=none→Q (.ref p) (aA M p (.lst xs))
theorem yc:Call3 X (.type "list") Kc:=D9 xZ fun H M xs ds Q rm dx ⟨d,ys,e1,hs,q⟩=>by
 subst e1
 obtain ⟨v,rfl,hv⟩:=jx dx
 obtain ⟨a,zs,rfl,h1,h2⟩:=hs.sq rm hv
 exact ⟨a,zs,rfl,.inl h1,fun p hp=>⟨.ref p,aA M p (.lst ys),Fr.new hp fun _ hb=>bG hb,aO.mpr rfl,rm.newL hp h2,q p (rm.free hp)⟩⟩
def Px (te:cY) (tl th:MN):cY:=fun ρ M Q=>te ρ M fun d M1=>tl ρ M1 fun lo M2=>th ρ M2 fun hi M3=> ∃ xs,ED M3 d xs∧∀ p,M3 p=none→Q (.ref p) (aA M3 p (.lst (cutD xs lo hi)))
theorem c7 {e:Expr} {lo hi:Option Expr} {te:cY} {tl th:MN} {p2 pos:Pos} (he:cE X e te) (hl:NL X lo tl) (hh:NL X hi th):cE X (.Subscript e (.Slice lo hi none p2) pos) (Px te tl th):=by
 obtain ⟨Uk,pl,gl⟩:=hl.dn
 obtain ⟨Ul,ph,gh⟩:=hh.dn
 refine up (DW Gx he.dn pl ph) fun σ H ρ M Q r q=>dF r q fun v H' d M' f dv r' q1=>gl _ _ _ _ _ _ r' q1 fun lo H2 M2 f2 r2 q2=>gh _ _ _ _ _ _ r2 q2 fun hi H3 M3 f3 r3 ⟨xs,hL,q3⟩=>?_
 obtain ⟨a,zs,rfl,hz,hd⟩:=hL.sq r3.mem (Dat.mono ((f2.trans f3).ext r'.mem) _ _ dv)
 have ec:cutD xs lo hi=(xs.drop (HT.rN zs.length 0 lo)).take (HT.rN zs.length zs.length hi - HT.rN zs.length 0 lo):=by unfold cutD;rw [hd.length]
 refine ⟨a,zs,rfl,hz,fun p hp=>⟨.ref p,aA M3 p (.lst (cutD xs lo hi)),((f.trans f2).trans f3).trans (Fr.new hp fun _ hb=>bG hb),aO.mpr rfl,r3.mem.newL hp ?_,q3 p (r3.mem.free hp)⟩⟩
 rw [ec]
 exact aL.take _ (aL.drop _ hd)
end
end L3
namespace L3
open PySem PySem.Spec PyProof.Rows L2
section
variable {X:Cx}
theorem qv {K:PySem.W.Frag} {H:Hp}:∀ {ns:List Int} {xs:List V},aL K H (ns.map D.int) xs→xs=ns.map V.int
 | [],xs,h=>aS.mp h
 | n :: ns,xs,h=>by
   obtain ⟨v,vs,rfl,h1,h2⟩:=aP.mp h
   rw [aU.mp h1,qv h2]
   rfl
def Kd:R3:=fun d e M Q=> ∃ a b a1 a2 b1 b2 x1 x2 y1 y2,d= .ref a∧e= .ref b∧M a=some (.lst [.ref a1,.ref a2])∧M b=some (.lst [.ref b1,.ref b2])∧M a1=some (.lst x1)∧M a2=some (.lst x2)∧M b1=some (.lst y1)∧M b2=some (.lst y2)∧
 a1≠b1∧a2≠b2∧x1.all (plain 9)=true∧x2.all (plain 9)=true∧y1.all (plain 9)=true∧y2.all (plain 9)=true∧Q (.bl (ee x1 y1 && ee x2 y2)) M
theorem t9 {pins:List (Addr ×Obj)} {σ:St} {H:Hp} {s:Shared} {M:Mp} {A:Around} (I:Inv X pins σ H s) (rm:cK X.K H M) (hu:A.units+12 < cLine) {a b:Addr} {xs ys:List D} (hne:a≠b) (ha:M a=some (.lst xs)) (hb:M b=some (.lst ys)) (pa:xs.all (plain 9)=true) (pb:ys.all (plain 9)=true) :
 SeqAt.EqAt A s (.ref a) (.ref b) (ee xs ys):=by
 obtain ⟨zs,h1,h2⟩:=rm.lst ha
 obtain ⟨ws,h3,h4⟩:=rm.lst hb
 obtain ⟨its,rv,pl,hz⟩:=I.list (gO.of (K:=X.K) h1)
 obtain ⟨its2,qi,C0,hz2⟩:=I.list (gO.of (K:=X.K) h3)
 have l1:=h2.length.trans rv.length
 have l2:=h4.length.trans qi.length
 refine SeqAt.EqAt.of_refs hne ?_
 by_cases hs:its.toArray.size=its2.toArray.size
 ·have key:=SeqAt.RcAt.lists (A:=A) (s:=s) (e:=fun j=>dQ (xs.getD j .bK) (ys.getD j .bK)) pl.isList C0.isList hs (by omega) (kO I.hok (n:=9) (by show A.units+1+9 < cLine;omega) pa pb h2 h4 rv qi)
  simp only [List.size_toArray] at hs
  have e:ys.length=xs.length:=by omega
  rw [fX,e,Nat.min_self,beq_self_eq_true,Bool.and_true]
  rw [List.size_toArray,← l1] at key
  exact key
 ·have key:=SeqAt.RcAt.lists_lengths (A:=A) (s:=s) pl.isList C0.isList (by simpa using hs) (by omega)
  simp only [List.size_toArray] at hs
  rw [qu (by omega)]
  exact key
theorem Hf (hu:X.A.units+64 < cLine):pS X (compareOp .Eq) Kd:=by
 constructor
 intro pins s σ H M x y d e v u Q I rm rx ry dx dy hx
 obtain ⟨a,b,a1,a2,b1,b2,x1,x2,y1,y2,e1,e2,ha,hb,h1,h2,h3,h4,n1,n2,p1,p2,p3,p4,q⟩:=hx
 subst e1;subst e2
 obtain rfl:=aO.mp dx
 obtain rfl:=aO.mp dy
 obtain rfl:v=Value.ref a:=rx
 obtain rfl:u=Value.ref b:=ry
 obtain ⟨zs,g1,g2⟩:=rm.lst ha
 obtain ⟨ws,g3,g4⟩:=rm.lst hb
 obtain ⟨z1,z2,rfl,k1,k2⟩:=tK g2
 obtain ⟨w1,w2,rfl,k3,k4⟩:=tK g4
 obtain rfl:=aO.mp k1
 obtain rfl:=aO.mp k2
 obtain rfl:=aO.mp k3
 obtain rfl:=aO.mp k4
 obtain ⟨its,rv,pl,hz⟩:=I.list (gO.of (K:=X.K) g1)
 obtain ⟨its2,qi,C0,hz2⟩:=I.list (gO.of (K:=X.K) g3)
 obtain ⟨u1,u2,rfl,r1,r2⟩:=vals2 rv
 obtain ⟨v1,v2,rfl,r3,r4⟩:=vals2 qi
 obtain rfl:u1=Value.ref a1:=r1
 obtain rfl:u2=Value.ref a2:=r2
 obtain rfl:v1=Value.ref b1:=r3
 obtain rfl:v2=Value.ref b2:=r4
 have c1:=t9 (A:=X.A.in1) I rm (by show X.A.units+1+12 < cLine;omega) n1 h1 h3 p1 p3
 have c2:=t9 (A:=X.A.in1) I rm (by show X.A.units+1+12 < cLine;omega) n2 h2 h4 p2 p4
 refine SeqAt.RcAt.lists (A:=X.A) (s:=s) (e:=fun j=>if j=0 then ee x1 y1 else ee x2 y2) pl.isList C0.isList rfl (by omega) ?_ _ _ _ _ ⟨.bl _,H,I,rfl,aG rm (bx.mpr rfl) ?_⟩
 ·intro j hj1 hj2
  match j,hj1,hj2 with
  | 0,_,_=>exact c1
  | 1,_,_=>exact c2
 ·have e:(List.range #[Value.ref a1,Value.ref a2].size).all (fun j=>if j=0 then ee x1 y1 else ee x2 y2)=(ee x1 y1 && ee x2 y2):=by
   simp [List.range,List.range.loop]
  rw [e]
  exact q
end
end L3
namespace L3
open PySem PySem.Spec PyProof.Rows L2
theorem fq {ps:List Pl} {i:Nat} {x:D} (h:(ps.map Pl.d)[i]?=some x):∃ p,ps[i]?=some p∧x=p.d:=by
 rw [List.getElem?_map] at h
 cases e:ps[i]? with
 | none=>rw [e] at h;cases h
 | some p=>rw [e] at h;exact ⟨p,rfl,(Option.some.inj h).symm⟩
theorem A7 (ns:List Int):(ns.map D.int).all (plain 9)=true:=by
 rw [List.all_eq_true]
 intro d hd
 obtain ⟨i,_,rfl⟩:=List.mem_map.mp hd
 rfl
theorem lY {ns:List Int} {k:Int} (h0:0≤k) (h1:k < ns.length):∃ z:Int,z∈ns∧pR (ns.map D.int) k=some (.int z):=by
 obtain ⟨j,rfl⟩:∃ j:Nat,k=(j:Int):=⟨k.toNat,by omega⟩
 have hlt:j < ns.length:=by omega
 refine ⟨ns[j],List.getElem_mem hlt,br ?_⟩
 rw [List.getElem?_map,List.getElem?_eq_getElem hlt]
 rfl
theorem pX {ns:List Int} {n:Nat} {z:Int} (h:ns.all (fun z=>decide (z.natAbs < 2 ^ n))=true) (m:z∈ns):Sm n z:=of_decide_eq_true (List.all_eq_true.mp h z m)
theorem iJ {q:Pl} {ps:List Pl}:inD q.d (ps.map Pl.d)=decide (q∈ps):=by
 unfold inD
 rw [Bool.eq_iff_iff,List.any_eq_true,decide_eq_true_eq]
 constructor
 ·rintro ⟨x,hx,e⟩
  obtain ⟨p,hp,rfl⟩:=List.mem_map.mp hx
  rw [cL] at e
  rw [← of_decide_eq_true e];exact hp
 ·intro hq
  exact ⟨q.d,List.mem_map.mpr ⟨q,hq,rfl⟩,by rw [cL];exact decide_eq_true rfl⟩
theorem cz {ts:List Pl} {f:Pl→Bool} {i:Nat} {t:Pl} (h:ts[i]?=some t):(ts.take (i+1)).filter f=(ts.take i).filter f ++ (if f t=true then [t] else []):=by
 rw [List.take_succ,h,List.filter_append]
 congr 1
 show List.filter f [t]=_
 rw [List.filter_cons]
 rfl
theorem fY (ds:List D):ee ds []=ds.isEmpty:=by
 cases ds <;> simp [ee]
theorem o5 {ds:List D} (h:ds.all (plain 9)=true):ee ds ds=true:=by
 have:=kN 10 (.tup ds) h
 rwa [lR] at this
theorem iY {α:Type} (g:α→D) (xs:List α) (n:Nat) (h:n≤xs.length):cutD (xs.map g) (some (n:Int)) none=(xs.drop n).map g:=by
 unfold cutD
 rw [HT.BZ,HT.zy]
 rw [List.length_map,Nat.min_eq_left h,List.map_drop]
 exact List.take_of_length_le (by simp)
end L3
namespace Att
open PySem PySem.W PySem.Calls PyProof.Rows
def A8 (z:Int):Prop:=Builtin.Int.intBits z≤1048576
theorem ua {N:Nat}:∀ {ns:List Int},WData.weightAll (ns.map WData.int)≤N→∀ z∈ns,Builtin.Int.intBits z≤N
 | [],_,z,m=>by cases m
 | n :: ns,h,z,m=>by
   have e:WData.weightAll ((n :: ns).map WData.int)=Builtin.Int.intBits n+1+WData.weightAll (ns.map WData.int):=by
    rw [List.map_cons]
    simp only [WData.weightAll,WData.weight,Builtin.Int.intBits]
   rw [e] at h
   rcases List.mem_cons.mp m with rfl | m
   ·omega
   ·exact ua (by omega) z m
theorem Ke {ns:List Int} (h:WData.layableAll [WData.list (ns.map WData.int)]=true):∀ z∈ns,A8 z:=by
 have h:WData.layable (WData.list (ns.map WData.int))=true:=by simpa [WData.layableAll] using h
 unfold WData.layable at h
 have h:=of_decide_eq_true (Bool.and_eq_true_iff.mp h).2
 have e:WData.weight (WData.list (ns.map WData.int))=WData.weightAll (ns.map WData.int):=by simp only [WData.weight]
 rw [e] at h
 exact fun z m=>ua h z m
theorem yd {l:OpenLaw} {n:Nat} {q:Program} {loose:List Str} {XP:(Str→Option Value)→Heap→Prop} {YP:World→Heap→Prop} {d:DefRec}
 (hn:l.most=some n) (hdf:d.params.defaults= [])
 (call:∀ (w:World) (s₀ s₁:Shared) (mg mb:Str→Option Value) (fa:Addr) (o:Obj) (pm cd doc:Value) (a:Addr) (vs:List Value) (ns:List Int),
  Ground q loose [] XP w s₀ mg mb s₁.heap→YP w s₁.heap→
  s₁.heap.get? fa=some o→o.data= .func (docDef d.name d.params d.body d.scope pm cd doc)→s₁.heap.CodeRec cd d.name→mg d.name=some (.ref fa)→
  s₁.heap.get? a=some { cls:= .type "list",data:= .seq vs.toArray }→IntsAre vs ns→ns.length≤n→(∀ z∈ns,A8 z)→s₁.gens= #[]→
  codeAny (model l.prog w) callerA (.call (.ref fa) ⟨[.ref a],[]⟩) (fun r s'=>r= .ok (.ret (.bool true))∧OldK s₁.heap s'.heap∧s'.os=s₁.os∧AllBare s'.gens) s₁) :
 WalkO q loose XP YP l.row.toRowW d [] (fun f vs=>PySem.call f vs):=by
 intro w s₀ s₁ mg mb G Y fa o pm cd doc dV kV ho hd hcd hD hmg hg args vals as hpre hlay hrd hwl hlo
 obtain rfl:dV= .none:=Dflts.none hD hdf
 obtain rfl:kV= .none:=Dflts.noKw hD
 obtain ⟨a,vs,ns,rfl,rfl,hobj,hints,hlen⟩:=CT hn hpre hwl
 refine enter_call (codeAny_mono (call w s₀ s₁ mg mb fa o pm cd doc a vs ns G Y ho (fd_plain hd) hcd hmg hobj hints hlen (Ke hlay) hg) fun r s' hq=>?_)
 obtain ⟨rfl,h2,h3,h4⟩:=hq
 exact ⟨.inl ⟨.bool true,.bool true,[],rfl,fun _=>rfl,.bool true,CU l _,fun _=>⟨List.Pairwise.nil,fun _ hm=>(nomatch hm)⟩⟩,h2,h3,h4⟩
end Att
namespace L2
open PySem PySem.Spec PyProof.Rows
end L2
namespace L3
open PySem PySem.Spec PyProof.Rows L2 Att
def EF:sW:=fun ds Q=> ∃ ns:List Int,ds= [.tF (ns.map D.int)]∧ns.length≤63∧(∀ z∈ns,A8 z)∧Q (.bl true)
theorem Hg {K:PySem.W.Frag} {H:Hp} {a:Addr} {ns:List Int} {E:XK} (hl:ns.length≤63) (hb:∀ z∈ns,A8 z) (hO:Gz H) (hS:gO K H a (ns.map V.int)):rY K EF [.ref a] H (fun v _=>v= .bl true) E:=by
 have hz:Fz K H a (ns.map V.int):=by
  rcases hS with (h | ⟨o,h⟩) | h
  ·rcases hO a with z | ⟨o,xs,z⟩
   ·rw [z] at h;cases h
   ·rw [z] at h;cases h
  ·exact .inl ⟨o,h⟩
  ·exact .inr h
 exact ⟨[.tF (ns.map D.int)],fun d=>d= .bl true,aL.one (qf.mpr ⟨a,_,rfl,hz,wY ns⟩),⟨ns,rfl,hl,hb,rfl⟩,fun d v H' q dv _=>by subst q;exact bx.mp dv⟩
def Kf (i j:Int):Prop:=MulOk i j∨Jh i j∨(A8 i∧∃ n,Sm n j∧n≤1000)
theorem Kf.ok {i j:Int} (h:Kf i j):IntMulOk i j:=by
 rcases h with h | h | ⟨h,n,h1,h2⟩
 ·exact h.ok
 ·exact h.ok
 ·have:=qh h1
  exact IntMulOk.of_bits (Nat.le_trans h (by decide)) (Nat.le_trans this (by omega))
section
variable {X:Cx}
theorem jR:pS X (binaryOp .Mult) (wU Kf fun i j=>i*j):=zF (Lu fun _ _ _ _ _ _ _ hc q=>mul_int q hc.ok)
end
end L3
namespace L3
open PySem PySem.Spec PyProof.Rows L2
def dJ:List Pl→List Pl→Bool
 | [],[]=>false
 | [],_ :: _=>true
 | _ :: _,[]=>false
 | p :: ps,q :: qs=>if p=q then dJ ps qs else decide (aT p q)
theorem jA:∀ ps,dJ ps ps=false
 | []=>rfl
 | p :: ps=>by unfold dJ;rw [if_pos rfl];exact jA ps
theorem qw:∀ ps qs,dJ ps qs=true∨ps=qs∨dJ qs ps=true
 | [],[]=> .inr (.inl rfl)
 | [],_ :: _=> .inl rfl
 | _ :: _,[]=> .inr (.inr rfl)
 | p :: ps,q :: qs=>by
   unfold dJ
   by_cases e:p=q
   ·subst e
    rw [if_pos rfl,if_pos rfl]
    rcases qw ps qs with h | h | h
    ·exact .inl h
    ·exact .inr (.inl (by rw [h]))
    ·exact .inr (.inr h)
   ·rw [if_neg e,if_neg (Ne.symm e)]
    rcases gW e with h | h
    ·exact .inl (decide_eq_true h)
    ·exact .inr (.inr (decide_eq_true h))
theorem lZ:∀ ps qs rs,dJ ps qs=true→dJ qs rs=true→dJ ps rs=true
 | [],[],_,h,_=>by cases h
 | [],_ :: _,[],_,h=>by cases h
 | [],_ :: _,_ :: _,_,_=>rfl
 | _ :: _,[],_,h,_=>by cases h
 | _ :: _,_ :: _,[],_,h=>by cases h
 | p :: ps,q :: qs,r :: rs,h1,h2=>by
   unfold dJ at *
   by_cases e1:p=q
   ·subst e1
    rw [if_pos rfl] at h1
    by_cases e2:p=r
    ·rw [if_pos e2] at h2 ⊢;exact lZ ps qs rs h1 h2
    ·rw [if_neg e2] at h2 ⊢;exact h2
   ·rw [if_neg e1] at h1
    have b1:=of_decide_eq_true h1
    by_cases e2:q=r
    ·subst e2;rw [if_neg e1];exact h1
    ·rw [if_neg e2] at h2
     have b3:=b9 b1 (of_decide_eq_true h2)
     rw [if_neg (AX b3)]
     exact decide_eq_true b3
def sX (n:Nat) (h:Heap) (v:Value) (ps:List Pl):Prop:=ps.length=n∧∃ (a:Addr) (o:Obj) (its:List Value) (m:Nat),v= .ref a∧h.get? a=some o∧o.cls= .type "tuple"∧o.data= .seq its.toArray m∧dh h its ps
theorem dh.grow {h h':Heap} (g:cP h h'):∀ {us:List Value} {ps:List Pl},dh h us ps→dh h' us ps
 | _,_,.nil=> .nil
 | _,_,.cons a r=> .cons (a.grow g) (dh.grow g r)
theorem sX.grow {n:Nat} {h h':Heap} {v:Value} {ps:List Pl} (a:sX n h v ps) (g:cP h h'):sX n h' v ps:=by
 obtain ⟨hl,b,o,its,m,h1,h2,h3,h4,h5⟩:=a
 exact ⟨hl,b,o,its,m,h1,g _ _ h2,h3,h4,h5.grow g⟩
theorem sX.inj {n:Nat} {h:Heap} {v:Value} {ps qs:List Pl} (a:sX n h v ps) (b:sX n h v qs):ps=qs:=by
 obtain ⟨_,a1,o,its,m,rfl,h2,h3,h4,h5⟩:=a
 obtain ⟨_,a2,o',its',m',e,k2,k3,k4,k5⟩:=b
 injection e with e
 subst e
 rw [h2] at k2
 injection k2 with k2
 subst k2
 rw [h4] at k4
 injection k4 with k4 _
 have k4:its=its':=by simpa using k4
 subst k4
 rw [← h5.keys,← k5.keys]
open Classical in
noncomputable def DB (n:Nat) (h:Heap):KeyKind where
 α:=List Pl
 blt p q:=dJ p q
 irrefl p:=jA p
 trans p q r a b:=lZ p q r a b
 negTrans p q r a:=by
  rcases qw p q with c | c | c
  ·exact .inl c
  ·subst c;exact .inr a
  ·exact .inr (lZ _ _ _ c a)
 total p q a b:=by
  rcases qw p q with c | c | c
  ·rw [a] at c;cases c
  ·exact c
  ·rw [b] at c;cases c
 keyOf v:=if e:∃ p,sX n h v p then some e.choose else none
 dflt:=[]
open Classical in
theorem Ci {n:Nat} {h:Heap} {v:Value} {p:List Pl} (a:sX n h v p):(DB n h).keyOf v=some p:=by
 have e:∃ p,sX n h v p:=⟨p,a⟩
 show (if e:∃ p,sX n h v p then some e.choose else none)=some p
 rw [dif_pos e,sX.inj e.choose_spec a]
open Classical in
theorem EG {n:Nat} {h:Heap} {v:Value} {p:List Pl} (a:(DB n h).keyOf v=some p):sX n h v p:=by
 have a:(if e:∃ p,sX n h v p then some e.choose else none)=some p:=a
 by_cases e:∃ p,sX n h v p
 ·rw [dif_pos e] at a
  have:=e.choose_spec
  rwa [Option.some.inj a] at this
 ·rw [dif_neg e] at a;cases a
section
variable {P:Program} {w:World} {A:Around} {E:Value→Shared→Prop} {s:Shared}
theorem rf {u v:Value} {p q:Pl} {Q:Bool→Shared→Prop} (hu:A.units < cLine) (a:pK s.heap u p) (b:pK s.heap v q) (h:Q (decide (p=q)) s):wpAny (model P w) A (eqBool u v) Q E s:=by
 obtain ⟨a1,o1,t1,u1,n1,rfl,h2,h3,h4⟩:=a
 obtain ⟨a2,o2,t2,u2,n2,rfl,k2,k3,k4⟩:=b
 refine wpAny_eqBool_tuple (knd:=intKind P w) (x:=[p.x,p.y]) (y:=[q.x,q.y]) hu ⟨o1,_,n1,h2,h3,h4,?_⟩ ⟨o2,_,n2,k2,k3,k4,?_⟩ ?_
 ·exact .cons (by simp [intKind,Value.isInt]) (.cons (by simp [intKind,Value.isInt]) .nil)
 ·exact .cons (by simp [intKind,Value.isInt]) (.cons (by simp [intKind,Value.isInt]) .nil)
 ·have e:decide ([p.x,p.y]= [q.x,q.y])=decide (p=q):=by
   rw [decide_eq_decide]
   cases p;cases q
   simp
  rw [e];exact h
theorem nV {u v:Value} {p q:Pl} {Q:Bool→Shared→Prop} (hu:A.units < cLine) (a:pK s.heap u p) (b:pK s.heap v q) (h:Q (decide (aT p q)) s):wpAny (model P w) A (oneLt' false u v) Q E s:=by
 obtain ⟨l,its,rfl,h1,h2⟩:=a.tup
 obtain ⟨l',its',rfl,k1,k2⟩:=b.tup
 rw [oneLt'_eq]
 simp only [Bool.false_eq_true,if_false]
 apply wpAny_bind
 refine (HT.fm h1 k1 h2 k2 hu ?_:wpAny (model P w) A (compareOp .Lt (.ref l) (.ref l')) _ E s)
 refine wpAny_truthy_bool ?_
 rw [cM]
 exact h
theorem dh.cons_inv {h:Heap} {us:List Value} {p:Pl} {ps:List Pl} (a:dh h us (p :: ps)):∃ u vs,us=u :: vs∧pK h u p∧dh h vs ps:=by
 cases a with
 | cons a r=>exact ⟨_,_,rfl,a,r⟩
theorem dh.nil_inv {h:Heap} {us:List Value} (a:dh h us []):us= []:=by
 cases a
 rfl
theorem EH {α:Type} {qs:List α} (h:qs.length=2):∃ u v,qs= [u,v]:=by
 match qs,h with
 | [u,v],_=>exact ⟨u,v,rfl⟩
theorem MT {n:Nat} (hn:n=2∨n=3) {t:Shared} {x y:Value} {ps qs:List Pl} {R:Bool→Shared→Prop} (hu:A.units < cLine) (kx:sX n t.heap x ps) (ky:sX n t.heap y qs) (hR:R (dJ ps qs) t):wpAny (model P w) A (keyLt' (tuples' false) x y) R E t:=by
 obtain ⟨l1,a,o,its,m,rfl,h2,h3,h4,h5⟩:=kx
 obtain ⟨l2,b,o',its',m',rfl,k2,k3,k4,k5⟩:=ky
 rw [w6]
 apply wpAny_bind;apply listItems_at h2 h4
 apply wpAny_bind;apply listItems_at k2 k4
 rcases hn with rfl | rfl
 ·obtain ⟨p1,p2,rfl⟩:=EH l1
  obtain ⟨q1,q2,rfl⟩:=EH l2
  obtain ⟨u1,us,rfl,a1,h5⟩:=h5.cons_inv
  obtain ⟨u2,us,rfl,a2,h5⟩:=h5.cons_inv
  obtain rfl:=h5.nil_inv
  obtain ⟨v1,vs,rfl,b1,k5⟩:=k5.cons_inv
  obtain ⟨v2,vs,rfl,b2,k5⟩:=k5.cons_inv
  obtain rfl:=k5.nil_inv
  ·clear h2 h4 k2 k4 h3 k3
   simp only [List.toList_toArray,List.zip_cons_cons,List.zip_nil_right,List.zipIdx_cons,List.zipIdx_nil,List.forIn_cons,List.forIn_nil,bind_assoc,Bool.false_and]
   apply wpAny_bind
   refine rf hu a1 b1 ?_
   unfold dJ at hR
   by_cases e1:p1=q1
   ·rw [if_pos e1] at hR
    rw [decide_eq_true e1]
    simp only [Bool.not_true,Bool.false_eq_true,if_false,pure_bind,bind_assoc]
    apply wpAny_bind
    refine rf hu a2 b2 ?_
    unfold dJ at hR
    by_cases e2:p2=q2
    ·rw [if_pos e2] at hR
     rw [decide_eq_true e2]
     simp only [Bool.not_true,Bool.false_eq_true,if_false,pure_bind]
     exact wpAny_pure hR
    ·rw [if_neg e2] at hR
     rw [decide_eq_false e2]
     simp only [Bool.not_false,if_true,bind_assoc,pure_bind]
     apply wpAny_bind
     exact nV hu a2 b2 (wpAny_pure hR)
   ·rw [if_neg e1] at hR
    rw [decide_eq_false e1]
    simp only [Bool.not_false,if_true,bind_assoc,pure_bind]
    apply wpAny_bind
    exact nV hu a1 b1 (wpAny_pure hR)
 ·obtain ⟨p1,p2,p3,rfl⟩:=nR l1
  obtain ⟨q1,q2,q3,rfl⟩:=nR l2
  obtain ⟨u1,us,rfl,a1,h5⟩:=h5.cons_inv
  obtain ⟨u2,us,rfl,a2,h5⟩:=h5.cons_inv
  obtain ⟨u3,us,rfl,a3,h5⟩:=h5.cons_inv
  obtain rfl:=h5.nil_inv
  obtain ⟨v1,vs,rfl,b1,k5⟩:=k5.cons_inv
  obtain ⟨v2,vs,rfl,b2,k5⟩:=k5.cons_inv
  obtain ⟨v3,vs,rfl,b3,k5⟩:=k5.cons_inv
  obtain rfl:=k5.nil_inv
  ·clear h2 h4 k2 k4 h3 k3
   simp only [List.toList_toArray,List.zip_cons_cons,List.zip_nil_right,List.zipIdx_cons,List.zipIdx_nil,List.forIn_cons,List.forIn_nil,bind_assoc,Bool.false_and]
   apply wpAny_bind
   refine rf hu a1 b1 ?_
   unfold dJ at hR
   by_cases e1:p1=q1
   ·rw [if_pos e1] at hR
    rw [decide_eq_true e1]
    simp only [Bool.not_true,Bool.false_eq_true,if_false,pure_bind,bind_assoc]
    apply wpAny_bind
    refine rf hu a2 b2 ?_
    unfold dJ at hR
    by_cases e2:p2=q2
    ·rw [if_pos e2] at hR
     rw [decide_eq_true e2]
     simp only [Bool.not_true,Bool.false_eq_true,if_false,pure_bind,bind_assoc]
     apply wpAny_bind
     refine rf hu a3 b3 ?_
     unfold dJ at hR
     by_cases e3:p3=q3
     ·rw [if_pos e3] at hR
      rw [decide_eq_true e3]
      simp only [Bool.not_true,Bool.false_eq_true,if_false,pure_bind]
      exact wpAny_pure hR
     ·rw [if_neg e3] at hR
      rw [decide_eq_false e3]
      simp only [Bool.not_false,if_true,bind_assoc,pure_bind]
      apply wpAny_bind
      exact nV hu a3 b3 (wpAny_pure hR)
    ·rw [if_neg e2] at hR
     rw [decide_eq_false e2]
     simp only [Bool.not_false,if_true,bind_assoc,pure_bind]
     apply wpAny_bind
     exact nV hu a2 b2 (wpAny_pure hR)
   ·rw [if_neg e1] at hR
    rw [decide_eq_false e1]
    simp only [Bool.not_false,if_true,bind_assoc,pure_bind]
    apply wpAny_bind
    exact nV hu a1 b1 (wpAny_pure hR)
theorem Kg {n:Nat} (hn:n=2∨n=3) (hu:A.units < cLine) {h:Heap} {t:Shared} (g:cP h t.heap):Ask P w A t (DB n h) (tuples' false):=
 ⟨fun E x y p q R kx ky hR=>MT hn hu ((EG kx).grow g) ((EG ky).grow g) hR⟩
theorem Hh {n:Nat} (hn:n=2∨n=3) {vs:List Value} (h2:1≤vs.length) (hv:∀ v∈vs,∃ p,sX n s.heap v p) {Q:SortKind→Shared→Prop} (h:Q (tuples' false) s):wpAny (model P w) A (keyKind' vs.toArray) Q E s:=by
 rw [keyKind'_eq,List.mapM_toArray]
 simp only [bind_map_left]
 apply wpAny_bind
 refine qp (fun _ b=> ∃ u p,b=some u∧pK s.heap u p) vs _ (fun v hm Q hQ=>?_) fun bs hb=>?_
 ·obtain ⟨ps,hl,a,o,its,m,rfl,k2,k3,k4,k5⟩:=hv v hm
  rw [w9]
  apply wpAny_bind
  refine wpAny_typeOf (T:= "tuple") ⟨o,k2,k3⟩ ?_
  have e:(Value.type "tuple" !=Value.type "tuple")=false:=by decide
  rw [e]
  simp only [Bool.false_eq_true,if_false,pure_bind]
  apply wpAny_bind;apply listItems_at k2 k4
  cases ps with
  | nil=>simp at hl;omega
  | cons p ps=>
    obtain ⟨u,us,rfl,a,_⟩:=k5.cons_inv
    exact wpAny_pure (hQ _ ⟨u,p,rfl,a⟩)
 ·have all:∀ (vs:List Value) (bs:List (Option Value)),Paired (fun _ b=> ∃ u p,b=some u∧pK s.heap u p) vs bs→bs.length=vs.length∧(∀ b∈bs,∃ u p,b=some u∧pK s.heap u p):=by
   intro vs
   induction vs with
   | nil=>intro bs q;cases q;exact ⟨rfl,fun _ z=>by cases z⟩
   | cons v vs ih=>
     intro bs q
     cases q with
     | cons q1 q2=>
       obtain ⟨l,m⟩:=ih _ q2
       refine ⟨by simp [l],fun b hb=>?_⟩
       rcases List.mem_cons.mp hb with rfl | hb
       ·exact q1
       ·exact m b hb
  obtain ⟨hl,hm⟩:=all vs bs hb
  have c:(bs.toArray.all fun b=>b.isSome)=true:=by
   simp only [List.all_toArray,List.all_eq_true]
   intro b hb
   obtain ⟨u,p,rfl,_⟩:=hm b hb
   rfl
  rw [if_pos c]
  apply wpAny_bind;apply wpAny_rule
  rw [oneTypeOnly'_eq]
  have ef:bs.toArray.filterMap id=(bs.filterMap id).toArray:=by simp
  rw [ef,List.mapM_toArray]
  simp only [bind_map_left,bind_assoc]
  apply wpAny_bind
  refine qp (fun _ b=>b=Value.type "tuple") _ _ (fun v hv' Q hQ=>?_) fun cs hc=>?_
  ·obtain ⟨b,hb1,hb2⟩:=List.mem_filterMap.mp hv'
   obtain ⟨u,p,rfl,a,o,t,u',m,rfl,k2,k3,k4⟩:=hm b hb1
   have hb2:some (Value.ref a)=some v:=hb2
   cases hb2
   exact wpAny_typeOf (T:= "tuple") ⟨o,k2,k3⟩ (hQ _ rfl)
  ·have len:1≤(bs.filterMap id).length:=by
    cases bs with
    | nil=>simp at hl;omega
    | cons b bs=>
      obtain ⟨u,p,rfl,_⟩:=hm b (List.mem_cons_self ..)
      simp
   have all2:∀ (us cs:List Value),Paired (fun _ b=>b=Value.type "tuple") us cs→cs=us.map fun _=>Value.type "tuple" :=by
    intro us
    induction us with
    | nil=>intro cs q;cases q;rfl
    | cons u us ih=>intro cs q;cases q with | cons q1 q2=>rw [q1,ih _ q2];rfl
   rw [all2 _ _ hc]
   generalize bs.filterMap id=us at len
   cases us with
   | nil=>simp at len
   | cons u us=>
     have e0:(List.map (fun _=>Value.type "tuple") (u :: us)).toArray[0]?=some (Value.type "tuple"):=by simp
     rw [e0]
     have e1:((List.map (fun _=>Value.type "tuple") (u :: us)).toArray.all fun x=>x == Value.type "tuple")=true:=by
      simp only [List.all_toArray,List.all_map,List.all_eq_true]
      intro _ _;rfl
     simp only [e1,if_true,pure_bind]
     exact wpAny_pure h
end
noncomputable def ye (n:Nat) (h:Heap) (v:Value):List Pl:=Option.getD (α:=List Pl) ((DB n h).keyOf v) []
theorem Cj {n:Nat} {h:Heap} {v:Value} {p:List Pl} (a:sX n h v p):ye n h v=p:=by
 unfold ye
 have e:(DB n h).keyOf v=some p:=Ci a
 exact congrArg (fun o=>Option.getD (α:=List Pl) o []) e
def iZ (n:Nat) (h:Heap):List Value→List (List Pl)→Prop:=Paired (sX n h)
theorem iZ.keys {n:Nat} {h:Heap}:∀ {us:List Value} {ps:List (List Pl)},iZ n h us ps→us.map (ye n h)=ps
 | _,_,.nil=>rfl
 | _,_,.cons a r=>by rw [List.map_cons,Cj a,iZ.keys r]
theorem iZ.mem {n:Nat} {h:Heap}:∀ {us:List Value} {ps:List (List Pl)} {v:Value},iZ n h us ps→v∈us→∃ p,sX n h v p
 | _,_,v,.nil,m=>by cases m
 | _,_,v,.cons a r,m=>by
   rcases List.mem_cons.mp m with rfl | m
   ·exact ⟨_,a⟩
   ·exact iZ.mem r m
theorem zO {n:Nat} (hn:n=2∨n=3) {P:Program} {w:World} {A:Around} {E:Value→Shared→Prop} {s:Shared} {l:Addr} {vs:List Value} {ps:List (List Pl)} {Q:Value→Shared→Prop} (hu:A.units+64 < cLine) (hl:s.heap.IsList l vs.toArray) (hv:iZ n s.heap vs ps) (h64:vs.length < 64)
 (h:∀ (out:List Value) (qs:List (List Pl)),(∀ v∈out,v∈vs)→qs=out.map (ye n s.heap)→qs.Perm ps→qs.Pairwise (fun p q=>dJ q p=false)→Q (.ref (s.heap.objs.size+1)) { s with heap:=sortedAll s.heap vs out.toArray }) :
 wpAny (model P w) A (call (.builtin "sorted") [.ref l]) Q E s:=by
 have hk:KeysOf (DB n s.heap) (pairsOf vs):=fun p hp=>by
  rw [pairsOf_toList] at hp
  obtain ⟨q,a⟩:=hv.mem (cQ hp).2
  exact ⟨q,Ci a⟩
 refine w5 (κ:=DB n s.heap) (kd:=tuples' false) hl hk (fun t E Q g h2 q=>Hh hn (by omega) (fun v m=>?_) q) (fun t g=>Kg hn (by show A.units+1+1 < cLine;omega) g) h64 fun y hp hs=>?_
 ·obtain ⟨p,a⟩:=hv.mem m
  exact ⟨p,a.grow g⟩
 ·have pl:y.toList.Perm (vs.zip vs):=by rw [← pairsOf_toList];exact Array.perm_iff_toList_perm.mp hp
  have same:∀ p∈y.toList,p.1=p.2∧p.1∈vs:=fun p m=>cQ (pl.mem_iff.mp m)
  have eo:y.map (·.2)=(y.toList.map (·.2)).toArray:=by rw [← Array.toList_map,Array.toArray_toList]
  rw [eo]
  refine h (y.toList.map (·.2)) _ (fun v m=>?_) rfl ?_ ?_
  ·obtain ⟨p,m2,rfl⟩:=List.mem_map.mp m
   rw [← (same p m2).1];exact (same p m2).2
  ·have q:=(pl.map (fun p=>p.2)).map (ye n s.heap)
   have e:(vs.zip vs).map (fun p=>p.2)=vs:=List.map_snd_zip (Nat.le_refl _)
   rw [e,hv.keys] at q
   exact q
  ·rw [List.pairwise_iff_getElem]
   intro i j hi hj hij
   have li:i < y.size:=by simpa using hi
   have lj:j < y.size:=by simpa using hj
   have q:=hs i j (Nat.le_of_lt hij) (by rw [← hp.size_eq];exact lj)
   have key:∀ k (hk:k < y.size),KK (DB n s.heap) y k=ye n s.heap y[k].2:=fun k hk=>by
    unfold KK
    rw [getElem?_pos y k hk]
    show Option.getD (α:=List Pl) ((DB n s.heap).keyOf y[k].1) []=_
    rw [(same y[k] (by simp)).1]
    rfl
   have q:(DB n s.heap).blt (KK (DB n s.heap) y j) (KK (DB n s.heap) y i)=false:=q
   rw [key i li,key j lj] at q
   have q:dJ (ye n s.heap y[j].2) (ye n s.heap y[i].2)=false:=q
   simpa using q
def tD (ps:List Pl):D:= .tup (ps.map Pl.d)
theorem EI {n:Nat} {P:Program} {w:World} {K:PySem.W.Frag} {H:Hp} {h:Heap} {ps:List Pl} {x:V} {u:Value} (ok:nF P w H h) (hl:ps.length=n) (d:Dat K H (tD ps) x) (r:RelV x u):sX n h u ps:=by
 obtain ⟨a,xs,rfl,ha,hx⟩:=bB.mp d
 obtain rfl:u=Value.ref a:=r
 obtain ⟨its,rv,⟨o,h1,h2,m,h3⟩,_⟩:=eO ok ha
 exact ⟨hl,a,o,its,m,rfl,h1,h2,h3,eX ok hx rv⟩
theorem o6 {n:Nat} {P:Program} {w:World} {K:PySem.W.Frag} {H:Hp} {h:Heap} (ok:nF P w H h):∀ {ps:List (List Pl)} {xs:List V} {us:List Value},(∀ p∈ps,p.length=n)→aL K H (ps.map tD) xs→Vals xs us→iZ n h us ps
 | [],xs,us,_,d,r=>by rw [aS.mp d] at r;cases r;exact .nil
 | p :: ps,xs,us,hl,d,r=>by
   obtain ⟨v,vs,rfl,d1,d2⟩:=aP.mp d
   cases r with
   | cons r1 r2=>exact .cons (EI ok (hl p (List.mem_cons_self ..)) d1 r1) (o6 ok (fun q hq=>hl q (List.mem_cons_of_mem _ hq)) d2 r2)
theorem uc {n:Nat} {K:PySem.W.Frag} {H:Hp} {h:Heap} {P:Program} {w:World} (ok:nF P w H h) {ps:List (List Pl)} {zs:List V} {vs:List Value} (hl:∀ p∈ps,p.length=n) (d:aL K H (ps.map tD) zs) (r:Vals zs vs):∀ (out:List Value),(∀ v∈out,v∈vs)→
 ∃ ws,Vals ws out∧aL K H ((out.map (ye n h)).map tD) ws
 | [],_=>⟨[],.nil,aS.mpr rfl⟩
 | v :: out,m=>by
   obtain ⟨ws,h1,h2⟩:=uc ok hl d r out fun u hu=>m u (List.mem_cons_of_mem _ hu)
   have one:∀ {ps:List (List Pl)} {zs:List V} {vs:List Value},(∀ p∈ps,p.length=n)→aL K H (ps.map tD) zs→Vals zs vs→v∈vs→∃ (p:List Pl) (x:V),p.length=n∧RelV x v∧Dat K H (tD p) x:=by
    intro ps
    induction ps with
    | nil=>intro zs vs _ d r m;rw [aS.mp d] at r;cases r;cases m
    | cons p ps ih=>
      intro zs vs hl d r m
      obtain ⟨x,xs,rfl,d1,d2⟩:=aP.mp d
      cases r with
      | cons r1 r2=>
        rcases List.mem_cons.mp m with rfl | m
        ·exact ⟨p,x,hl p (List.mem_cons_self ..),r1,d1⟩
        ·exact ih (fun q hq=>hl q (List.mem_cons_of_mem _ hq)) d2 r2 m
   obtain ⟨p,x,lp,rx,dx⟩:=one hl d r (m v (List.mem_cons_self ..))
   refine ⟨x :: ws,.cons rx h1,?_⟩
   rw [List.map_cons,List.map_cons,Cj (EI ok lp dx rx)]
   exact aP.mpr ⟨x,ws,rfl,dx,h2⟩
section
variable {X:Cx}
def EJ (n:Nat):List D→Mp→DK→Prop:=fun ds M Q=> ∃ (l:Addr) (ps:List (List Pl)),ds= [.ref l]∧M l=some (.lst (ps.map tD))∧(∀ p∈ps,p.length=n)∧ps.length < 64∧∀ (p:Addr) (qs:List (List Pl)),M p=none→qs.Perm ps→qs.Pairwise (fun p q=>dJ q p=false)→Q (.ref p) (aA M p (.lst (qs.map tD)))
theorem ri {n:Nat} (hn:n=2∨n=3) (hu:X.A.units+64 < cLine):Call3 X (.builtin "sorted") (EJ n):=by
 constructor
 intro pins s σ H M xs ds us Q I rm rs dx ⟨l,ps,e,hM,QD,h64,q⟩
 subst e
 obtain ⟨v,rfl,hv⟩:=jx dx
 obtain rfl:=aO.mp hv
 obtain ⟨u,rfl,r1⟩:=vals1 rs
 obtain rfl:u=Value.ref l:=r1
 obtain ⟨zs,hH,hz⟩:=rm.lst hM
 obtain ⟨its,rv,pl,hsz⟩:=I.list (gO.of (K:=X.K) hH)
 have hl:its.length=ps.length:=by rw [Vals.len rv,← hz.length,List.length_map]
 refine zO hn hu pl.isList (o6 I.hok QD hz rv) (by omega) fun out qs hm eq hp hs=>?_
 obtain ⟨ws,w1,w2⟩:=uc I.hok QD hz rv out hm
 rw [← eq] at w2
 obtain ⟨m,hm'⟩:=sortedAll_at s.heap its out.toArray
 have fr:H (s.heap.objs.size+1)=none:=I.hok.fresh (Nat.le_succ _)
 have zw:ws.length≤sizeLine:=by
  rw [← w2.length,List.length_map,hp.length_eq,sizeLine_eq];omega
 refine ⟨.ref (s.heap.objs.size+1),upd H (s.heap.objs.size+1) (.lst ws),I.laid (t':=s.toks) (fun b o e=>sortedAll_old e) (Nat.le_succ _) ⟨zw,out,m,w1,hm'⟩,rfl,.ref _,aA M _ (.lst (qs.map tD)),Fr.new fr fun _ hb=>bG hb,aO.mpr rfl,rm.newL fr w2,q _ _ (rm.free fr) hp hs⟩
end
end L3
namespace L3
open PySem
def qz (t:List Pl):Prop:= ∃ u v w,t= [u,v,w]∧aT u v∧aT u w∧0 < tw u v w
theorem qz.uniq {s t:List Pl} (hs:qz s) (ht:qz t) (h:s.Perm t):s=t:=by
 obtain ⟨u,v,w,rfl,b1,b2,p1⟩:=hs
 obtain ⟨a,b,c,rfl,c1,c2,p2⟩:=ht
 rcases tU h with ⟨rfl,rfl,rfl⟩ | ⟨rfl,rfl,rfl⟩ | ⟨rfl,rfl,rfl⟩ | ⟨rfl,rfl,rfl⟩ | ⟨rfl,rfl,rfl⟩ | ⟨rfl,rfl,rfl⟩
 ·rfl
 ·rw [iW] at p2;omega
 ·exact absurd c1 (eg b1)
 ·exact absurd c1 (eg b2)
 ·exact absurd c2 (eg b1)
 ·exact absurd c2 (eg b2)
theorem Ck {a b c:Pl} (h:tw a b c≠0):a≠b∧a≠c∧b≠c:=
 ⟨fun e=>by subst e;rw [nN] at h;exact h rfl,fun e=>by subst e;rw [tO] at h;exact h rfl,fun e=>by subst e;rw [tN] at h;exact h rfl⟩
def EK (a b c:Pl):List Pl:=if aT a b∧aT a c then [a,b,c] else if aT b c then [b,c,a] else [c,a,b]
theorem Cm {a b c:Pl} (h:0 < tw a b c):qz (EK a b c)∧(EK a b c).Perm [a,b,c]:=by
 obtain ⟨n1,n2,n3⟩:=Ck (show tw a b c≠0 by omega)
 unfold EK
 by_cases k:aT a b∧aT a c
 ·rw [if_pos k]
  exact ⟨⟨a,b,c,rfl,k.1,k.2,h⟩,.refl _⟩
 ·rw [if_neg k]
  by_cases k2:aT b c
  ·rw [if_pos k2]
   refine ⟨⟨b,c,a,rfl,k2,?_,by rw [gu];exact h⟩,(List.perm_append_comm (l₁:=[b,c]) (l₂:=[a]))⟩
   rcases gW n1 with z | z
   ·exact absurd ⟨z,b9 z k2⟩ k
   ·exact z
  ·rw [if_neg k2]
   have cb:aT c b:=by rcases gW n3 with z | z;exact absurd z k2;exact z
   have ca:aT c a:=by
    rcases gW n2 with z | z
    ·exact absurd ⟨b9 z cb,z⟩ k
    ·exact z
   exact ⟨⟨c,a,b,rfl,ca,cb,by rw [← gu c a b];exact h⟩,(List.perm_append_comm (l₁:=[c]) (l₂:=[a,b]))⟩
def Hi (a b c:Pl):List Pl:=if 0 < tw a b c then EK a b c else EK a c b
theorem EL {a b c:Pl} (h:tw a b c≠0):qz (Hi a b c)∧(Hi a b c).Perm [a,b,c]:=by
 unfold Hi
 by_cases k:0 < tw a b c
 ·rw [if_pos k];exact Cm k
 ·rw [if_neg k]
  obtain ⟨h1,h2⟩:=Cm (a:=a) (b:=c) (c:=b) (by rw [iW];omega)
  exact ⟨h1,h2.trans (.cons a (.swap b c []))⟩
theorem Cn {u v w a b c:Pl} (h: [u,v,w].Perm [a,b,c]):tw u v w≠0↔tw a b c≠0:=by
 rcases tU h with ⟨rfl,rfl,rfl⟩ | ⟨rfl,rfl,rfl⟩ | ⟨rfl,rfl,rfl⟩ | ⟨rfl,rfl,rfl⟩ | ⟨rfl,rfl,rfl⟩ | ⟨rfl,rfl,rfl⟩
 ·exact Iff.rfl
 ·rw [iW u v w];omega
 ·rw [dN u v w];omega
 ·rw [gu w u v]
 ·rw [← gu u v w]
 ·rw [dN v w u,gu u v w];omega
theorem zP {t:List Pl} {a b c:Pl} (ht:qz t) (h:t.Perm [a,b,c]):tw a b c≠0∧t=Hi a b c:=by
 have hn:tw a b c≠0:=by
  obtain ⟨u,v,w,rfl,_,_,p⟩:=ht
  exact (Cn h).mp (by omega)
 obtain ⟨h1,h2⟩:=EL hn
 exact ⟨hn,ht.uniq h1 (h.trans h2.symm)⟩
theorem A9 {a b c u v w:Pl} (hn:tw a b c≠0) (hp: [u,v,w].Perm [a,b,c]) (hs: [u,v,w].Pairwise (fun p q=> ¬ aT q p)) :
 Hi a b c=if 0 < tw u v w then [u,v,w] else [u,w,v]:=by
 have hn2:tw u v w≠0:=(Cn hp).mpr hn
 obtain ⟨n1,n2,n3⟩:=Ck hn2
 have b1:aT u v:=by rcases gW n1 with z | z;exact z;exact absurd z ((List.pairwise_cons.mp hs).1 v (by simp))
 have b2:aT u w:=by rcases gW n2 with z | z;exact z;exact absurd z ((List.pairwise_cons.mp hs).1 w (by simp))
 by_cases k:0 < tw u v w
 ·rw [if_pos k]
  exact (zP ⟨u,v,w,rfl,b1,b2,k⟩ hp).2.symm
 ·rw [if_neg k]
  exact (zP ⟨u,w,v,rfl,b2,b1,by rw [iW];omega⟩ ((List.Perm.cons u (.swap v w [])).trans hp)).2.symm
def gp (ps:List Pl) (i:Nat):Pl:=ps.getD i ⟨0,0⟩
def one (ok:List Pl→Bool) (a b c:Pl):List (List Pl):=if tw a b c≠0∧ok (Hi a b c)=true then [Hi a b c] else []
def yes:List Pl→Bool:=fun _=>true
def T1 (ps:List Pl) (k m n:Nat):List (List Pl):=(List.range n).flatMap fun j=>one yes (gp ps k) (gp ps m) (gp ps j)
def T2 (ps:List Pl) (k m:Nat):List (List Pl):=(List.range m).flatMap fun j=>T1 ps k j j
def c2:Nat→Nat | 0=>0 | m+1=>c2 m+m
def c3:Nat→Nat | 0=>0 | k+1=>c3 k+c2 k
end L3
namespace L3
open PySem PySem.Spec PyProof.Rows L2
theorem Kh {u v w:Pl} (k:dQ (.int (tw u v w).sign) (.int 1)=true):0 < tw u v w:=by
 rw [bM] at k
 exact Int.sign_eq_one_iff_pos.mp (eq_of_beq k)
theorem Hj {u v w:Pl} (k:¬ dQ (.int (tw u v w).sign) (.int 1)=true):¬ 0 < tw u v w:=fun z=>by
 apply k
 rw [bM,Int.sign_eq_one_of_pos z]
 rfl
theorem c8 {ts:List (List Pl)} {i:Nat} {x:D} (h:(ts.map tD)[i]?=some x):∃ t,ts[i]?=some t∧x=tD t:=by
 rw [List.getElem?_map] at h
 cases e:ts[i]? with
 | none=>rw [e] at h;cases h
 | some p=>rw [e] at h;exact ⟨p,rfl,(Option.some.inj h).symm⟩
theorem bO {ts:List (List Pl)} {f:List Pl→Bool} {i:Nat} {t:List Pl} (h:ts[i]?=some t):(ts.take (i+1)).filter f=(ts.take i).filter f ++ (if f t=true then [t] else []):=by
 rw [List.take_succ,h,List.filter_append]
 congr 1
 show List.filter f [t]=_
 rw [List.filter_cons]
 rfl
theorem yf {p q:Int} (h:p*p+q*q=0):p=0∧q=0:=by
 have sq:∀ z:Int,0≤z*z:=fun z=>by
  rcases Int.le_total 0 z with w | w
  ·exact Int.mul_nonneg w w
  ·exact Int.mul_nonneg_of_nonpos_of_nonpos w w
 have h1:=sq p
 have h2:=sq q
 have e1:p*p=0:=by omega
 have e2:q*q=0:=by omega
 exact ⟨(Int.mul_eq_zero.mp e1).elim id id,(Int.mul_eq_zero.mp e2).elim id id⟩
theorem C3 {p q r s x y:Int} (h1:p*s=q*r) (h2:(p*p+q*q)*(r*y - s*x)=(r*r+s*s)*(p*y - q*x)) (hT:(r*y - s*x) - (p*y - q*x)≠0):(p=0∧q=0)∨(r=0∧s=0):=by
 by_cases k:p*y - q*x=0
 ·rw [k,Int.mul_zero] at h2
  rcases Int.mul_eq_zero.mp h2 with z | z
  ·exact .inl (yf z)
  ·exact absurd (by rw [z,k];rfl) hT
 ·have e:(p*r+q*s - (r*r+s*s))*(p*y - q*x)=0:=by grind
  rcases Int.mul_eq_zero.mp e with z | z
  ·have f:((p - r)*(p - r)+(q - s)*(q - s))*(r*r+s*s)=0:=by grind
   rcases Int.mul_eq_zero.mp f with w | w
   ·obtain ⟨w1,w2⟩:=yf w
    exfalso
    apply hT
    have:p=r:=by omega
    have:q=s:=by omega
    subst p q
    omega
   ·exact .inr (yf w)
  ·exact absurd z k
theorem Hl {a b c d:Pl} (hT:tw a b c≠0) (hd:dep a b c d=0) (hl:tw b c d=0):d=b∨d=c:=by
 have key:=C3 (p:=b.x - d.x) (q:=b.y - d.y) (r:=c.x - d.x) (s:=c.y - d.y) (x:=a.x - d.x) (y:=a.y - d.y) (by unfold tw at hl;grind) (by unfold dep qm at hd;unfold tw at hd hl;grind) (by intro z;apply hT;unfold tw at hl ⊢;grind)
 rcases key with ⟨z1,z2⟩ | ⟨z1,z2⟩
 ·left;cases b;cases d;simp at z1 z2 ⊢;omega
 ·right;cases c;cases d;simp at z1 z2 ⊢;omega
theorem bq (fs:List (List Pl)):(fs.map tD).all (plain 9)=true:=by
 rw [List.all_eq_true]
 intro d hd
 obtain ⟨t,_,rfl⟩:=List.mem_map.mp hd
 show (t.map Pl.d).all (plain 8)=true
 rw [List.all_eq_true]
 intro d hd
 obtain ⟨p,_,rfl⟩:=List.mem_map.mp hd
 rfl
end L3
namespace PySem
open PySem.Calls PySem.W
theorem Ba:typeLookup (.type "list_reverseiterator") "__len__" =pure none:=by rw [typeLookup_type,builtinLookup_eq_fast];kernel_rfl
theorem EM:typeLookup (.type "list_reverseiterator") "__length_hint__" =pure (some (.builtin "list_reverseiterator.__length_hint__")):=by rw [typeLookup_type,builtinLookup_eq_fast];kernel_rfl
theorem Ho:isSubtype (.type "list_reverseiterator") (.type "list_reverseiterator")=pure true:=by rw [isSubtype_type];kernel_rfl
section
variable {prog:Program} {w:World} {A:Around} {s:Shared} {R:Result→Shared→Prop} {E:Value→Shared→Prop}
variable {I:Addr} {fp wr:List Addr} {G:Array GenState→Array GenState→Prop} {n:Nat} {P:Nat→Value→Prop} {St:Nat→Shared→Prop}
theorem EN {Q:Bool→Shared→Prop} (hT:s.TypeIs (.ref I) "list_reverseiterator") (h:Q false s):wpAny (model prog w) A (Builtin.List.listLengthHint (.ref I)) Q E s:=by
 unfold Builtin.List.listLengthHint
 refine wpAny_bind (wpAny_specialOf hT Ba ?_)
 show wpAny _ A (specialOf (Value.ref I) (Str.ofString "__length_hint__") >>= _) _ _ _
 refine wpAny_bind (wpAny_specialOf hT EM ?_)
 have hs:splitId "list_reverseiterator.__length_hint__" =some ("list_reverseiterator","__length_hint__"):=by decide +kernel
 simp only [hs]
 refine wpAny_bind (wpAny_isInstance (T:= "list_reverseiterator") (b:=true) hT Ho ?_)
 simp only [Bool.not_true,Bool.false_eq_true,if_false]
 exact wpAny_pure h
theorem rj (W:WalksS prog w A.in1 I fp wr G n P St) (hT:∀ i s,St i s→s.TypeIs (.ref I) "list_reverseiterator") (S:Addr) (res:Value) (c₀:Nat) (hst:St 0 s) (hSf:S∉fp) (hI:I∈fp)
 (hS:s.heap.get? S=some { cls:= .type "list",data:= .seq #[] c₀ })
 (hR:∀ s' acc' c',Moved (S :: wr) G s s'→s'.heap.get? S=some { cls:= .type "list",dict:=none,data:= .seq acc' c',slots:= #[] }→ItemsOf P acc' n→R (.ok (.ret res)) s') (hn:n≤sizeLine) :
 wpAny (model prog w) A.in1 (Builtin.List.listExtendWith (.ref S) (.ref I) res)
  (fun fin s'=>match fin with | .done f=>R (.ok f) s' | .again c'=>c'.quiet=true∧codeAny (model prog w) A c' R s') (fun e s'=>R (.error e) s') s:=by
 have hSI:S≠I:=fun e=>hSf (e▸hI)
 unfold Builtin.List.listExtendWith
 refine wpAny_bind (wpAny_typeOf (hT 0 _ hst) ?_)
 have h1:Builtin.List.listSameRef (.ref S) (.ref I)=false:=by simp [Builtin.List.listSameRef,hSI]
 have h2:(Value.type "list_reverseiterator" == Value.type "list")=false:=by decide
 have h3:(Value.type "list_reverseiterator" == Value.type "tuple")=false:=by decide
 simp only [h1,h2,h3,Bool.or_false,Bool.false_eq_true,if_false]
 refine wpAny_bind (W.self 0 _ _ _ hst ?_)
 refine wpAny_bind (wpAny_holding (EN (hT 0 _ hst) ?_))
 show wpAny _ A.in1 (again (.builtin "list.extend.loop" ⟨[.ref S,.ref I,res],[]⟩)) _ _ _
 exact wpAny_pure ⟨plainId_quiet F.plain_extend_loop _,codeAny_extend_loopS W hn _ hSf _ n 0 _ _ _ rfl (Nat.zero_le _) hst hS (ItemsOf.nil P) fun s' acc' c' hm hS' hacc=>hR s' acc' c' hm hS' hacc⟩
theorem pA (W:WalksS prog w A.in1 I fp wr G n P St) (hT:∀ i s,St i s→s.TypeIs (.ref I) "list_reverseiterator") (S:Addr) (hst:St 0 s) (hSf:S∉fp) (hI:I∈fp)
 (hS:s.heap.get? S=some { cls:= .type "list",data:= .seq #[] })
 (hR:∀ s' acc' c',Moved (S :: wr) G s s'→s'.heap.get? S=some { cls:= .type "list",dict:=none,data:= .seq acc' c',slots:= #[] }→ItemsOf P acc' n→R (.ok (.ret .none)) s') (hn:n≤sizeLine) :
 wpAny (model prog w) A.in1 (Builtin.«list.__init__» ⟨[.ref S,.ref I],[]⟩)
  (fun fin s'=>match fin with | .done f=>R (.ok f) s' | .again c'=>c'.quiet=true∧codeAny (model prog w) A c' R s') (fun e s'=>R (.error e) s') s:=by
 show wpAny _ A.in1 (do let old ← Builtin.List.listItems (.ref S);Builtin.List.listUpdate (.ref S) (fun _=> #[]);letGo old.toList.reverse;Builtin.List.listExtendWith (.ref S) (.ref I) .none) _ _ s
 refine wpAny_bind ?_
 unfold Builtin.List.listItems
 refine wpAny_bind (wpAny_seqItems hS rfl (wpAny_pure ?_))
 show wpAny _ A.in1 (updateSeq S (fun _=> #[]) >>= fun _=>letGo (#[]:Array Value).toList.reverse >>= fun _=>Builtin.List.listExtendWith (.ref S) (.ref I) .none) _ _ s
 refine wpAny_bind (wpAny_updateSeq hS rfl ?_)
 have La:=Heap.get?_update_self (Obj.mapSeq (fun _=>(#[]:Array Value))) hS rfl
 have Hq:∀ b o,b≠S→s.heap.get? b=some o→(s.heap.update S (Obj.mapSeq (fun _=>(#[]:Array Value)))).get? b=some o:=
  fun b o hb e=>(Heap.get?_update_other _ _ (Ne.symm hb)).trans e
 refine wpAny_bind (wpAny_letGo ?_)
 refine rj W hT S .none _ (W.frame 0 s _ s.toks hst (Nat.le_refl _) fun b hb o e=>Hq b o (fun h=>hSf (h▸hb)) e) hSf hI La (fun s' acc' c' hm hS' hacc=>?_) hn
 exact hR s' acc' c' (Moved.trans W.gtrans ((Moved.refl W.grefl).then_heap (Nat.le_refl _) fun b o hb e=>Hq b o (fun h=>hb (h▸List.mem_cons_self)) e) hm) hS' hacc
theorem vJ {Q:Value→Shared→Prop} (W:WalksS prog w A.in1.in1 I fp wr G n P St) (hT:∀ i s,St i s→s.TypeIs (.ref I) "list_reverseiterator") (hst:St 0 s) (hfp:∀ b∈fp,b < s.heap.objs.size) (hI:I∈fp)
 (hQ:∀ s' acc' c',Moved (s.heap.objs.size :: wr) G { s with heap:=s.heap.push { cls:= .type "list",data:= .seq #[] } } s'→
  s'.heap.get? s.heap.objs.size=some { cls:= .type "list",dict:=none,data:= .seq acc' c',slots:= #[] }→ItemsOf P acc' n→Q (.ref s.heap.objs.size) s') (hn:n≤sizeLine) :
 wpAny (model prog w) A (call (.type "list") [.ref I]) Q E s:=by
 have hSf:s.heap.objs.size∉fp:=fun hm=>Nat.lt_irrefl _ (hfp _ hm)
 refine callType_codes (Q₁:=fun obj s₁=>obj= .ref s.heap.objs.size∧s₁= { s with heap:=s.heap.push { cls:= .type "list",data:= .seq #[] } }) F.called_list (F.typeCall_list_1 _) F.entry_list_init
  (code_list_new _ ⟨rfl,rfl⟩) fun obj s₁ h₁=>?_
 obtain ⟨rfl,rfl⟩:=h₁
 have hS:(s.heap.push { cls:= .type "list",data:= .seq #[] }).get? s.heap.objs.size=some { cls:= .type "list",data:= .seq #[] }:=Heap.get?_push_size _ rfl
 refine ⟨⟨_,hS,rfl⟩,F.args_list_init_2 _ _,pA W hT _ (W.frame 0 s _ s.toks hst (Nat.le_refl _) fun b _ o e=>Heap.get?_push_of_some _ e) hSf hI hS (fun s' acc' c' hm hS' hacc=>?_) hn⟩
 exact ⟨rfl,hQ s' acc' c' hm hS' hacc⟩
end
end PySem
namespace L3
open PySem PySem.Spec PyProof.Rows L2
section
variable {X:Cx} {pos:Pos}
def Py (to:cY):cY:=fun ρ M Q=>to ρ M fun d M1=> ∃ l xs y,d= .ref l∧M1 l=some (.lst (xs ++ [y]))∧Q y (aA M1 l (.lst xs))
theorem aL.snoc {K:PySem.W.Frag} {H:Hp}:∀ {ds:List D} {y:D} {xs:List V},aL K H (ds ++ [y]) xs→∃ zs v,xs=zs ++ [v]∧aL K H ds zs∧Dat K H y v
 | [],y,xs,h=>by
   obtain ⟨v,rfl,hv⟩:=jx h
   exact ⟨[],v,rfl,aS.mpr rfl,hv⟩
 | d :: ds,y,xs,h=>by
   obtain ⟨v,vs,rfl,h1,h2⟩:=aP.mp h
   obtain ⟨zs,u,rfl,h3,h4⟩:=aL.snoc h2
   exact ⟨v :: zs,u,rfl,aP.mpr ⟨v,zs,rfl,h1,h3⟩,h4⟩
theorem MU {o:Expr} {to:cY} {apos:Pos} (ho:cE X o to) (GP:PE X (.Call (.Attribute o "pop" apos) [] [] pos) (LJ X.K "list" LM (dn X.K to))):cE X (.Call (.Attribute o "pop" apos) [] [] pos) (Py to):=
 up GP fun σ H ρ M Q r q=>dF r q fun v H' d M' f dv r' ⟨l,xs,y,e1,hM,q2⟩=>by
  subst e1
  obtain rfl:=aO.mp dv
  obtain ⟨ys,ha,hy⟩:=r'.mem.lst hM
  obtain ⟨zs,u,rfl,h1,h2⟩:=aL.snoc hy
  refine ⟨.inl ⟨rfl,_,gO.of ha⟩,l,zs ++ [u],u,rfl,rfl,ha,by simp,?_⟩
  rw [List.dropLast_concat]
  exact ⟨y,aA M' l (.lst xs),f.trans (Fr.write (K:=X.K) hM),Dat.mono (Ext.jP ha) _ _ h2,r'.mem.jP ha h1,q2⟩
theorem zQ {K:PySem.W.Frag} {H:Hp}:∀ {ds:List D} {xs:List V},aL K H ds xs→aL K H ds.reverse xs.reverse
 | [],xs,h=>by rw [aS.mp h];exact aS.mpr rfl
 | d :: ds,xs,h=>by
   obtain ⟨v,vs,rfl,h1,h2⟩:=aP.mp h
   rw [List.reverse_cons,List.reverse_cons]
   exact (zQ h2).append (aL.one h1)
theorem zR:∀ {xs:List V} {us:List Value},Vals xs us→Vals xs.reverse us.reverse
 | _,_,.nil=> .nil
 | _,_,.cons r rr=>by
   rw [List.reverse_cons,List.reverse_cons]
   exact (zR rr).append (.cons r .nil)
theorem ue:bootBuiltins "reversed" =some (.type "reversed"):=by decide +kernel
def MV (te:cY):cY:=fun ρ M Q=>te ρ M fun d M1=> ∃ xs,ED M1 d xs∧∀ p,M1 p=none→Q (.ref p) (aA M1 p (.lst xs.reverse))
theorem C4 {e:Expr} {te:cY} {p1 p2 pos2:Pos} (hc:X.calm=true) (JP:Gl X "list") (hml:X.mg "list" =none) (hgr:Gl X "reversed") (hmr:X.mg "reversed" =none) (he:cE X e te)
 (s1:starEach [e] X.env= [(false,eval e X.env)]:=by rfl)
 (s2:starEach [.Call (.Name "reversed" p2) [e] [] pos2] X.env= [(false,eval (.Call (.Name "reversed" p2) [e] [] pos2) X.env)]:=by rfl) :
 cE X (.Call (.Name "list" p1) [.Call (.Name "reversed" p2) [e] [] pos2] [] pos) (MV te):=by
 constructor
 intro pins s σ H ρ M Q I r h
 refine wpAny_Call_Name_kw (lN I JP hml bY ?_ (by decide) (by decide))
 refine PyProof.Rows.callWith_type1 (Q:=EP X pins σ (Post X.K M H Q)) ?_ (by rw [s2];rfl) (by rfl)
 rw [s2]
 show wpAny _ _ (spliced ((false,eval (.Call (.Name "reversed" p2) [e] [] pos2) X.env) :: backTo pos [])) _ _ s
 refine Calls.spliced_cons ?_
 refine wpAny_Call_Name_kw (lN I hgr hmr ue ?_ (by decide) (by decide))
 refine PyProof.Rows.callWith_type1 ?_ (by rw [s1];rfl) (by rfl)
 rw [s1]
 show wpAny _ _ (spliced ((false,eval e X.env) :: backTo pos2 [])) _ _ s
 refine Calls.spliced_cons (dD (he.run pins s σ H ρ M _ I r h) fun v s1 ⟨x,H1,I1,rv,d,M1,f1,dd,oY,xs,hL,q⟩=>Calls.spliced_nil ?_)
 obtain ⟨a,zs,rfl,hz,hd⟩:=hL.sq oY dd
 obtain rfl:v=Value.ref a:=rv
 obtain ⟨its,NN,pl,hsz⟩:=I1.list hz
 have la:a < s1.heap.objs.size:=by obtain ⟨o,e,_⟩:=pl.isList;exact Heap.lt_size e
 refine PySem.call_reversed_list pl.isList ?_
 refine Calls.spliced_nil ?_
 have o4:(s1.heap.push (PySem.revObj a ((its.toArray.size:Int) - 1))).objs.size=s1.heap.objs.size+1:=Heap.size_push ..
 have Um:zs.length=its.length:=NN.length
 refine vJ (PySem.Walks.listRev (A:=X.A.in1.in1) (show X.A.in1.in1.handled=none from I.ok.hd hc) s1.heap.objs.size a (Nat.ne_of_lt la) its.toArray).toS (fun i s st=>st.2.1.typeIs) ?_ ?_ (by simp) (fun s' acc' c' mv hS' hacc=>?_) (by rw [List.size_toArray];omega)
 ·refine ⟨Nat.zero_le _,⟨_,Heap.get?_push_size _ rfl,rfl,?_⟩,?_⟩
  ·simp [PySem.revObj]
  ·obtain ⟨o,e,c,dd⟩:=pl.isList
   exact ⟨o,Heap.get?_push_of_some _ e,c,dd⟩
 ·intro b hb
  show b < (s1.heap.push (PySem.revObj a ((its.toArray.size:Int) - 1))).objs.size
  rw [o4]
  simp only [List.mem_cons,List.not_mem_nil,or_false] at hb
  rcases hb with rfl | rfl
  ·exact Nat.lt_succ_self _
  ·exact Nat.lt_succ_of_lt la
 ·have hS':s'.heap.get? (s1.heap.objs.size+1)=some { cls:= .type "list",dict:=none,data:= .seq acc' c',slots:= #[] }:=by rw [← o4];exact hS'
  have Pz:acc'=its.reverse.toArray:=by
   apply Array.ext'
   rw [List.toList_toArray]
   apply List.ext_getElem?
   intro j
   have Uo:acc'.size=its.length:=by
    have:=hacc.1
    rw [List.size_toArray] at this
    exact this
   by_cases hj:j < its.length
   ·have g1:acc'[j]?=some (acc'[j]'(by omega)):=Array.getElem?_eq_getElem (by omega)
    have g2:=hacc.2 j _ g1
    have g2:its[its.length - 1 - j]?=some (acc'[j]'(by omega)):=by simpa using g2
    rw [List.getElem?_reverse hj,g2]
    rw [Array.getElem?_toList,g1]
   ·rw [List.getElem?_eq_none (by simp;omega),List.getElem?_eq_none (by simp;omega)]
  subst Pz
  have kp:∀ b o,s1.heap.get? b=some o→s'.heap.get? b=some o:=fun b o e=>by
   have lb:=Heap.lt_size e
   refine mv.heap b o ?_ (Heap.get?_push_of_some _ (Heap.get?_push_of_some _ e))
   intro hb
   simp only [List.mem_cons,List.not_mem_nil,or_false] at hb
   rcases hb with z | z
   ·have z:b=(s1.heap.push (PySem.revObj a ((its.toArray.size:Int) - 1))).objs.size:=z
    rw [o4] at z
    rw [z] at lb
    exact absurd lb (Nat.not_lt.mpr (Nat.le_succ _))
   ·rw [z] at lb
    exact Nat.lt_irrefl _ lb
  have fr:H1 (s1.heap.objs.size+1)=none:=I1.hok.fresh (Nat.le_succ _)
  have es:s'= { s1 with heap:=s'.heap,toks:=s'.toks }:=by
   have g:=mv.gens
   have d:=mv.drawn
   have o:=mv.os
   cases s'
   cases s1
   simp only at g d o ⊢
   subst g d o
   rfl
  have I2:Inv X pins σ (upd H1 (s1.heap.objs.size+1) (.lst zs.reverse)) { s1 with heap:=s'.heap,toks:=s'.toks }:=
   I1.laid (t':=s'.toks) kp (Nat.le_succ _) ⟨by rw [List.length_reverse];exact hsz,its.reverse,c',zR NN,hS'⟩
  rw [es]
  have ev:(Value.ref (s1.heap.push (PySem.revObj a ((its.toArray.size:Int) - 1))).objs.size)= .ref (s1.heap.objs.size+1):=by rw [o4]
  refine ⟨.ref (s1.heap.objs.size+1),_,I2,ev,.ref _,aA M1 _ (.lst xs.reverse),f1.trans (Fr.new fr fun _ hb=>bG hb),aO.mpr rfl,oY.newL fr (zQ hd),q _ (oY.free fr)⟩
end
end L3
namespace L3
open PySem PySem.Spec PyProof.Rows L2
section
variable {X:Cx} {pos:Pos}
end
structure QE (K:PySem.W.Frag) (J:It) (inv:Hp→Prop) (ds:List L3.D):Prop where
 go:∀ i H,i < ds.length→inv H→J.go i H
 FT:∀ i H x H',i < ds.length→inv H→J.FT i H x H'→(∀ b o,H b=some o→H' b=some o)∧∃ d,ds[i]?=some d∧Dat K H' d x
 stop:∀ H,inv H→J.stop ds.length H
end L3
namespace L2
open PySem PySem.Spec PyProof.Rows
section
variable {X:Cx} {pins:List (Addr ×Obj)} {σ:St} {H:Hp} {s:Shared} {h':Heap}
theorem Inv.Hr {t':Nat} {fp:List Addr} (I:Inv X pins σ H s) (k:∀ b o,b∉fp→s.heap.get? b=some o→h'.get? b=some o) (hf:∀ b∈fp,iE X pins H b):Inv X pins σ H { s with heap:=h',toks:=t' }:=by
 have Lg:∀ b u,H b=some u→b∉fp:=fun b u e z=>by rw [(hf b z).1] at e;cases e
 refine I.step (g':=s.gens) (d':=s.drawn) (ch:=fp) (fun b hb=>?_) (fun b o _ _ hc e _=>k b o hc e) (fun b o _ _ hc e _=>⟨o.slots,k b o hc e⟩) (fun _ _ _ _ n=>n)
  (fun b o hc e=>⟨o,k b o hc e⟩) (fun _ _ e=>e) (fun _ _ _ e=>e) (fun b ps e=>⟨#[],by rw [e];simp⟩) (fun m hm=>?_) (fun b u e=>?_) I.bare
 ·obtain ⟨f0,f1,f2,f3,f4,f5⟩:=hf b hb
  exact ⟨f3,f1,f4,f5⟩
 ·obtain ⟨o,es,ep,ho,r⟩:=hm
  exact ⟨o,es,ep,k _ o (fun z=>(hf _ z).2.1 rfl) ho,r⟩
 ·refine (I.hok b u e).stay (fun c v hc q=>k c v ?_ q) (fun _ q=>q) fun _ _ q=>q
  rcases hc with z | z
  ·rw [z];exact Lg b u e
  ·exact Lg c _ z
end
section
variable {X:Cx}
theorem C5:bootBuiltins "zip" =some (.type "zip"):=by decide +kernel
end
end L2
namespace L3
open PySem PySem.Spec PyProof.Rows L2
def pairD (x y:D):D:= .tup [x,y]
section
variable {X:Cx} {pos:Pos} {body:List Stmt} {g:Aw} {tb:oX}
end
end L3
namespace PySem
open PySem.Calls PySem.W
abbrev jS (h:Heap) (z TI TO T:Addr) (f:Bool):Prop:=
 h.get? z=some { cls:= .type "zip",dict:=none,data:= .fields #[rawInt T,.bool f,.bool false,.ref TI,.ref TO],slots:= #[] }
section
variable {prog:Program} {w:World} {A:Around} {E:Value→Shared→Prop} {s:Shared}
theorem zS {M:Model} {a:Addr} {Q:Option Obj→Shared→Prop} (h:Q (s.heap.get? a) s):wpAny M A (loadIfAlive a) Q E s:=
 fun _ _ _=>h
theorem qA {z TI TO T:Addr} {f:Bool} {oT:Obj} {Q:Bool→Shared→Prop} (hz:jS s.heap z TI TO T f) (hT:s.heap.get? T=some oT)
 (hQ:∀ h',jS h' z TI TO T true→h'.objs.size=s.heap.objs.size→(∀ c o,c≠z→s.heap.get? c=some o→h'.get? c=some o)→Q false { s with heap:=h' }) :
 wpAny (model prog w) A (Builtin.SmallTypes.ownedTupleIsFree (.ref z)) Q E s:=by
 unfold Builtin.SmallTypes.ownedTupleIsFree
 refine wpAny_bind (wpAny_field hz rfl (x:=rawInt T) rfl ?_)
 show wpAny _ _ (loadIfAlive T >>= _) _ _ _
 refine wpAny_bind (zS ?_)
 rw [hT]
 show wpAny _ _ (field (.ref z) 1 >>= _) _ _ _
 refine wpAny_bind (wpAny_field hz rfl (x:= .bool f) rfl ?_)
 cases f with
 | true=>exact wpAny_pure (hQ s.heap hz rfl fun _ _ _ e=>e)
 | false=>
   show wpAny _ _ (setField (.ref z) 1 (.bool true) >>= _) _ _ _
   refine wpAny_bind (wpAny_setField_rec hz (by simp) fun h₁ NO hs₁=>wpAny_pure (hQ h₁ NO hs₁.1 fun c o c1 e=>hs₁.extBut _ _ c1 e))
theorem vK {z TI TO T i1 i2 l1 l2:Addr} {f:Bool} {k1 k2:Nat} {xs ys:Array Value} {x y:Value} {oT:Obj} {Q:Value→Shared→Prop} (D:ZipApart z TI TO i1 i2 l1 l2)
 (hz:jS s.heap z TI TO T f) (hT:s.heap.get? T=some oT) (hTI:IsPair s.heap TI (.ref i1) (.ref i2))
 (h1:s.heap.IsListIter i1 l1 k1) (h2:s.heap.IsListIter i2 l2 k2) (hl1:s.heap.IsList l1 xs) (hl2:s.heap.IsList l2 ys) (hx:xs[k1]?=some x) (hy:ys[k2]?=some y)
 (hQ:∀ h',jS h' z TI TO T true→h'.IsListIter i1 l1 (k1+1)→h'.IsListIter i2 l2 (k2+1)→IsPair h' s.heap.objs.size x y→h'.objs.size=s.heap.objs.size+1→
  (∀ c o,c≠z→c≠i1→c≠i2→s.heap.get? c=some o→h'.get? c=some o)→Q (.ref s.heap.objs.size) { s with heap:=h' }) :
 wpAny (model prog w) A (Builtin.«zip.__next__» ⟨[.ref z],[]⟩) (fun fin s'=> ∃ v,fin= .done (.ret v)∧Q v s') E s:=by
 show wpAny _ _ (field (.ref z) 2 >>= _) _ _ _
 refine wpAny_bind (wpAny_field hz rfl (x:= .bool false) rfl ?_)
 show wpAny _ _ (field (.ref z) 3 >>= _) _ _ _
 refine wpAny_bind (wpAny_field hz rfl (x:= .ref TI) rfl ?_)
 refine wpAny_bind (wpAny_seqItems hTI rfl ?_)
 show wpAny _ _ (Builtin.SmallTypes.ownedTupleIsFree (.ref z) >>= _) _ _ _
 refine wpAny_bind (qA hz hT fun h₁ NO hn₁ hk₁=>?_)
 simp only [Bool.false_eq_true,if_false]
 have e1:h₁.IsListIter i1 l1 k1:=h1.at fun o e=>hk₁ i1 o D.i1z e
 have e2:h₁.IsListIter i2 l2 k2:=h2.at fun o e=>hk₁ i2 o D.i2z e
 have m1:h₁.IsList l1 xs:=by obtain ⟨o,e,r⟩:=hl1;exact ⟨o,hk₁ _ _ D.l1z e,r⟩
 have m2:h₁.IsList l2 ys:=by obtain ⟨o,e,r⟩:=hl2;exact ⟨o,hk₁ _ _ D.l2z e,r⟩
 refine wpAny_bind ?_
 rw [← Array.forIn_toList]
 simp only [List.forIn_cons,List.forIn_nil]
 refine wpAny_bind (wpAny_bind (wpAny_holding ?_))
 show wpAny _ _ (Builtin.SmallTypes.nextOf (.ref i1) >>= _) _ _ _
 refine wpAny_bind (wpAny_nextOf_list_item e1 m1 hx fun h₂ g1 hs₂=>wpAny_pure (wpAny_pure ?_))
 refine wpAny_bind (wpAny_bind (wpAny_holding ?_))
 show wpAny _ _ (Builtin.SmallTypes.nextOf (.ref i2) >>= _) _ _ _
 refine wpAny_bind (wpAny_nextOf_list_item (e2.extBut hs₂.extBut D.i12.symm) (m2.extBut hs₂.extBut D.l2i1) hy fun h₃ g2 Lb=>wpAny_pure (wpAny_pure (wpAny_pure ?_)))
 show wpAny _ _ (newTuple [x,y] >>= _) _ _ _
 refine wpAny_bind (wpAny_newTuple ?_)
 have hsz:h₃.objs.size=s.heap.objs.size:=by rw [Lb.1,hs₂.1,hn₁]
 have kp:∀ c o,c≠z→c≠i1→c≠i2→s.heap.get? c=some o→h₃.get? c=some o:=fun c o c1 c2 c3 e=>Lb.extBut _ _ c3 (hs₂.extBut _ _ c2 (hk₁ c o c1 e))
 have z3:jS h₃ z TI TO T true:=Lb.extBut _ _ D.i2z.symm (hs₂.extBut _ _ D.i1z.symm NO)
 have g3:h₃.IsListIter i1 l1 (k1+1):=g1.extBut Lb.extBut D.i12
 have up:∀ c o,h₃.get? c=some o→(h₃.push { cls:= .type "tuple",data:= .seq #[x,y] }).get? c=some o:=fun c o e=>Heap.get?_push_of_some _ e
 refine wpAny_pure ⟨_,rfl,?_⟩
 show Q (.ref h₃.objs.size) _
 have hp:IsPair (h₃.push { cls:= .type "tuple",data:= .seq #[x,y] }) h₃.objs.size x y:=Heap.get?_push_size _ rfl
 have q:=hQ (h₃.push { cls:= .type "tuple",data:= .seq #[x,y] }) (up _ _ z3) (g3.at fun o e=>up _ o e) (g2.at fun o e=>up _ o e) (by rw [← hsz];exact hp) (by rw [Heap.size_push,hsz]) fun c o c1 c2 c3 e=>up c o (kp c o c1 c2 c3 e)
 rw [hsz]
 exact q
theorem yg {z TI TO T i1 i2 l1 l2:Addr} {f:Bool} {k1 k2:Nat} {xs ys:Array Value} {oT:Obj} {Q:Fin→Shared→Prop} (hh:A.handled=none) (D:ZipApart z TI TO i1 i2 l1 l2)
 (hz:jS s.heap z TI TO T f) (hT:s.heap.get? T=some oT) (hTI:IsPair s.heap TI (.ref i1) (.ref i2))
 (h1:s.heap.IsListIter i1 l1 k1) (h2:s.heap.IsListIter i2 l2 k2) (hl1:s.heap.IsList l1 xs) (hl2:s.heap.IsList l2 ys) (hend:xs[k1]?=none∨ys[k2]?=none)
 (hE:∀ h' e,(∀ c o,c≠z→c≠i1→c≠i2→s.heap.get? c=some o→h'.get? c=some o)→(∃ o,h'.get? e=some o∧o.cls= .type "StopIteration")→E (.ref e) { s with heap:=h' }) :
 wpAny (model prog w) A (Builtin.«zip.__next__» ⟨[.ref z],[]⟩) Q E s:=by
 show wpAny _ _ (field (.ref z) 2 >>= _) _ _ _
 refine wpAny_bind (wpAny_field hz rfl (x:= .bool false) rfl ?_)
 show wpAny _ _ (field (.ref z) 3 >>= _) _ _ _
 refine wpAny_bind (wpAny_field hz rfl (x:= .ref TI) rfl ?_)
 refine wpAny_bind (wpAny_seqItems hTI rfl ?_)
 show wpAny _ _ (Builtin.SmallTypes.ownedTupleIsFree (.ref z) >>= _) _ _ _
 refine wpAny_bind (qA hz hT fun h₁ NO hn₁ hk₁=>?_)
 simp only [Bool.false_eq_true,if_false]
 have e1:h₁.IsListIter i1 l1 k1:=h1.at fun o e=>hk₁ i1 o D.i1z e
 have e2:h₁.IsListIter i2 l2 k2:=h2.at fun o e=>hk₁ i2 o D.i2z e
 have m1:h₁.IsList l1 xs:=by obtain ⟨o,e,r⟩:=hl1;exact ⟨o,hk₁ _ _ D.l1z e,r⟩
 have m2:h₁.IsList l2 ys:=by obtain ⟨o,e,r⟩:=hl2;exact ⟨o,hk₁ _ _ D.l2z e,r⟩
 refine wpAny_bind ?_
 rw [← Array.forIn_toList]
 simp only [List.forIn_cons,List.forIn_nil]
 refine wpAny_bind (wpAny_bind (wpAny_holding ?_))
 show wpAny _ _ (Builtin.SmallTypes.nextOf (.ref i1) >>= _) _ _ _
 cases hx:xs[k1]? with
 | none=>exact wpAny_bind (wpAny_nextOf_list_end hh e1 m1 hx fun h₂ e hs₂ he=>hE h₂ e (fun c o c1 c2 c3 x=>hs₂ _ _ c2 (hk₁ c o c1 x)) he)
 | some x=>
   have hy:ys[k2]?=none:=by
    rcases hend with h | h
    ·rw [hx] at h;cases h
    ·exact h
   refine wpAny_bind (wpAny_nextOf_list_item e1 m1 hx fun h₂ g1 hs₂=>wpAny_pure (wpAny_pure ?_))
   refine wpAny_bind (wpAny_bind (wpAny_holding ?_))
   show wpAny _ _ (Builtin.SmallTypes.nextOf (.ref i2) >>= _) _ _ _
   exact wpAny_bind (wpAny_nextOf_list_end hh (e2.extBut hs₂.extBut D.i12.symm) (m2.extBut hs₂.extBut D.l2i1) hy fun h₃ e Lb he=>hE h₃ e (fun c o c1 c2 c3 x=>Lb _ _ c3 (hs₂.extBut _ _ c2 (hk₁ c o c1 x))) he)
theorem C6 {z TI TO T i1 i2 l1 l2:Addr} {f:Bool} {k1 k2:Nat} {xs ys:Array Value} {x y:Value} {oT:Obj} {Q:Option Value→Shared→Prop} (D:ZipApart z TI TO i1 i2 l1 l2)
 (hz:jS s.heap z TI TO T f) (hT:s.heap.get? T=some oT) (hTI:IsPair s.heap TI (.ref i1) (.ref i2))
 (h1:s.heap.IsListIter i1 l1 k1) (h2:s.heap.IsListIter i2 l2 k2) (hl1:s.heap.IsList l1 xs) (hl2:s.heap.IsList l2 ys) (hx:xs[k1]?=some x) (hy:ys[k2]?=some y)
 (hQ:∀ h',jS h' z TI TO T true→h'.IsListIter i1 l1 (k1+1)→h'.IsListIter i2 l2 (k2+1)→IsPair h' s.heap.objs.size x y→h'.objs.size=s.heap.objs.size+1→
  (∀ c o,c≠z→c≠i1→c≠i2→s.heap.get? c=some o→h'.get? c=some o)→Q (some (.ref s.heap.objs.size)) { s with heap:=h' }) :
 wpAny (model prog w) A (pyNext (.ref z)) Q E s:=by
 have hTy:s.TypeIs (.ref z) "zip" :=⟨_,hz,rfl⟩
 unfold pyNext
 exact wpAny_bind (wpAny_attempt (wpAny_callSpecial?_slot (name:=Str.ofString "__next__") hTy F.slot_zip_next
  (wpAny_call_entry F.slot_zip_next hTy F.entry_zip_next
   (vK D hz hT hTI h1 h2 hl1 hl2 hx hy fun h' a1 a2 a3 a4 a5 a6=>wpAny_pure (hQ h' a1 a2 a3 a4 a5 a6)) (F.args_zip_next_1 _))))
theorem EO {z TI TO T i1 i2 l1 l2:Addr} {f:Bool} {k1 k2:Nat} {xs ys:Array Value} {oT:Obj} {Q:Option Value→Shared→Prop} (hh:A.handled=none) (D:ZipApart z TI TO i1 i2 l1 l2)
 (hz:jS s.heap z TI TO T f) (hT:s.heap.get? T=some oT) (hTI:IsPair s.heap TI (.ref i1) (.ref i2))
 (h1:s.heap.IsListIter i1 l1 k1) (h2:s.heap.IsListIter i2 l2 k2) (hl1:s.heap.IsList l1 xs) (hl2:s.heap.IsList l2 ys) (hend:xs[k1]?=none∨ys[k2]?=none)
 (hQ:∀ h',(∀ c o,c≠z→c≠i1→c≠i2→s.heap.get? c=some o→h'.get? c=some o)→Q none { s with heap:=h' }):wpAny (model prog w) A (pyNext (.ref z)) Q E s:=by
 have hTy:s.TypeIs (.ref z) "zip" :=⟨_,hz,rfl⟩
 unfold pyNext
 refine wpAny_bind (wpAny_attempt (wpAny_callSpecial?_slot (name:=Str.ofString "__next__") hTy F.slot_zip_next
  (wpAny_call_entry F.slot_zip_next hTy F.entry_zip_next (yg hh D hz hT hTI h1 h2 hl1 hl2 hend fun h' e hk he=>?_) (F.args_zip_next_1 _))))
 obtain ⟨o,ho,hc⟩:=he
 refine wpAny_bind (wpAny_isInstance (T:= "StopIteration") (b:=true) ⟨o,ho,hc⟩ isSubtype_stop ?_)
 exact wpAny_pure (hQ _ hk)
def MW (N0:Nat) (h:Heap) (z TI TO:Addr):Prop:=
 (IsZip h z TI TO .none∧∃ a b,IsPair h TO a b)∨∃ T f oT,jS h z TI TO T f∧h.get? T=some oT∧N0≤T
structure nh (N0:Nat) (xs ys:Array Value) (z TI TO i1 i2 l1 l2:Addr) (i:Nat) (h:Heap):Prop where
 st:MW N0 h z TI TO
 ti:IsPair h TI (.ref i1) (.ref i2)
 i1:h.IsListIter i1 l1 i
 i2:h.IsListIter i2 l2 i
 l1:h.IsList l1 xs
 l2:h.IsList l2 ys
theorem nh.next {N0:Nat} {z TI TO i1 i2 l1 l2:Addr} {i:Nat} {xs ys:Array Value} {x y:Value} {Q:Option Value→Shared→Prop} (D:ZipApart z TI TO i1 i2 l1 l2)
 (Z:nh N0 xs ys z TI TO i1 i2 l1 l2 i s.heap) (hN:N0≤s.heap.objs.size) (lt:z < N0∧TO < N0∧i1 < N0∧i2 < N0) (hx:xs[i]?=some x) (hy:ys[i]?=some y)
 (hQ:∀ h',nh N0 xs ys z TI TO i1 i2 l1 l2 (i+1) h'→IsPair h' s.heap.objs.size x y→h'.objs.size=s.heap.objs.size+1→
  (∀ c o,c≠z→c≠TO→c≠i1→c≠i2→s.heap.get? c=some o→h'.get? c=some o)→Q (some (.ref s.heap.objs.size)) { s with heap:=h' }) :
 wpAny (model prog w) A (pyNext (.ref z)) Q E s:=by
 obtain ⟨st,ti,a1,a2,m1,m2⟩:=Z
 have tl:∀ {h':Heap},(∀ c o,c≠z→c≠TO→c≠i1→c≠i2→s.heap.get? c=some o→h'.get? c=some o)→h'.IsList l1 xs∧h'.IsList l2 ys∧IsPair h' TI (.ref i1) (.ref i2):=fun k=>by
  refine ⟨?_,?_,k _ _ D.TIz D.TITO D.TIi1 D.TIi2 ti⟩
  ·obtain ⟨o,e,r⟩:=m1;exact ⟨o,k _ _ D.l1z D.l1TO D.l1i1 D.l1i2 e,r⟩
  ·obtain ⟨o,e,r⟩:=m2;exact ⟨o,k _ _ D.l2z D.l2TO D.l2i1 D.l2i2 e,r⟩
 rcases st with ⟨hz,a,b,hTO⟩ | ⟨T,f,oT,hz,hT,Iz⟩
 ·refine wpAny_pyNext_zip_item D hz ti hTO a1 a2 m1 m2 hx hy fun h' b1 b2 b3 b4 b5 b6 b7=>?_
  obtain ⟨t1,t2,t3⟩:=tl b7
  exact hQ h' ⟨.inr ⟨_,false,_,b1,b5,hN⟩,t3,b3,b4,t1,t2⟩ b5 b6 b7
 ·refine C6 D hz hT ti a1 a2 m1 m2 hx hy fun h' b1 b3 b4 b5 b6 b7=>?_
  obtain ⟨t1,t2,t3⟩:=tl fun c o c1 c2 c3 c4 e=>b7 c o c1 c3 c4 e
  exact hQ h' ⟨.inr ⟨_,true,_,b1,b7 T _ (Nat.ne_of_gt (Nat.lt_of_lt_of_le lt.1 Iz)) (Nat.ne_of_gt (Nat.lt_of_lt_of_le lt.2.2.1 Iz)) (Nat.ne_of_gt (Nat.lt_of_lt_of_le lt.2.2.2 Iz)) hT,Iz⟩,t3,b3,b4,t1,t2⟩ b5 b6 fun c o c1 c2 c3 c4 e=>b7 c o c1 c3 c4 e
theorem nh.fin {N0:Nat} {z TI TO i1 i2 l1 l2:Addr} {i:Nat} {xs ys:Array Value} {Q:Option Value→Shared→Prop} (hh:A.handled=none) (D:ZipApart z TI TO i1 i2 l1 l2)
 (Z:nh N0 xs ys z TI TO i1 i2 l1 l2 i s.heap) (hend:xs[i]?=none∨ys[i]?=none)
 (hQ:∀ h',(∀ c o,c≠z→c≠TO→c≠i1→c≠i2→s.heap.get? c=some o→h'.get? c=some o)→Q none { s with heap:=h' }):wpAny (model prog w) A (pyNext (.ref z)) Q E s:=by
 obtain ⟨st,ti,a1,a2,m1,m2⟩:=Z
 rcases st with ⟨hz,a,b,hTO⟩ | ⟨T,f,oT,hz,hT,Iz⟩
 ·exact wpAny_pyNext_zip_end hh D hz ti hTO a1 a2 m1 m2 hend hQ
 ·exact EO hh D hz hT ti a1 a2 m1 m2 hend fun h' k=>hQ h' fun c o c1 _ c3 c4 e=>k c o c1 c3 c4 e
theorem nh.keep {N0:Nat} {z TI TO i1 i2 l1 l2 S:Addr} {i:Nat} {xs ys:Array Value} {h h':Heap} (Z:nh N0 xs ys z TI TO i1 i2 l1 l2 i h) (hS:S < N0) (ne:S≠z∧S≠TI∧S≠TO∧S≠i1∧S≠i2∧S≠l1∧S≠l2)
 (k:∀ c o,c≠S→h.get? c=some o→h'.get? c=some o):nh N0 xs ys z TI TO i1 i2 l1 l2 i h':=by
 obtain ⟨st,ti,a1,a2,m1,m2⟩:=Z
 obtain ⟨n1,n2,n3,n4,n5,n6,n7⟩:=ne
 refine ⟨?_,k _ _ n2.symm ti,a1.at fun o e=>k _ o n4.symm e,a2.at fun o e=>k _ o n5.symm e,?_,?_⟩
 ·rcases st with ⟨hz,a,b,hTO⟩ | ⟨T,f,oT,hz,hT,Iz⟩
  ·exact .inl ⟨k _ _ n1.symm hz,a,b,k _ _ n3.symm hTO⟩
  ·exact .inr ⟨T,f,oT,k _ _ n1.symm hz,k _ _ (Nat.ne_of_gt (Nat.lt_of_lt_of_le hS Iz)) hT,Iz⟩
 ·obtain ⟨o,e,r⟩:=m1;exact ⟨o,k _ _ n6.symm e,r⟩
 ·obtain ⟨o,e,r⟩:=m2;exact ⟨o,k _ _ n7.symm e,r⟩
def eB (N0:Nat) (xs ys:Array Value) (h:Heap) (acc:Array Value) (i:Nat):Prop:=
 acc.size=i∧(∀ j x y,j < i→xs[j]?=some x→ys[j]?=some y→∃ p,acc[j]?=some (.ref p)∧IsPair h p x y∧N0≤p)∧acc.toList.Nodup
theorem eB.keep {N0:Nat} {xs ys:Array Value} {h h':Heap} {acc:Array Value} {i:Nat} (P:eB N0 xs ys h acc i) (k:∀ c o,N0≤c→h.get? c=some o→h'.get? c=some o):eB N0 xs ys h' acc i:=
 ⟨P.1,(fun j x y hj hx hy=>by obtain ⟨p,e1,e2,e3⟩:=P.2.1 j x y hj hx hy;exact ⟨p,e1,k p _ e3 e2,e3⟩),P.2.2⟩
theorem eB.push {N0:Nat} {xs ys:Array Value} {h:Heap} {acc:Array Value} {i:Nat} {x y:Value} {p:Addr} (P:eB N0 xs ys h acc i) (hx:xs[i]?=some x) (hy:ys[i]?=some y) (hp:IsPair h p x y) (hN:N0≤p) (hnew:Value.ref p∉acc.toList):eB N0 xs ys h (acc.push (.ref p)) (i+1):=by
 refine ⟨by rw [Array.size_push,P.1],fun j u v hj hu hv=>?_,by rw [Array.toList_push,List.nodup_append];exact ⟨P.2.2,by simp,fun a ha b hb e=>by rw [List.mem_singleton.mp hb] at e;rw [e] at ha;exact hnew ha⟩⟩
 by_cases e:j=i
 ·subst e
  rw [hx] at hu;rw [hy] at hv
  cases hu;cases hv
  refine ⟨p,?_,hp,hN⟩
  have:=P.1
  subst this
  exact Array.getElem?_push_size
 ·obtain ⟨q,e1,e2,e3⟩:=P.2.1 j u v (by omega) hu hv
  refine ⟨q,?_,e2,e3⟩
  rw [Array.getElem?_push,if_neg (by rw [P.1];exact e)]
  exact e1
variable {R:Result→Shared→Prop}
theorem ER {N0:Nat} {z TI TO i1 i2 l1 l2 S:Addr} {xs ys:Array Value} (hh:A.in1.handled=none) (D:ZipApart z TI TO i1 i2 l1 l2) (lt:z < N0∧TO < N0∧i1 < N0∧i2 < N0) (IA:S < N0) (ne:S≠z∧S≠TI∧S≠TO∧S≠i1∧S≠i2∧S≠l1∧S≠l2) (n:Nat) (hn:n=min xs.size ys.size) (hsz:n≤sizeLine) (res:Value) :
 ∀ (k i:Nat) (s:Shared) (acc:Array Value) (c:Nat),n - i=k→i≤n→N0≤s.heap.objs.size→nh N0 xs ys z TI TO i1 i2 l1 l2 i s.heap→s.heap.get? S=some { cls:= .type "list",dict:=none,data:= .seq acc c,slots:= #[] }→eB N0 xs ys s.heap acc i→
 (∀ h' acc' c',(∀ b o,b≠S→b≠z→b≠TO→b≠i1→b≠i2→s.heap.get? b=some o→h'.get? b=some o)→h'.get? S=some { cls:= .type "list",dict:=none,data:= .seq acc' c',slots:= #[] }→eB N0 xs ys h' acc' n→R (.ok (.ret res)) { s with heap:=h' })→
 codeAny (model prog w) A (.builtin "list.extend.loop" ⟨[.ref S,.ref z,res],[]⟩) R s:=by
 obtain ⟨n1,n2,n3,n4,n5,n6,n7⟩:=id ne
 intro k
 induction k with
 | zero=>
   intro i s acc c hk hi hN Z hS hP hR
   have hin:i=n:=by omega
   refine codeAny_builtin F.entry_extend_loop ?_
   rw [Around.under_plainId F.plain_extend_loop _]
   show wpAny _ A.in1 (pyNext (.ref z) >>= _) _ _ s
   have hend:xs[i]?=none∨ys[i]?=none:=by
    rcases Nat.le_total xs.size ys.size with q | q
    ·left;rw [Array.getElem?_eq_none];omega
    ·right;rw [Array.getElem?_eq_none];omega
   refine wpAny_bind (Z.fin hh D hend fun h' kp=>?_)
   subst hin
   refine wpAny_pure (hR h' acc c (fun b o b1 b2 b3 b4 b5 e=>kp b o b2 b3 b4 b5 e) (kp S _ n1 n3 n4 n5 hS) (hP.keep fun c o hc e=>kp c o ?_ ?_ ?_ ?_ e))
   ·exact Nat.ne_of_gt (Nat.lt_of_lt_of_le lt.1 hc)
   ·exact Nat.ne_of_gt (Nat.lt_of_lt_of_le lt.2.1 hc)
   ·exact Nat.ne_of_gt (Nat.lt_of_lt_of_le lt.2.2.1 hc)
   ·exact Nat.ne_of_gt (Nat.lt_of_lt_of_le lt.2.2.2 hc)
 | succ k ih=>
   intro i s acc c hk hi hN Z hS hP hR
   have hlt:i < n:=by omega
   have lx:i < xs.size:=by omega
   have ly:i < ys.size:=by omega
   refine codeAny_builtin F.entry_extend_loop ?_
   rw [Around.under_plainId F.plain_extend_loop _]
   show wpAny _ A.in1 (pyNext (.ref z) >>= _) _ _ s
   have hx:xs[i]?=some xs[i]:=Array.getElem?_eq_getElem lx
   have hy:ys[i]?=some ys[i]:=Array.getElem?_eq_getElem ly
   refine wpAny_bind (Z.next D hN lt hx hy fun h' Z' hp hz' kp=>?_)
   have hS':=kp S _ n1 n3 n4 n5 hS
   have RI:eB N0 xs ys h' acc i:=hP.keep fun c o hc e=>kp c o (Nat.ne_of_gt (Nat.lt_of_lt_of_le lt.1 hc)) (Nat.ne_of_gt (Nat.lt_of_lt_of_le lt.2.1 hc)) (Nat.ne_of_gt (Nat.lt_of_lt_of_le lt.2.2.1 hc)) (Nat.ne_of_gt (Nat.lt_of_lt_of_le lt.2.2.2 hc)) e
   have hnew:Value.ref s.heap.objs.size∉acc.toList:=fun hm=>by
    obtain ⟨j,hj,ej⟩:=List.mem_iff_getElem.mp hm
    have hj':j < acc.size:=by simpa using hj
    have hji:j < i:=by rw [← hP.1];exact hj'
    have gx:xs[j]?=some xs[j]:=Array.getElem?_eq_getElem (by omega)
    have gy:ys[j]?=some ys[j]:=Array.getElem?_eq_getElem (by omega)
    obtain ⟨q,e1,e2,e3⟩:=hP.2.1 j _ _ hji gx gy
    rw [Array.getElem?_eq_getElem hj'] at e1
    have e4:acc[j]=Value.ref s.heap.objs.size:=by rw [← ej];simp
    rw [e4] at e1
    have e5:s.heap.objs.size=q:=by injection Option.some.inj e1
    have:=Heap.lt_size e2
    rw [← e5] at this
    exact Nat.lt_irrefl _ this
   show wpAny _ A.in1 (updateSeq S (·.push (.ref s.heap.objs.size)) >>= _) _ _ _
   refine wpAny_bind ?_
   have up:∀ b o,b≠S→h'.get? b=some o→(h'.update S (Obj.mapSeq (·.push (.ref s.heap.objs.size)))).get? b=some o:=fun b o hb e=>(Heap.get?_update_other _ _ (Ne.symm hb)).trans e
   refine wpAny_updateSeq hS' rfl (wpAny_pure ⟨plainId_quiet F.plain_extend_loop _,ih (i+1) _ (acc.push (.ref s.heap.objs.size)) _ (by omega) hlt ?_ (Z'.keep IA ne fun c o hc e=>up c o hc e) (Heap.get?_update_self _ hS' rfl)
    ((RI.push hx hy hp hN hnew).keep fun c o hc e=>up c o (Nat.ne_of_gt (Nat.lt_of_lt_of_le IA hc)) e) fun h'' acc' c' PB PC PD=>?_⟩) (by rw [hP.1];omega) (by show (acc.push _).size≤sizeLine+1;rw [Array.size_push,hP.1];omega)
   ·show N0≤(h'.update S _).objs.size
    have:(h'.update S (Obj.mapSeq (·.push (.ref s.heap.objs.size)))).objs.size=h'.objs.size:=(Heap.SameBut.update ..).1
    omega
   ·exact hR h'' acc' c' (fun b o b1 b2 b3 b4 b5 e=>PB b o b1 b2 b3 b4 b5 (up b o b1 (kp b o b2 b3 b4 b5 e))) PC PD
theorem Bb:typeLookup (.type "zip") "__len__" =pure none:=by rw [typeLookup_type,builtinLookup_eq_fast];kernel_rfl
theorem zT:typeLookup (.type "zip") "__length_hint__" =pure none:=by rw [typeLookup_type,builtinLookup_eq_fast];kernel_rfl
theorem Bc {N0:Nat} {z TI TO i1 i2 l1 l2 S:Addr} {xs ys:Array Value} {c₀:Nat} (hh:A.in1.handled=none) (D:ZipApart z TI TO i1 i2 l1 l2) (lt:z < N0∧TO < N0∧i1 < N0∧i2 < N0) (IA:S < N0) (ne:S≠z∧S≠TI∧S≠TO∧S≠i1∧S≠i2∧S≠l1∧S≠l2) (n:Nat) (hn:n=min xs.size ys.size) (hsz:n≤sizeLine) (res:Value)
 (hN:N0≤s.heap.objs.size) (Z:nh N0 xs ys z TI TO i1 i2 l1 l2 0 s.heap) (hz:IsZip s.heap z TI TO .none) (hS:s.heap.get? S=some { cls:= .type "list",data:= .seq #[] c₀ })
 (hR:∀ h' acc' c',(∀ b o,b≠S→b≠z→b≠TO→b≠i1→b≠i2→s.heap.get? b=some o→h'.get? b=some o)→h'.get? S=some { cls:= .type "list",dict:=none,data:= .seq acc' c',slots:= #[] }→eB N0 xs ys h' acc' n→R (.ok (.ret res)) { s with heap:=h' }) :
 wpAny (model prog w) A.in1 (Builtin.List.listExtendWith (.ref S) (.ref z) res)
  (fun fin s'=>match fin with | .done f=>R (.ok f) s' | .again c'=>c'.quiet=true∧codeAny (model prog w) A c' R s') (fun e s'=>R (.error e) s') s:=by
 have hTy:s.TypeIs (.ref z) "zip" :=⟨_,hz,rfl⟩
 unfold Builtin.List.listExtendWith
 refine wpAny_bind (wpAny_typeOf hTy ?_)
 have h1:Builtin.List.listSameRef (.ref S) (.ref z)=false:=by simp [Builtin.List.listSameRef,ne.1]
 have h2:(Value.type "zip" == Value.type "list")=false:=by decide
 have h3:(Value.type "zip" == Value.type "tuple")=false:=by decide
 simp only [h1,h2,h3,Bool.or_false,Bool.false_eq_true,if_false]
 refine wpAny_bind (wpAny_pyIter_zip hz ?_)
 refine wpAny_bind (wpAny_holding ?_)
 unfold Builtin.List.listLengthHint
 refine wpAny_bind (wpAny_specialOf hTy Bb ?_)
 show wpAny _ A.in1 (specialOf (Value.ref z) (Str.ofString "__length_hint__") >>= _) _ _ _
 refine wpAny_bind (wpAny_specialOf hTy zT ?_)
 refine wpAny_pure ?_
 show wpAny _ A.in1 (rule "list.extend.makes-room" >>= fun _=>Builtin.List.listTouch (.ref S) >>= fun _=>
  again (.builtin "list.extend.loop" ⟨[.ref S,.ref z,res],[]⟩)) _ _ _
 refine wpAny_bind (wpAny_rule ?_)
 refine wpAny_bind ?_
 show wpAny _ A.in1 (updateSeq S (·.push .none) >>= fun _=>updateSeq S (·.pop)) _ _ _
 refine wpAny_bind (wpAny_updateSeq hS rfl ?_)
 have La:=Heap.get?_update_self (Obj.mapSeq (·.push Value.none)) hS rfl
 refine wpAny_updateSeq (hz:=by seq_fits) La rfl ?_
 have RJ:=Heap.get?_update_self (Obj.mapSeq (·.pop)) La rfl
 have Hq:∀ b o,b≠S→s.heap.get? b=some o→((s.heap.update S (Obj.mapSeq (·.push Value.none))).update S (Obj.mapSeq (·.pop))).get? b=some o:=
  fun b o hb e=>(Heap.get?_update_other _ _ (Ne.symm hb)).trans ((Heap.get?_update_other _ _ (Ne.symm hb)).trans e)
 have PF:((s.heap.update S (Obj.mapSeq (·.push Value.none))).update S (Obj.mapSeq (·.pop))).objs.size=s.heap.objs.size:=by
  rw [(Heap.SameBut.update ..).1,(Heap.SameBut.update ..).1]
 refine wpAny_pure ⟨plainId_quiet F.plain_extend_loop _,ER hh D lt IA ne n hn hsz res n 0 _ _ _ rfl (Nat.zero_le _) (Nat.le_trans hN (Nat.le_of_eq PF.symm)) (Z.keep IA ne fun c o hc e=>Hq c o hc e) RJ ⟨rfl,(fun j x y hj=>absurd hj (Nat.not_lt_zero _)),List.nodup_nil⟩ fun h' acc' c' kp hS' hP=>?_⟩
 exact hR h' acc' c' (fun b o b1 b2 b3 b4 b5 e=>kp b o b1 b2 b3 b4 b5 (Hq b o b1 e)) hS' hP
theorem vL {N0:Nat} {z TI TO i1 i2 l1 l2 S:Addr} {xs ys:Array Value} (hh:A.in1.handled=none) (D:ZipApart z TI TO i1 i2 l1 l2) (lt:z < N0∧TO < N0∧i1 < N0∧i2 < N0) (IA:S < N0) (ne:S≠z∧S≠TI∧S≠TO∧S≠i1∧S≠i2∧S≠l1∧S≠l2) (n:Nat) (hn:n=min xs.size ys.size) (hsz:n≤sizeLine)
 (hN:N0≤s.heap.objs.size) (Z:nh N0 xs ys z TI TO i1 i2 l1 l2 0 s.heap) (hz:IsZip s.heap z TI TO .none) (hS:s.heap.get? S=some { cls:= .type "list",data:= .seq #[] })
 (hR:∀ h' acc' c',(∀ b o,b≠S→b≠z→b≠TO→b≠i1→b≠i2→s.heap.get? b=some o→h'.get? b=some o)→h'.get? S=some { cls:= .type "list",dict:=none,data:= .seq acc' c',slots:= #[] }→eB N0 xs ys h' acc' n→R (.ok (.ret .none)) { s with heap:=h' }) :
 wpAny (model prog w) A.in1 (Builtin.«list.__init__» ⟨[.ref S,.ref z],[]⟩)
  (fun fin s'=>match fin with | .done f=>R (.ok f) s' | .again c'=>c'.quiet=true∧codeAny (model prog w) A c' R s') (fun e s'=>R (.error e) s') s:=by
 show wpAny _ A.in1 (do let old ← Builtin.List.listItems (.ref S);Builtin.List.listUpdate (.ref S) (fun _=> #[]);letGo old.toList.reverse;Builtin.List.listExtendWith (.ref S) (.ref z) .none) _ _ s
 refine wpAny_bind ?_
 unfold Builtin.List.listItems
 refine wpAny_bind (wpAny_seqItems hS rfl (wpAny_pure ?_))
 show wpAny _ A.in1 (updateSeq S (fun _=> #[]) >>= fun _=>letGo (#[]:Array Value).toList.reverse >>= fun _=>Builtin.List.listExtendWith (.ref S) (.ref z) .none) _ _ s
 refine wpAny_bind (wpAny_updateSeq hS rfl ?_)
 have La:=Heap.get?_update_self (Obj.mapSeq (fun _=>(#[]:Array Value))) hS rfl
 have Hq:∀ b o,b≠S→s.heap.get? b=some o→(s.heap.update S (Obj.mapSeq (fun _=>(#[]:Array Value)))).get? b=some o:=
  fun b o hb e=>(Heap.get?_update_other _ _ (Ne.symm hb)).trans e
 have PF:(s.heap.update S (Obj.mapSeq (fun _=>(#[]:Array Value)))).objs.size=s.heap.objs.size:=(Heap.SameBut.update ..).1
 refine wpAny_bind (wpAny_letGo ?_)
 refine Bc hh D lt IA ne n hn hsz .none (Nat.le_trans hN (Nat.le_of_eq PF.symm)) (Z.keep IA ne fun c o hc e=>Hq c o hc e) (Hq _ _ ne.1.symm hz) La fun h' acc' c' kp hS' hP=>?_
 exact hR h' acc' c' (fun b o b1 b2 b3 b4 b5 e=>kp b o b1 b2 b3 b4 b5 (Hq b o b1 e)) hS' hP
theorem vM {z TI TO i1 i2 l1 l2:Addr} {xs ys:Array Value} {Q:Value→Shared→Prop} (hh:A.in1.in1.handled=none) (D:ZipApart z TI TO i1 i2 l1 l2)
 (lt:z < s.heap.objs.size∧TI < s.heap.objs.size∧TO < s.heap.objs.size∧i1 < s.heap.objs.size∧i2 < s.heap.objs.size∧l1 < s.heap.objs.size∧l2 < s.heap.objs.size) (n:Nat) (hn:n=min xs.size ys.size) (hsz:n≤sizeLine)
 (hz:IsZip s.heap z TI TO .none) (hTI:IsPair s.heap TI (.ref i1) (.ref i2)) {a b:Value} (hTO:IsPair s.heap TO a b) (h1:s.heap.IsListIter i1 l1 0) (h2:s.heap.IsListIter i2 l2 0) (hl1:s.heap.IsList l1 xs) (hl2:s.heap.IsList l2 ys)
 (hQ:∀ h' acc' c',(∀ b o,b≠z→b≠TO→b≠i1→b≠i2→s.heap.get? b=some o→h'.get? b=some o)→h'.get? s.heap.objs.size=some { cls:= .type "list",dict:=none,data:= .seq acc' c',slots:= #[] }→eB (s.heap.objs.size+1) xs ys h' acc' n→Q (.ref s.heap.objs.size) { s with heap:=h' }) :
 wpAny (model prog w) A (call (.type "list") [.ref z]) Q E s:=by
 obtain ⟨q1,q2,q3,q4,q5,q6,q7⟩:=lt
 refine callType_codes (Q₁:=fun obj s₁=>obj= .ref s.heap.objs.size∧s₁= { s with heap:=s.heap.push { cls:= .type "list",data:= .seq #[] } }) F.called_list (F.typeCall_list_1 _) F.entry_list_init
  (code_list_new _ ⟨rfl,rfl⟩) fun obj s₁ h₁=>?_
 obtain ⟨rfl,rfl⟩:=h₁
 have hS:(s.heap.push { cls:= .type "list",data:= .seq #[] }).get? s.heap.objs.size=some { cls:= .type "list",data:= .seq #[] }:=Heap.get?_push_size _ rfl
 have up:∀ c o,s.heap.get? c=some o→(s.heap.push { cls:= .type "list",data:= .seq #[] }).get? c=some o:=fun c o e=>Heap.get?_push_of_some _ e
 have Z:nh (s.heap.objs.size+1) xs ys z TI TO i1 i2 l1 l2 0 (s.heap.push { cls:= .type "list",data:= .seq #[] }):=
  ⟨.inl ⟨up _ _ hz,a,b,up _ _ hTO⟩,up _ _ hTI,h1.at fun o e=>up _ o e,h2.at fun o e=>up _ o e,(by obtain ⟨o,e,r⟩:=hl1;exact ⟨o,up _ _ e,r⟩),(by obtain ⟨o,e,r⟩:=hl2;exact ⟨o,up _ _ e,r⟩)⟩
 refine ⟨⟨_,hS,rfl⟩,F.args_list_init_2 _ _,vL (N0:=s.heap.objs.size+1) hh D ⟨Nat.lt_succ_of_lt q1,Nat.lt_succ_of_lt q3,Nat.lt_succ_of_lt q4,Nat.lt_succ_of_lt q5⟩ (Nat.lt_succ_self _) ⟨Nat.ne_of_gt q1,Nat.ne_of_gt q2,Nat.ne_of_gt q3,Nat.ne_of_gt q4,Nat.ne_of_gt q5,Nat.ne_of_gt q6,Nat.ne_of_gt q7⟩ n hn hsz
  (by show s.heap.objs.size+1≤(Heap.push _ _).objs.size;rw [Heap.size_push];exact Nat.le_refl _) Z (up _ _ hz) hS fun h' acc' c' kp hS' hP=>?_⟩
 exact ⟨rfl,hQ h' acc' c' (fun b o b2 b3 b4 b5 e=>kp b o (Nat.ne_of_lt (Heap.lt_size e)) b2 b3 b4 b5 (up b o e)) hS' hP⟩
end
end PySem
namespace L2
open PySem PySem.Spec PyProof.Rows
section
variable {X:Cx} {pins:List (Addr ×Obj)} {σ:St} {H:Hp} {s:Shared}
theorem Inv.named {a:Addr} {o:HO} (I:Inv X pins σ H s) (f:iE X pins H a) (new:eK X.prog X.w (upd H a o) s.heap a o):Inv X pins σ (upd H a o) s:=by
 obtain ⟨f0,f1,f2,f3,f4,f5⟩:=f
 have nn:∀ b u,H b=some u→b≠a:=fun b u e z=>by rw [z,f0] at e;cases e
 have hok:nF X.prog X.w (upd H a o) s.heap:=fun b u e=>by
  by_cases hb:b=a
  ·subst hb;rw [dR] at e;cases e;exact new
  ·rw [bh hb] at e
   exact (I.hok b u e).stay (fun c v _ q=>q) (fun c q=>by rw [bh (nn _ _ q)];exact q) fun c xs q=>by rw [bh (nn _ _ q)];exact q
 exact I.step (h':=s.heap) (g':=s.gens) (d':=s.drawn) (t':=s.toks) (ch:=[a]) (fun b hb=>by rw [List.mem_singleton.mp hb];exact ⟨f3,f1,f4,f5⟩) (fun b o _ _ _ e _=>e) (fun b o _ _ _ e _=>⟨o.slots,e⟩) (fun b o hc e n=>by rw [bh (by simpa using hc)];exact n)
  (fun b o _ e=>⟨o,e⟩) (fun b xs e=>by rw [bh (nn _ _ e)];exact e) (fun b o u e=>by rw [bh (nn _ _ e)];exact e) (fun b ps e=>⟨#[],by rw [bh (nn _ _ e),e];simp⟩) (fun m hm=>hm) hok I.bare
end
end L2
namespace L3
open PySem PySem.Spec PyProof.Rows L2
section
variable {X:Cx} {pins:List (Addr ×Obj)} {σ:St} {s:Shared}
theorem uf:∀ (L:List (Addr ×V ×V)) {H:Hp},Inv X pins σ H s→(L.map (·.1)).Nodup→(∀ q∈L,iE X pins H q.1∧∃ u v,RelV q.2.1 u∧RelV q.2.2 v∧IsPair s.heap q.1 u v)→
 ∃ H',Inv X pins σ H' s∧(∀ b o,H b=some o→H' b=some o)∧(∀ b,b∉L.map (·.1)→H' b=H b)∧∀ q∈L,H' q.1=some (.tup [q.2.1,q.2.2])
 | [],H,I,_,_=>⟨H,I,fun _ _ e=>e,fun _ _=>rfl,fun q hq=>by cases hq⟩
 | (p,x,y) :: L,H,I,nd,h=>by
   obtain ⟨f,u,v,ru,rv,hp⟩:=h (p,x,y) (by simp)
   rw [List.map_cons,List.nodup_cons] at nd
   have I1:Inv X pins σ (upd H p (.tup [x,y])) s:=I.named f ⟨by rw [sizeLine_eq];show 2≤16777216;decide,[u,v],.cons ru (.cons rv .nil),⟨_,hp,rfl,_,rfl⟩⟩
   obtain ⟨H',I',k1,k2,k3⟩:=uf L I1 nd.2 fun q hq=>by
    obtain ⟨⟨f0,fr⟩,r⟩:=h q (List.mem_cons_of_mem _ hq)
    refine ⟨⟨?_,fr⟩,r⟩
    rw [bh (fun z=>nd.1 (List.mem_map.mpr ⟨q,hq,z⟩))]
    exact f0
   refine ⟨H',I',fun b o e=>k1 b o (by rw [bh (bX e f.1)];exact e),fun b hb=>?_,fun q hq=>?_⟩
   ·rw [List.map_cons,List.mem_cons,not_or] at hb
    rw [k2 b hb.2,bh hb.1]
   ·rcases List.mem_cons.mp hq with e | e
    ·rw [e];exact k1 p _ dR
    ·exact k3 q e
theorem xq:∀ (ps:List Addr),Vals (ps.map V.ref) (ps.map Value.ref)
 | []=> .nil
 | p :: ps=> .cons rfl (xq ps)
theorem rR {K:PySem.W.Frag} {H:Hp}:∀ {ds:List D} {xs:List V},ds.length=xs.length→(∀ (i:Nat) (d:D),ds[i]?=some d→∃ v,xs[i]?=some v∧Dat K H d v)→aL K H ds xs
 | [],[],_,_=>aS.mpr rfl
 | d :: ds,x :: xs,hl,h=>by
   obtain ⟨v,e,hv⟩:=h 0 d rfl
   cases e
   exact aP.mpr ⟨x,xs,rfl,hv,rR (by simpa using hl) fun i d e=>h (i+1) d e⟩
 | [],_ :: _,hl,_=>by cases hl
 | _ :: _,[],hl,_=>by cases hl
end
section
variable {X:Cx} {pos:Pos}
def MX (t:vA):cY:=fun ρ M Q=>t ρ M fun vs M1=> ∃ a b xs ys,vs= [.ref a,.ref b]∧M1 a=some (.lst xs)∧M1 b=some (.lst ys)∧∀ p,M1 p=none→Q (.ref p) (aA M1 p (.lst (List.zipWith pairD xs ys)))
theorem C7 {e1 e2:Expr} {t:vA} {p1 p2 pos2:Pos} (hc:X.calm=true) (JP:Gl X "list") (hml:X.mg "list" =none) (RK:Gl X "zip") (RL:X.mg "zip" =none) (ha:AN X [e1,e2] t)
 (st1:starEach [e1,e2] X.env=(false,eval e1 X.env) :: starEach [e2] X.env:=by rfl) (hpl:(backTo pos2 (starEach [e2] X.env)).any (·.1)=false:=by rfl)
 (s2:starEach [.Call (.Name "zip" p2) [e1,e2] [] pos2] X.env= [(false,eval (.Call (.Name "zip" p2) [e1,e2] [] pos2) X.env)]:=by rfl) :
 cE X (.Call (.Name "list" p1) [.Call (.Name "zip" p2) [e1,e2] [] pos2] [] pos) (MX t):=by
 constructor
 intro pins s σ H ρ M Q I r h
 refine wpAny_Call_Name_kw (lN I JP hml bY ?_ (by decide) (by decide))
 refine PyProof.Rows.callWith_type1 (Q:=EP X pins σ (Post X.K M H Q)) ?_ (by rw [s2];rfl) (by rfl)
 rw [s2]
 show wpAny _ _ (spliced ((false,eval (.Call (.Name "zip" p2) [e1,e2] [] pos2) X.env) :: backTo pos [])) _ _ s
 refine Calls.spliced_cons ?_
 refine wpAny_Call_Name_kw (lN I RK RL C5 ?_ (by decide) (by decide))
 refine PyProof.Rows.callWith_type1 (dD (ha.run pos2 pins s σ H ρ M _ I r h) fun us s1 hq=>?_) st1 hpl
 obtain ⟨vs,H1,I1,r1,ds,M1,f1,dv,oY,a,b,xs,ys,e,RM,RN,q⟩:=hq
 subst e
 obtain ⟨v,u,rfl,hv,hu⟩:=tK dv
 obtain rfl:=aO.mp hv
 obtain rfl:=aO.mp hu
 obtain ⟨u1,u2,rfl,ra,rb⟩:=vals2 r1
 obtain rfl:u1=Value.ref a:=ra
 obtain rfl:u2=Value.ref b:=rb
 obtain ⟨zs,RO,dz⟩:=oY.lst RM
 obtain ⟨ws,RP,dw⟩:=oY.lst RN
 obtain ⟨its,rv,pl,hz1⟩:=I1.list (gO.of RO)
 obtain ⟨NP,rw',PJ,hz2⟩:=I1.list (gO.of RP)
 have la:a < s1.heap.objs.size:=by obtain ⟨o,e,_⟩:=pl.isList;exact Heap.lt_size e
 have lb:b < s1.heap.objs.size:=by obtain ⟨o,e,_⟩:=PJ.isList;exact Heap.lt_size e
 refine call_zip_2 pl.isList PJ.isList fun h' hz hTI hTO h1 h2 hsz kp=>Calls.spliced_nil ?_
 have na:∀ k,a≠s1.heap.objs.size+k:=fun k=>Nat.ne_of_lt (Nat.lt_of_lt_of_le la (Nat.le_add_right _ _))
 have nb:∀ k,b≠s1.heap.objs.size+k:=fun k=>Nat.ne_of_lt (Nat.lt_of_lt_of_le lb (Nat.le_add_right _ _))
 have nn:∀ j k:Nat,j≠k→s1.heap.objs.size+j≠s1.heap.objs.size+k:=fun j k h e=>h (Nat.add_left_cancel e)
 have D:ZipApart (s1.heap.objs.size+4) (s1.heap.objs.size+2) (s1.heap.objs.size+3) s1.heap.objs.size (s1.heap.objs.size+1) a b:=
  ⟨nn 2 4 (by decide),nn 3 4 (by decide),nn 0 4 (by decide),nn 1 4 (by decide),nn 2 3 (by decide),nn 2 0 (by decide),nn 2 1 (by decide),nn 3 0 (by decide),nn 3 1 (by decide),nn 0 1 (by decide),na 4,na 3,na 0,na 1,nb 4,nb 3,nb 0,nb 1⟩
 have lz:=rv.length
 have lw:=rw'.length
 refine vM (s:={ s1 with heap:=h' }) (show _ from I.ok.hd hc) D (by show _ < h'.objs.size∧_;rw [hsz];exact ⟨Nat.add_lt_add_left (by decide) _,Nat.add_lt_add_left (by decide) _,Nat.add_lt_add_left (by decide) _,Nat.lt_add_of_pos_right (by decide),Nat.add_lt_add_left (by decide) _,Nat.lt_of_lt_of_le la (Nat.le_add_right _ _),Nat.lt_of_lt_of_le lb (Nat.le_add_right _ _)⟩) (min its.toArray.size NP.toArray.size) rfl (by simp only [List.size_toArray];omega) hz hTI hTO h1 h2
  (by obtain ⟨o,e,r⟩:=pl.isList;exact ⟨o,kp _ _ e,r⟩) (by obtain ⟨o,e,r⟩:=PJ.isList;exact ⟨o,kp _ _ e,r⟩) fun h'' acc c ya hS hP=>?_
 have hS:h''.get? (s1.heap.objs.size+5)=some { cls:= .type "list",dict:=none,data:= .seq acc c,slots:= #[] }:=by rw [← hsz];exact hS
 have hP:eB (s1.heap.objs.size+6) its.toArray NP.toArray h'' acc (min its.toArray.size NP.toArray.size):=by
  have e:s1.heap.objs.size+6=h'.objs.size+1:=by rw [hsz]
  rw [e];exact hP
 have en:min its.toArray.size NP.toArray.size=min zs.length ws.length:=by simp only [List.size_toArray];omega
 rw [en] at hP
 have I2:Inv X pins σ H1 { s1 with heap:=h',toks:=s1.toks }:=I1.kept (t':=s1.toks) kp
 have fz:∀ {H':Hp} {b:Addr},s1.heap.objs.size≤b→H' b=none→iE X pins H' b:=fun hb hn=>I1.CL hb hn
 have I3:Inv X pins σ H1 { s1 with heap:=h'',toks:=s1.toks }:=Inv.Hr (s:={ s1 with heap:=h',toks:=s1.toks }) (h':=h'') (t':=s1.toks) (fp:=[s1.heap.objs.size+4,s1.heap.objs.size+3,s1.heap.objs.size,s1.heap.objs.size+1]) I2
  (fun b o hb e=>by
   have nb:b≠s1.heap.objs.size+4∧b≠s1.heap.objs.size+3∧b≠s1.heap.objs.size∧b≠s1.heap.objs.size+1:=by simpa using hb
   exact ya b o nb.1 nb.2.1 nb.2.2.1 nb.2.2.2 e)
  (fun b hb=>by
   have hle:s1.heap.objs.size≤b:=by
    simp only [List.mem_cons,List.not_mem_nil,or_false] at hb
    rcases hb with rfl | rfl | rfl | rfl
    ·exact Nat.le_add_right _ _
    ·exact Nat.le_add_right _ _
    ·exact Nat.le_refl _
    ·exact Nat.le_add_right _ _
   exact fz hle (I1.hok.fresh hle))
 have key:∀ j,j < min zs.length ws.length→∃ x y u v p,zs[j]?=some x∧ws[j]?=some y∧RelV x u∧RelV y v∧acc[j]?=some (.ref p)∧IsPair h'' p u v∧s1.heap.objs.size+6≤p:=fun j hj=>by
  have gx:zs[j]?=some (zs[j]'(by omega)):=List.getElem?_eq_getElem (by omega)
  have gy:ws[j]?=some (ws[j]'(by omega)):=List.getElem?_eq_getElem (by omega)
  obtain ⟨u,hu,ru⟩:=rv.get gx
  obtain ⟨v,hv,NN⟩:=rw'.get gy
  obtain ⟨p,a1,a2,a3⟩:=hP.2.1 j u v hj (by simpa using hu) (by simpa using hv)
  exact ⟨_,_,u,v,p,gx,gy,ru,NN,a1,a2,a3⟩
 generalize hm:min zs.length ws.length=m at *
 let pj:Nat→Addr:=fun j=>match acc[j]? with | some (.ref p)=>p | _=>0
 have PK:∀ j,j < m→∃ x y u v,zs[j]?=some x∧ws[j]?=some y∧RelV x u∧RelV y v∧acc[j]?=some (.ref (pj j))∧IsPair h'' (pj j) u v∧s1.heap.objs.size+6≤pj j:=fun j hj=>by
  obtain ⟨x,y,u,v,p,a1,a2,a3,a4,a5,a6,a7⟩:=key j hj
  have e:pj j=p:=by show (match acc[j]? with | some (.ref p)=>p | _=>0)=p;rw [a5]
  rw [e]
  exact ⟨x,y,u,v,a1,a2,a3,a4,a5,a6,a7⟩
 have IB:acc.toList=((List.range m).map pj).map Value.ref:=by
  apply List.ext_getElem?
  intro j
  by_cases hj:j < m
  ·obtain ⟨x,y,u,v,a1,a2,a3,a4,a5,a6,a7⟩:=PK j hj
   rw [Array.getElem?_toList,a5]
   simp [hj]
  ·rw [List.getElem?_eq_none (by simp [hP.1];omega),List.getElem?_eq_none (by simp;omega)]
 have RQ:((List.range m).map pj).Nodup:=by
  have q:=hP.2.2
  rw [IB] at q
  exact (List.pairwise_map.mp q).imp fun hne e=>hne (congrArg _ e)
 obtain ⟨H',I4,k1,k2,k3⟩:=uf ((List.range m).map fun j=>(pj j,(zs[j]?).getD .bK,(ws[j]?).getD .bK)) I3 (by rw [List.map_map];exact RQ) (fun q hq=>by
  obtain ⟨j,hj,rfl⟩:=List.mem_map.mp hq
  obtain ⟨x,y,u,v,a1,a2,a3,a4,a5,a6,a7⟩:=PK j (List.mem_range.mp hj)
  have hle:s1.heap.objs.size≤pj j:=Nat.le_trans (Nat.le_add_right _ _) a7
  refine ⟨fz hle (I1.hok.fresh hle),u,v,?_,?_,a6⟩
  ·show RelV ((zs[j]?).getD .bK) u;rw [a1];exact a3
  ·show RelV ((ws[j]?).getD .bK) v;rw [a2];exact a4)
 have PL:H' (s1.heap.objs.size+5)=none:=by
  rw [k2 _ (fun hz=>?_)]
  ·exact I1.hok.fresh (Nat.le_add_right _ _)
  ·rw [List.map_map] at hz
   obtain ⟨j,hj,e⟩:=List.mem_map.mp hz
   obtain ⟨x,y,u,v,a1,a2,a3,a4,a5,a6,a7⟩:=PK j (List.mem_range.mp hj)
   have e:pj j=s1.heap.objs.size+5:=e
   rw [e] at a7
   exact absurd a7 (by omega)
 have hlen:((List.range m).map pj).length≤sizeLine:=by
  rw [List.length_map,List.length_range]
  omega
 have I5:Inv X pins σ (upd H' (s1.heap.objs.size+5) (.lst (((List.range m).map pj).map V.ref))) { s1 with heap:=h'',toks:=s1.toks }:=
  I4.named (fz (Nat.le_add_right _ _) PL) ⟨by rw [List.length_map];exact hlen,((List.range m).map pj).map Value.ref,c,xq _,by rw [← IB];exact hS⟩
 have ev:(Value.ref ({ s1 with heap:=h' }:Shared).heap.objs.size)= .ref (s1.heap.objs.size+5):=by show Value.ref h'.objs.size=_;rw [hsz]
 have PM:Ext H1 H':=Ext.keep k1
 refine ⟨.ref (s1.heap.objs.size+5),_,I5,ev,.ref _,aA M1 _ (.lst (List.zipWith pairD xs ys)),?_,aO.mpr rfl,(oY.keep k1).newL PL ?_,q _ ?_⟩
 ·refine f1.trans (Fr.trans (fun b o n e=>⟨k1 b o e,n⟩) (Fr.new PL fun _ hb=>bG hb))
 ·refine rR (by rw [List.length_zipWith,List.length_map,List.length_map,List.length_range,← hm,dz.length,dw.length]) fun i d hd=>?_
  rw [List.getElem?_zipWith] at hd
  cases hx:xs[i]? with
  | none=>rw [hx] at hd;cases hd
  | some dx=>
    cases hy:ys[i]? with
    | none=>rw [hx,hy] at hd;cases hd
    | some dy=>
      rw [hx,hy] at hd
      have hd:pairD dx dy=d:=Option.some.inj hd
      obtain ⟨x,gx,qx⟩:=dz.get hx
      obtain ⟨y,gy,qy⟩:=dw.get hy
      have hi:i < m:=by
       have i1:=(List.getElem?_eq_some_iff.mp gx).1
       have i2:=(List.getElem?_eq_some_iff.mp gy).1
       omega
      have q3:=k3 (pj i,(zs[i]?).getD .bK,(ws[i]?).getD .bK) (List.mem_map.mpr ⟨i,List.mem_range.mpr hi,rfl⟩)
      rw [gx,gy] at q3
      refine ⟨.ref (pj i),by simp [hi],?_⟩
      rw [← hd]
      exact bB.mpr ⟨pj i,[x,y],rfl,q3,aL.mono PM _ _ (aP.mpr ⟨x,[y],rfl,qx,aL.one qy⟩)⟩
 ·exact oY.free (I1.hok.fresh (Nat.le_add_right _ _))
end
end L3
namespace L3
open PySem
def kR:List Pl→Pl→List Pl
 | b :: a :: r,p=>if tw a b p < 0 then kR (a :: r) p else b :: a :: r
 | [a],_=>[a]
 | [],_=>[]
def aV (st:List Pl) (p:Pl):List Pl:=p :: kR st p
structure Way where
 al:Int
 be:Int
def Way.f (w:Way) (p:Pl):Int:=w.al*p.x+w.be*p.y
theorem fy (al be ux uy vx vy px py:Int):(al*vx+be*vy)*(ux*py - uy*px)=(al*ux+be*uy)*(vx*py - vy*px)+(al*px+be*py)*(ux*vy - uy*vx):=by grind
theorem ES {a b:Int} (ha:0 < a) (h:0≤a*b):0≤b:=by
 apply Classical.byContradiction
 intro z
 have:a*b < 0:=Int.mul_neg_of_pos_of_neg ha (by omega)
 omega
theorem Hs {a b:Int} (ha:0 < a) (h:0 < a*b):0 < b:=by
 apply Classical.byContradiction
 intro z
 have:a*b≤0:=Int.mul_nonpos_of_nonneg_of_nonpos (by omega) (by omega)
 omega
section
variable {w:Way}
theorem Ht {z a b p:Pl} (h1:w.f z < w.f a) (h2:w.f a < w.f b) (h3:w.f b < w.f p) (t1:0≤tw z a b) (t2:0≤tw a b p):0≤tw z a p:=by
 have key:=fy w.al w.be (a.x - z.x) (a.y - z.y) (b.x - a.x) (b.y - a.y) (p.x - a.x) (p.y - a.y)
 unfold Way.f at h1 h2 h3
 have e1:tw z a b=(a.x - z.x)*(b.y - a.y) - (a.y - z.y)*(b.x - a.x):=by unfold tw;grind
 have e2:tw a b p=(b.x - a.x)*(p.y - a.y) - (b.y - a.y)*(p.x - a.x):=by unfold tw;grind
 have e3:tw z a p=(a.x - z.x)*(p.y - a.y) - (a.y - z.y)*(p.x - a.x):=by unfold tw;grind
 rw [← e1,← e2,← e3] at key
 have fU:0 < w.al*(a.x - z.x)+w.be*(a.y - z.y):=by rw [Int.mul_sub,Int.mul_sub];omega
 have fV:0 < w.al*(b.x - a.x)+w.be*(b.y - a.y):=by rw [Int.mul_sub,Int.mul_sub];omega
 have fP:0 < w.al*(p.x - a.x)+w.be*(p.y - a.y):=by rw [Int.mul_sub,Int.mul_sub];omega
 refine ES fV ?_
 rw [key]
 have m1:=Int.mul_nonneg (Int.le_of_lt fU) t2
 have m2:=Int.mul_nonneg (Int.le_of_lt fP) t1
 omega
theorem ET {a c p q:Pl} (h1:w.f a < w.f c) (h2:w.f c < w.f p) (h3:w.f q≤w.f c) (t1:0≤tw a c q) (t2:0≤tw a c p):0≤tw c p q:=by
 have key:=fy w.al w.be (p.x - c.x) (p.y - c.y) (c.x - a.x) (c.y - a.y) (q.x - c.x) (q.y - c.y)
 unfold Way.f at h1 h2 h3
 have e1:tw a c q=(c.x - a.x)*(q.y - c.y) - (c.y - a.y)*(q.x - c.x):=by unfold tw;grind
 have e2:tw a c p= -((p.x - c.x)*(c.y - a.y) - (p.y - c.y)*(c.x - a.x)):=by unfold tw;grind
 have e3:tw c p q=(p.x - c.x)*(q.y - c.y) - (p.y - c.y)*(q.x - c.x):=by unfold tw;grind
 have PN:(p.x - c.x)*(c.y - a.y) - (p.y - c.y)*(c.x - a.x)= -tw a c p:=by omega
 rw [← e1,PN,← e3] at key
 have fU:0 < w.al*(c.x - a.x)+w.be*(c.y - a.y):=by rw [Int.mul_sub,Int.mul_sub];omega
 have fP:0 < w.al*(p.x - c.x)+w.be*(p.y - c.y):=by rw [Int.mul_sub,Int.mul_sub];omega
 have fQ:w.al*(q.x - c.x)+w.be*(q.y - c.y)≤0:=by rw [Int.mul_sub,Int.mul_sub];omega
 refine ES fU ?_
 rw [key]
 have m1:=Int.mul_nonneg (Int.le_of_lt fP) t1
 have m2:0≤(w.al*(q.x - c.x)+w.be*(q.y - c.y))* -tw a c p:=Int.mul_nonneg_of_nonpos_of_nonpos fQ (by omega)
 omega
theorem EU {c d p q:Pl} (h1:w.f c < w.f d) (h2:w.f c < w.f p) (h3:w.f c < w.f q) (t1:0≤tw c d q) (t2:tw c d p < 0):0 < tw c p q:=by
 have key:=fy w.al w.be (p.x - c.x) (p.y - c.y) (d.x - c.x) (d.y - c.y) (q.x - c.x) (q.y - c.y)
 unfold Way.f at h1 h2 h3
 have e1:tw c d q=(d.x - c.x)*(q.y - c.y) - (d.y - c.y)*(q.x - c.x):=by unfold tw;grind
 have PN:(p.x - c.x)*(d.y - c.y) - (p.y - c.y)*(d.x - c.x)= -tw c d p:=by unfold tw;grind
 have e3:tw c p q=(p.x - c.x)*(q.y - c.y) - (p.y - c.y)*(q.x - c.x):=by unfold tw;grind
 rw [← e1,PN,← e3] at key
 have fU:0 < w.al*(d.x - c.x)+w.be*(d.y - c.y):=by rw [Int.mul_sub,Int.mul_sub];omega
 have fP:0 < w.al*(p.x - c.x)+w.be*(p.y - c.y):=by rw [Int.mul_sub,Int.mul_sub];omega
 have fQ:0 < w.al*(q.x - c.x)+w.be*(q.y - c.y):=by rw [Int.mul_sub,Int.mul_sub];omega
 refine Hs fU ?_
 rw [key]
 have m1:=Int.mul_nonneg (Int.le_of_lt fP) t1
 have m2:0 < (w.al*(q.x - c.x)+w.be*(q.y - c.y))* -tw c d p:=Int.mul_pos fQ (by omega)
 omega
def ug (w:Way) (S:List Pl) (a b:Pl):Prop:= ∀ q∈S,0≤tw a b q∧(tw a b q=0→¬ (w.f a < w.f q∧w.f q < w.f b))
def pL (w:Way) (S:List Pl):List Pl→Prop
 | b :: a :: r=>w.f a < w.f b∧ug w S a b∧pL w S (a :: r)
 | _=>True
def Co (p:Pl):List Pl→Prop
 | b :: a :: r=>0≤tw a b p∧Co p (a :: r)
 | _=>True
structure Ch (w:Way) (S st:List Pl):Prop where
 vC:∀ q∈st,q∈S
 Hu:pL w S st
 top:∀ q∈S,∃ t,st.head?=some t∧w.f q≤w.f t
 bot:∀ q∈S,∃ t,st.getLast?=some t∧w.f t≤w.f q
 inj:∀ q∈S,∀ r∈S,w.f q=w.f r→q=r
theorem zU {S:List Pl} {p:Pl}:∀ (r:List Pl) (b a:Pl),pL w S (b :: a :: r)→(∀ q∈b :: a :: r,q∈S)→w.f b < w.f p→0≤tw a b p→Co p (b :: a :: r)
 | [],b,a,_,_,_,t=>⟨t,trivial⟩
 | z :: r,b,a,e,m,h,t=>by
   obtain ⟨e1,e2,e3⟩:=e
   obtain ⟨e4,e5,e6⟩:=id e3
   have t2:0≤tw z a p:=Ht e4 e1 h (e5 b (m b (by simp))).1 t
   exact ⟨t,zU r a z e3 (fun q hq=>m q (List.mem_cons_of_mem _ hq)) (by omega) t2⟩
structure Km (w:Way) (S st:List Pl) (p c:Pl) (r:List Pl):Prop where
 eq:kR st p=c :: r
 Hu:pL w S (c :: r)
 vC:∀ q∈c :: r,q∈S
 PR:Co p (c :: r)
 lst:(c :: r).getLast?=st.getLast?
 QF:(∀ q∈S,w.f q≤w.f c)∨∃ d,w.f c < w.f d∧(∀ q∈S,0≤tw c d q)∧tw c d p < 0
theorem EV {S:List Pl} {p:Pl} (hp:∀ q∈S,w.f q < w.f p):∀ (st:List Pl) (c:Pl) (r:List Pl),st=c :: r→pL w S st→(∀ q∈st,q∈S)→((∀ q∈S,w.f q≤w.f c)∨∃ d,w.f c < w.f d∧(∀ q∈S,0≤tw c d q)∧tw c d p < 0)→
 ∃ c' r',Km w S st p c' r'
 | _,c,[],rfl,e,m,f=>⟨c,[],rfl,trivial,m,trivial,rfl,f⟩
 | _,b,a :: r,rfl,e,m,f=>by
   obtain ⟨e1,e2,e3⟩:=id e
   by_cases k:tw a b p < 0
   ·obtain ⟨c',r',P⟩:=EV hp (a :: r) a r rfl e3 (fun q hq=>m q (List.mem_cons_of_mem _ hq)) (.inr ⟨b,e1,fun q hq=>(e2 q hq).1,k⟩)
    refine ⟨c',r',?_,P.Hu,P.vC,P.PR,?_,P.QF⟩
    ·show (if tw a b p < 0 then kR (a :: r) p else b :: a :: r)=_
     rw [if_pos k];exact P.eq
    ·rw [P.lst];rfl
   ·refine ⟨b,a :: r,?_,e,m,zU r b a e m (hp b (m b (by simp))) (by omega),rfl,f⟩
    show (if tw a b p < 0 then kR (a :: r) p else b :: a :: r)=_
    rw [if_neg k]
theorem uh {S:List Pl} {p:Pl}:∀ (st:List Pl),pL w S st→Co p st→(∀ q∈st,w.f q < w.f p)→pL w (S ++ [p]) st
 | [],_,_,_=>trivial
 | [_],_,_,_=>trivial
 | b :: a :: r,e,l,h=>by
   obtain ⟨e1,e2,e3⟩:=e
   refine ⟨e1,fun q hq=>?_,uh (a :: r) e3 l.2 fun q hq=>h q (List.mem_cons_of_mem _ hq)⟩
   rcases List.mem_append.mp hq with hq | hq
   ·exact e2 q hq
   ·rw [List.mem_singleton.mp hq]
    exact ⟨l.1,fun _ z=>by have:=h b (by simp);omega⟩
theorem Ch.push {S st:List Pl} {p:Pl} (C:Ch w S st) (hne:S≠[]) (hp:∀ q∈S,w.f q < w.f p):Ch w (S ++ [p]) (aV st p):=by
 obtain ⟨s0,hs0⟩:=List.exists_mem_of_ne_nil S hne
 obtain ⟨b,hb,_⟩:=C.top s0 hs0
 obtain ⟨r,rfl⟩:∃ r,st=b :: r:=by
  cases st with
  | nil=>cases hb
  | cons x r=>exact ⟨r,by rw [Option.some.inj hb]⟩
 obtain ⟨c,r',P⟩:=EV hp (b :: r) b r rfl C.Hu C.vC (.inl fun q hq=>by
  obtain ⟨t,e,h⟩:=C.top q hq
  rw [← Option.some.inj e] at h
  exact h)
 have cS:c∈S:=P.vC c (by simp)
 have hcp:w.f c < w.f p:=hp c cS
 have PU:ug w (S ++ [p]) c p:=fun q hq=>by
  rcases List.mem_append.mp hq with hq | hq
  ·by_cases k:w.f q≤w.f c
   ·refine ⟨?_,fun _ z=>by omega⟩
    cases r' with
    | nil=>
      obtain ⟨t,e,h⟩:=C.bot q hq
      rw [← P.lst] at e
      have e:c=t:=by simpa using e
      subst e
      have:=C.inj q hq c cS (by omega)
      subst this
      rw [tO]
      exact Int.le_refl _
    | cons a r''=>
      obtain ⟨e1,e2,e3⟩:=P.Hu
      exact ET e1 hcp k (e2 q hq).1 P.PR.1
   ·rcases P.QF with f | ⟨d,d1,d2,d3⟩
    ·exact absurd (f q hq) k
    ·have:=EU d1 hcp (by omega) (d2 q hq) d3
     exact ⟨by omega,fun z=>by omega⟩
  ·rw [List.mem_singleton.mp hq,tN]
   exact ⟨Int.le_refl _,fun _ z=>by omega⟩
 refine ⟨fun q hq=>?_,?_,fun q hq=>⟨p,rfl,?_⟩,fun q hq=>?_,fun q hq r hr e=>?_⟩
 ·unfold aV at hq
  rw [P.eq] at hq
  rcases List.mem_cons.mp hq with rfl | hq
  ·simp
  ·exact List.mem_append_left _ (P.vC q hq)
 ·unfold aV
  rw [P.eq]
  exact ⟨hcp,PU,uh _ P.Hu P.PR fun q hq=>hp q (P.vC q hq)⟩
 ·rcases List.mem_append.mp hq with hq | hq
  ·have:=hp q hq;omega
  ·rw [List.mem_singleton.mp hq];exact Int.le_refl _
 ·unfold aV
  rw [P.eq,List.getLast?_cons_cons,P.lst]
  rcases List.mem_append.mp hq with hq | hq
  ·exact C.bot q hq
  ·rw [List.mem_singleton.mp hq]
   obtain ⟨t,e,h⟩:=C.bot s0 hs0
   have:=hp s0 hs0
   exact ⟨t,e,by omega⟩
 ·rcases List.mem_append.mp hq with hq | hq <;> rcases List.mem_append.mp hr with hr | hr
  ·exact C.inj q hq r hr e
  ·rw [List.mem_singleton.mp hr] at e;have:=hp q hq;omega
  ·rw [List.mem_singleton.mp hq] at e;have:=hp r hr;omega
  ·rw [List.mem_singleton.mp hq,List.mem_singleton.mp hr]
theorem Ch.one (p:Pl):Ch w [p] (aV [] p):=by
 refine ⟨fun q hq=>hq,trivial,fun q hq=>⟨p,rfl,?_⟩,fun q hq=>⟨p,rfl,?_⟩,fun q hq r hr _=>?_⟩
 ·rw [List.mem_singleton.mp hq];exact Int.le_refl _
 ·rw [List.mem_singleton.mp hq];exact Int.le_refl _
 ·rw [List.mem_singleton.mp hq,List.mem_singleton.mp hr]
theorem Ch.all:∀ (line S st:List Pl),S≠[]→Ch w S st→(S ++ line).Pairwise (fun p q=>w.f p < w.f q)→Ch w (S ++ line) (line.foldl aV st)
 | [],S,st,_,C,_=>by rw [List.append_nil];exact C
 | p :: line,S,st,hne,C,hs=>by
   have e:S ++ p :: line=(S ++ [p]) ++ line:=by simp
   rw [e] at hs ⊢
   have hp:∀ q∈S,w.f q < w.f p:=fun q hq=>by
    have:=(List.pairwise_append.mp (List.pairwise_append.mp hs).1).2.2 q hq p (by simp)
    exact this
   rw [List.foldl_cons]
   exact Ch.all line (S ++ [p]) (aV st p) (by simp) (C.push hne hp) hs
theorem qB {line:List Pl} (hne:line≠[]) (hs:line.Pairwise (fun p q=>w.f p < w.f q)):Ch w line (line.foldl aV []):=by
 cases line with
 | nil=>exact absurd rfl hne
 | cons p line=>exact Ch.all line [p] (aV [] p) (by simp) (Ch.one p) hs
def yh (st:List Pl) (a b:Pl):Prop:= ∃ i:Nat,st[i+1]?=some a∧st[i]?=some b
theorem yi {S:List Pl}:∀ {st:List Pl} {a b:Pl},pL w S st→yh st a b→w.f a < w.f b∧ug w S a b
 | [],a,b,_,⟨i,h,_⟩=>by simp at h
 | [_],a,b,_,⟨i,h,_⟩=>by simp at h
 | y :: x :: r,a,b,e,⟨i,h1,h2⟩=>by
   obtain ⟨e1,e2,e3⟩:=e
   cases i with
   | zero=>
     have z1:x=a:=by simpa using h1
     have z2:y=b:=by simpa using h2
     subst z1 z2
     exact ⟨e1,e2⟩
   | succ i=>exact yi e3 ⟨i,by simpa using h1,by simpa using h2⟩
theorem xr {S:List Pl}:∀ {st:List Pl} {t a:Pl},pL w S st→st.head?=some t→w.f a < w.f t→(∃ z,st.getLast?=some z∧w.f z≤w.f a)→∃ c d,yh st c d∧w.f c≤w.f a∧w.f a < w.f d
 | [],t,a,_,h,_,_=>by cases h
 | [y],t,a,_,h,h1,⟨z,hz,h2⟩=>by
   have z1:y=t:=by simpa using h
   have z2:y=z:=by simpa using hz
   subst z1 z2
   omega
 | y :: x :: r,t,a,e,h,h1,hz=>by
   have z1:y=t:=by simpa using h
   subst z1
   obtain ⟨e1,e2,e3⟩:=e
   by_cases k:w.f x≤w.f a
   ·exact ⟨x,y,⟨0,rfl,rfl⟩,k,h1⟩
   ·obtain ⟨c,d,⟨i,g1,g2⟩,g3,g4⟩:=xr (t:=x) (a:=a) e3 rfl (by omega) (by
     obtain ⟨z,hz,h2⟩:=hz
     exact ⟨z,by simpa using hz,h2⟩)
    exact ⟨c,d,⟨i+1,by simpa using g1,by simpa using g2⟩,g3,g4⟩
theorem C8 {a b c d:Pl} (h1:w.f c < w.f a) (h2:w.f a < w.f d) (h3:w.f a < w.f b) (t1:0≤tw a b c) (t2:0≤tw a b d):tw c d a≤0:=by
 have key:=fy w.al w.be (c.x - a.x) (c.y - a.y) (b.x - a.x) (b.y - a.y) (d.x - a.x) (d.y - a.y)
 unfold Way.f at h1 h2 h3
 have e1:(c.x - a.x)*(b.y - a.y) - (c.y - a.y)*(b.x - a.x)= -tw a b c:=by unfold tw;grind
 have e2:tw a b d=(b.x - a.x)*(d.y - a.y) - (b.y - a.y)*(d.x - a.x):=by unfold tw;grind
 have e3:tw c d a=(c.x - a.x)*(d.y - a.y) - (c.y - a.y)*(d.x - a.x):=by unfold tw;grind
 rw [e1,← e2,← e3] at key
 have fV:0 < w.al*(b.x - a.x)+w.be*(b.y - a.y):=by rw [Int.mul_sub,Int.mul_sub];omega
 have fC:w.al*(c.x - a.x)+w.be*(c.y - a.y) < 0:=by rw [Int.mul_sub,Int.mul_sub];omega
 have fD:0 < w.al*(d.x - a.x)+w.be*(d.y - a.y):=by rw [Int.mul_sub,Int.mul_sub];omega
 have m1:(w.al*(c.x - a.x)+w.be*(c.y - a.y))*tw a b d≤0:=Int.mul_nonpos_of_nonpos_of_nonneg (by omega) t2
 have m2:(w.al*(d.x - a.x)+w.be*(d.y - a.y))* -tw a b c≤0:=Int.mul_nonpos_of_nonneg_of_nonpos (by omega) (by omega)
 apply Classical.byContradiction
 intro z
 have:0 < (w.al*(b.x - a.x)+w.be*(b.y - a.y))*tw c d a:=Int.mul_pos fV (by omega)
 omega
theorem l0 {S st:List Pl} (C:Ch w S st) {a b:Pl}:yh st a b↔a∈S∧b∈S∧w.f a < w.f b∧ug w S a b:=by
 constructor
 ·intro h
  obtain ⟨h1,h2⟩:=yi C.Hu h
  obtain ⟨i,g1,g2⟩:=h
  exact ⟨C.vC a (List.mem_of_getElem? g1),C.vC b (List.mem_of_getElem? g2),h1,h2⟩
 ·rintro ⟨ha,hb,hab,he⟩
  obtain ⟨t,ht,Up⟩:=C.top b hb
  obtain ⟨c,d,hcd,h1,h2⟩:=xr C.Hu ht (show w.f a < w.f t by omega) (C.bot a ha)
  obtain ⟨e1,e2⟩:=yi C.Hu hcd
  have hc:c∈S:=by obtain ⟨i,g1,g2⟩:=hcd;exact C.vC c (List.mem_of_getElem? g1)
  have hd:d∈S:=by obtain ⟨i,g1,g2⟩:=hcd;exact C.vC d (List.mem_of_getElem? g2)
  have ea:c=a:=by
   apply Classical.byContradiction
   intro z
   have hlt:w.f c < w.f a:=by
    rcases Int.lt_or_eq_of_le h1 with y | y
    ·exact y
    ·exact absurd (C.inj c hc a ha y) z
   have t1:=C8 hlt h2 hab (he c hc).1 (he d hd).1
   have t2:=(e2 a ha).1
   exact (e2 a ha).2 (by omega) ⟨hlt,h2⟩
  subst ea
  have t1:=(he d hd).1
  have t2:=(e2 b hb).1
  have t3:tw c d b= -tw c b d:=by rw [iW]
  have t0:tw c b d=0:=by omega
  have ed:d=b:=by
   rcases Int.lt_trichotomy (w.f d) (w.f b) with y | y | y
   ·exact absurd ⟨h2,y⟩ ((he d hd).2 t0)
   ·exact C.inj d hd b hb y
   ·exact absurd ⟨hab,y⟩ ((e2 b hb).2 (by omega))
  subst ed
  exact hcd
def jv:Way:=⟨2 ^ 142,1⟩
def sd:Way:=⟨-2 ^ 142, -1⟩
theorem um {p q:Pl} (hp:p.y.natAbs < 2 ^ 140) (hq:q.y.natAbs < 2 ^ 140):aT p q↔jv.f p < jv.f q:=by
 unfold aT Way.f jv
 dsimp only
 have e:(2:Int) ^ 142=5575186299632655785383929568162090376495104:=by decide
 have e2:(2:Nat) ^ 140=1393796574908163946345982392040522594123776:=by decide
 rw [e2] at hp hq
 rw [e]
 omega
theorem iP (p:Pl):sd.f p= -jv.f p:=by
 unfold Way.f sd jv
 dsimp only
 have e:(2:Int) ^ 142=5575186299632655785383929568162090376495104:=by decide
 rw [e]
 omega
end
end L3
namespace L3
open PySem PySem.Spec PyProof.Rows L2
theorem fK:bootBuiltins "str" =some (.type "str"):=by decide +kernel
theorem Hv {P:Program} {w:World} {K:PySem.W.Frag} {mg:Str→Option Value} {base:Heap} {k:Nat} {f:Addr} {fd:FuncData} {ps:List Str}:bP P w K mg base dZ k f fd ps (nv K fun _ _ _=>False):=
 ⟨fun _ _ _ _ ⟨_,_,_,_,_,h,_⟩=>h.elim,fun _ _ _ _ _ _ _ _ _ _ _ _ _ ⟨_,_,_,_,_,h,_⟩=>h.elim⟩
theorem C9 (b:Pl) (r:List Pl):pR ((b :: r).reverse.map Pl.d) (-1)=some b.d:=by
 rw [List.reverse_cons,List.map_append]
 exact zA _ _
theorem Dc (b a:Pl) (r:List Pl):pR ((b :: a :: r).reverse.map Pl.d) (-2)=some a.d:=by
 have hl:((b :: a :: r).reverse.map Pl.d).length=r.length+2:=by simp
 have e:DA (r.length+2) (-2)=some r.length:=by
  unfold DA
  rw [if_neg (by decide),if_pos (by omega)]
  congr 1
  omega
 unfold pR
 rw [hl,e]
 show ((b :: a :: r).reverse.map Pl.d)[r.length]?=some a.d
 rw [List.reverse_cons,List.reverse_cons,List.append_assoc,List.map_append,List.getElem?_append_right (by simp)]
 simp
theorem zV:∀ (st:List Pl) (p:Pl),(kR st p).length≤st.length
 | [],_=>Nat.le_refl _
 | [_],_=>Nat.le_refl _
 | b :: a :: r,p=>by
   show (if tw a b p < 0 then kR (a :: r) p else b :: a :: r).length≤_
   have:=zV (a :: r) p
   split
   ·simp only [List.length_cons] at this ⊢;omega
   ·exact Nat.le_refl _
theorem zW:∀ (st:List Pl) (p:Pl),∀ q∈kR st p,q∈st
 | [],_,_,h=>h
 | [_],_,_,h=>h
 | b :: a :: r,p,q,h=>by
   have h:q∈(if tw a b p < 0 then kR (a :: r) p else b :: a :: r):=h
   by_cases k:tw a b p < 0
   ·rw [if_pos k] at h
    exact List.mem_cons_of_mem _ (zW (a :: r) p q h)
   ·rw [if_neg k] at h
    exact h
theorem EW {a b p:Pl} {r:List Pl} (h:tw a b p < 0):kR (b :: a :: r) p=kR (a :: r) p:=by
 show (if tw a b p < 0 then kR (a :: r) p else b :: a :: r)=_
 rw [if_pos h]
theorem EX {a b p:Pl} {r:List Pl} (h:¬ tw a b p < 0):kR (b :: a :: r) p=b :: a :: r:=by
 show (if tw a b p < 0 then kR (a :: r) p else b :: a :: r)=_
 rw [if_neg h]
theorem eE (ps:List Pl):(ps.foldl aV []).length≤ps.length:=by
 have key:∀ (ps st:List Pl),(ps.foldl aV st).length≤st.length+ps.length:=by
  intro ps
  induction ps with
  | nil=>intro st;simp
  | cons p ps ih=>
    intro st
    have h1:=ih (aV st p)
    have h2:(aV st p).length≤st.length+1:=by
     show (kR st p).length+1≤_
     have:=zV st p
     omega
    simp only [List.foldl_cons,List.length_cons]
    omega
 simpa using key ps []
theorem rq (ps:List Pl):∀ q∈ps.foldl aV [],q∈ps:=by
 have key:∀ (ps st:List Pl),∀ q∈ps.foldl aV st,q∈st∨q∈ps:=by
  intro ps
  induction ps with
  | nil=>intro st q h;exact .inl h
  | cons p ps ih=>
    intro st q h
    rcases ih (aV st p) q h with h | h
    ·rcases List.mem_cons.mp h with h | h
     ·exact .inr (by rw [h];exact List.mem_cons_self ..)
     ·exact .inl (zW st p q h)
    ·exact .inr (List.mem_cons_of_mem _ h)
 intro q h
 rcases key ps [] q h with h | h
 ·cases h
 ·exact h
theorem Bd {ps:List Pl} {i:Nat} {p:Pl} (h:ps[i]?=some p):(ps.take (i+1)).foldl aV []=aV ((ps.take i).foldl aV []) p:=by
 rw [List.take_succ,h,List.foldl_append]
 rfl
theorem Le.put {M M':Mp} {p:Addr} {o:MO} (h:Le M M'):Le (aA M p o) (aA M' p o):=fun c u e=>by
 by_cases hc:c=p
 ·subst hc
  rw [ah] at e ⊢;exact e
 ·rw [bG hc] at e ⊢
  exact h c u e
theorem Le.free {M M':Mp} {p:Addr} (h:Le M M') (e:M' p=none):M p=none:=by
 cases k:M p with
 | none=>rfl
 | some o=>rw [h p o k] at e;cases e
theorem zX (ps:List Pl):cutD (ps.map Pl.d) none (some (-1))=ps.dropLast.map Pl.d:=by
 unfold cutD
 have e:HT.rN (ps.map Pl.d).length (ps.map Pl.d).length (some (-1))=ps.length - 1:=by
  unfold HT.rN
  dsimp only
  rw [if_pos (by decide),List.length_map]
  omega
 have e0:HT.rN (ps.map Pl.d).length 0 none=0:=rfl
 rw [e,e0,List.drop_zero,Nat.sub_zero,List.dropLast_eq_take,List.map_take]
theorem EY {n:Nat} {z:Int} (h:Sm n z) (hn:n≤1000):Att.A8 z:=by
 have:=qh h
 show Builtin.Int.intBits z≤1048576
 omega
def Flat (ps:List Pl):Prop:= ∀ p∈ps,∀ q∈ps,∀ r∈ps,tw p q r=0
def hz (qs:List Pl):Pl:=qs.headD ⟨0,0⟩
def lz (qs:List Pl):Pl:=qs.getLastD ⟨0,0⟩
theorem EZ {qs:List Pl} (h:qs≠[]):hz qs∈qs:=by
 cases qs with
 | nil=>exact absurd rfl h
 | cons a r=>exact List.mem_cons_self ..
theorem E1 {qs:List Pl} (h:qs≠[]):lz qs∈qs:=by
 unfold lz
 rw [List.getLastD_eq_getLast?,List.getLast?_eq_some_getLast h]
 exact List.getLast_mem h
theorem MY {qs:List Pl} (h:qs≠[]):pR (qs.map Pl.d) 0=some (hz qs).d:=by
 cases qs with
 | nil=>exact absurd rfl h
 | cons a r=>exact br (j:=0) rfl
theorem MZ {qs:List Pl} (h:qs≠[]):pR (qs.map Pl.d) (-1)=some (lz qs).d:=by
 obtain ⟨r,z,rfl⟩:∃ r z,qs=r ++ [z]:=⟨qs.dropLast,qs.getLast h,(List.dropLast_concat_getLast h).symm⟩
 rw [List.map_append]
 have:lz (r ++ [z])=z:=by unfold lz;simp
 rw [this]
 exact zA _ _
theorem Kn {qs:List Pl} (hs:qs.Pairwise (fun p q=> ¬ aT q p)):∀ q∈qs,¬ aT q (hz qs)∧¬ aT (lz qs) q:=by
 intro q hq
 have hne:qs≠[]:=fun z=>by rw [z] at hq;cases hq
 constructor
 ·cases qs with
  | nil=>exact absurd rfl hne
  | cons a r=>
    rcases List.mem_cons.mp hq with e | e
    ·rw [e];exact bL a
    ·exact (List.pairwise_cons.mp hs).1 q e
 ·obtain ⟨r,z,rfl⟩:∃ r z,qs=r ++ [z]:=⟨qs.dropLast,qs.getLast hne,(List.dropLast_concat_getLast hne).symm⟩
  have e:lz (r ++ [z])=z:=by unfold lz;simp
  rw [e]
  rcases List.mem_append.mp hq with k | k
  ·exact (List.pairwise_append.mp hs).2.2 q k z (by simp)
  ·rw [List.mem_singleton.mp k];exact bL z
theorem Ko {dx dy ux uy vx vy:Int} (h:dx≠0∨dy≠0) (h1:dx*uy - dy*ux=0) (h2:dx*vy - dy*vx=0):ux*vy - uy*vx=0:=by
 rcases h with h | h
 ·have:dx*(ux*vy - uy*vx)=0:=by grind
  exact (Int.mul_eq_zero.mp this).resolve_left h
 ·have:dy*(ux*vy - uy*vx)=0:=by grind
  exact (Int.mul_eq_zero.mp this).resolve_left h
theorem uo {a z p q r:Pl} (h:a≠z) (h1:tw a z p=0) (h2:tw a z q=0) (h3:tw a z r=0):tw p q r=0:=by
 have hd:z.x - a.x≠0∨z.y - a.y≠0:=by
  by_cases k:z.x - a.x=0
  ·right
   intro k2
   apply h
   cases a;cases z
   simp only at k k2
   rw [Pl.mk.injEq]
   omega
  ·exact .inl k
 unfold tw at h1 h2 h3 ⊢
 exact Ko hd (ux:=q.x - p.x) (uy:=q.y - p.y) (vx:=r.x - p.x) (vy:=r.y - p.y) (by grind) (by grind)
theorem E2 {qs:List Pl} (hs:qs.Pairwise (fun p q=> ¬ aT q p)):(∀ q∈qs,tw (hz qs) (lz qs) q=0)↔Flat qs:=by
 constructor
 ·intro h p hp q hq r hr
  by_cases k:hz qs=lz qs
  ·have one:∀ q∈qs,q=hz qs:=fun q hq=>by
    obtain ⟨h1,h2⟩:=Kn hs q hq
    rcases er q (hz qs) with e | e | e
    ·exact absurd e h1
    ·exact e
    ·rw [k] at e;exact absurd e h2
   rw [one p hp,one q hq]
   exact nN ..
  ·exact uo k (h p hp) (h q hq) (h r hr)
 ·intro h q hq
  have hne:qs≠[]:=fun z=>by rw [z] at hq;cases hq
  exact h _ (EZ hne) _ (E1 hne) q hq
theorem Dd {ps qs:List Pl} (h:qs.Perm ps):Flat qs↔Flat ps:=
 ⟨fun f p hp q hq r hr=>f p (h.mem_iff.mpr hp) q (h.mem_iff.mpr hq) r (h.mem_iff.mpr hr),fun f p hp q hq r hr=>f p (h.mem_iff.mp hp) q (h.mem_iff.mp hq) r (h.mem_iff.mp hr)⟩
def pY:Nat→D→Bool
 | 0,_=>false
 | _+1,.int _=>true
 | _+1,.bK=>true
 | _+1,.str _=>true
 | n+1,.tup ds=>decide (ds.length≤1000) && ds.all (pY n)
 | _+1,_=>false
def RS (M:Mp) (n:Nat) (d e:D):Prop:=(d=e∧pY n d=true)∨∃ (f g:Addr) (xs:List D),d= .ref f∧e= .ref g∧M f=some (.lst xs)∧M g=some (.lst xs)∧xs.all (pY (n - 1))=true∧xs.length≤1000
def Cp (n:Nat):m9:=fun ds M Q=> ∃ d e:D,ds= [d,e]∧RS M n d e∧Q (.bl true) M
def dm (qs:List Pl):List Pl:=if qs.length < 2 then qs else (qs.foldl aV []).reverse.dropLast ++ (qs.reverse.foldl aV []).reverse.dropLast
def aX (b:List Pl):List (List Pl):=if b.length < 2 then [] else List.zipWith (fun p q=>[p,q]) b (b.drop 1 ++ b.take 1)
theorem gP {α:Type} (g:α→D) (xs:List α) (n:Nat) (h:n≤xs.length):cutD (xs.map g) none (some (n:Int))=(xs.take n).map g:=by
 unfold cutD
 rw [HT.BZ,HT.zy]
 rw [List.length_map,Nat.min_eq_left h,List.map_take,List.drop_zero,Nat.sub_zero]
theorem xu:∀ (as bs:List Pl),(List.zipWith (fun p q=>[p,q]) as bs).map (fun ps:List Pl=>D.tup (ps.map Pl.d))=List.zipWith pairD (as.map Pl.d) (bs.map Pl.d)
 | [],_=>by simp
 | _ :: _,[]=>by simp
 | a :: as,b :: bs=>by
   show D.tup [a.d,b.d] :: (List.zipWith (fun p q=>[p,q]) as bs).map (fun ps:List Pl=>D.tup (ps.map Pl.d))=pairD a.d b.d :: List.zipWith pairD (as.map Pl.d) (bs.map Pl.d)
   rw [xu as bs]
   rfl
end L3
namespace L3
open PySem PySem.Spec PyProof.Rows L2
section
variable {P:Program} {w:World} {A:Around} {E:Value→Shared→Prop} {s:Shared}
theorem zY (a:Value):argsOk "min" ⟨[a],[]⟩:=by unfold argsOk;kernel_rfl
theorem E3 (a:Value):argsOk "max" ⟨[a],[]⟩:=by unfold argsOk;kernel_rfl
theorem min_list {l:Addr} {vs:List Value} {bt:Nat→Nat→Bool} {Q:Value→Shared→Prop} (pl:s.heap.IsList l vs.toArray) (hn:0 < vs.length) (hh:A.handled=none)
 (hc:∀ (i j:Nat) (vi vj:Value) (t:Shared) (Q:Value→Shared→Prop) (E:Value→Shared→Prop),cP s.heap t.heap→vs[i]?=some vi→vs[j]?=some vj→Q (.bool (bt i j)) t→wpAny (model P w) A.in1 (richCompare .Lt vi vj) Q E t)
 (h:∀ v h' tk,vs[argBest bt (vs.length - 1)]?=some v→cP s.heap h'→Q v { s with heap:=h',toks:=tk }):wpAny (model P w) A (call (.builtin "min") [.ref l]) Q E s:=by
 have nm:(toString "min" ++ toString ".loop" :String)= "min.loop" :=by decide
 have ll:l < s.heap.objs.size:=by obtain ⟨o,e,_⟩:=pl;exact Heap.lt_size e
 refine call_function_tree F.kind_min F.plain_min F.entry_min (zY _) ?_
 show wpAny (model P w) A.in1 (Builtin.Builtins.bindParams "min" ["key","default"] 0 ⟨[],[]⟩ >>= _) _ _ s
 refine wpAny_bind (wpAny_of_eq (show Builtin.Builtins.bindParams "min" ["key","default"] 0 ⟨[],[]⟩=pure [none,none] from rfl) ?_)
 show wpAny (model P w) A.in1 (pyIter (.ref l) >>= _) _ _ s
 refine wpAny_bind (wpAny_pyIter_list pl ?_)
 have o4:(s.heap.push { cls:= .type "list_iterator",data:= .fields #[.ref l,.int 0 0] }).objs.size=s.heap.objs.size+1:=Heap.size_push ..
 apply wpAny_bind
 refine wpAny_newObj_type ?_
 rw [nm]
 refine wpAny_pure ⟨plainId_quiet F.plain_min_loop _,qW (h0:=s.heap) (Walks.list (A:=A.in1) hh s.heap.objs.size l (Nat.ne_of_lt ll) vs.toArray) (bt:=bt) (fun i j vi vj t Q E g1 p1 p2 q=>hc i j vi vj t Q E g1 (by simpa using p1) (by simpa using p2) q) ?_ (fun b o q=>?_) (by simpa using hn) (fun b o q=>Heap.get?_push_of_some _ (Heap.get?_push_of_some _ q)) ⟨⟨_,Heap.get?_push_of_some _ (Heap.get?_push_size _ rfl),rfl,rfl⟩,?_⟩ (Heap.get?_push_size _ rfl) fun v h' tk p kp=>?_⟩
 ·intro q
  rw [o4] at q
  rcases List.mem_cons.mp q with q | q
  ·exact absurd q (Nat.succ_ne_self _)
  ·have q:=List.mem_singleton.mp q
   rw [← q] at ll
   exact absurd ll (Nat.not_lt.mpr (Nat.le_succ _))
 ·have lb:=Heap.lt_size q
  rw [o4]
  refine ⟨fun z=>?_,fun z=>?_⟩
  ·have z:=List.mem_singleton.mp z
   rw [z] at lb
   exact absurd lb (Nat.lt_irrefl _)
  ·rw [z] at lb
   exact absurd lb (Nat.not_lt.mpr (Nat.le_succ _))
 ·obtain ⟨o,e,c,d⟩:=pl
  exact ⟨o,Heap.get?_push_of_some _ (Heap.get?_push_of_some _ e),c,d⟩
 ·refine h v h' tk (by simpa using p) fun b o q=>?_
  have lb:=Heap.lt_size q
  refine kp b o (fun z=>?_) (fun z=>?_) (Heap.get?_push_of_some _ (Heap.get?_push_of_some _ q))
  ·have z:=List.mem_singleton.mp z
   rw [z] at lb
   exact absurd lb (Nat.lt_irrefl _)
  ·rw [z,o4] at lb
   exact absurd lb (Nat.not_lt.mpr (Nat.le_succ _))
theorem max_list {l:Addr} {vs:List Value} {bt:Nat→Nat→Bool} {Q:Value→Shared→Prop} (pl:s.heap.IsList l vs.toArray) (hn:0 < vs.length) (hh:A.handled=none)
 (hc:∀ (i j:Nat) (vi vj:Value) (t:Shared) (Q:Value→Shared→Prop) (E:Value→Shared→Prop),cP s.heap t.heap→vs[i]?=some vi→vs[j]?=some vj→Q (.bool (bt i j)) t→wpAny (model P w) A.in1 (richCompare .Gt vi vj) Q E t)
 (h:∀ v h' tk,vs[argBest bt (vs.length - 1)]?=some v→cP s.heap h'→Q v { s with heap:=h',toks:=tk }):wpAny (model P w) A (call (.builtin "max") [.ref l]) Q E s:=by
 have nm:(toString "max" ++ toString ".loop" :String)= "max.loop" :=by decide
 have ll:l < s.heap.objs.size:=by obtain ⟨o,e,_⟩:=pl;exact Heap.lt_size e
 refine call_function_tree F.kind_max F.plain_max F.entry_max (E3 _) ?_
 show wpAny (model P w) A.in1 (Builtin.Builtins.bindParams "max" ["key","default"] 0 ⟨[],[]⟩ >>= _) _ _ s
 refine wpAny_bind (wpAny_of_eq (show Builtin.Builtins.bindParams "max" ["key","default"] 0 ⟨[],[]⟩=pure [none,none] from rfl) ?_)
 show wpAny (model P w) A.in1 (pyIter (.ref l) >>= _) _ _ s
 refine wpAny_bind (wpAny_pyIter_list pl ?_)
 have o4:(s.heap.push { cls:= .type "list_iterator",data:= .fields #[.ref l,.int 0 0] }).objs.size=s.heap.objs.size+1:=Heap.size_push ..
 apply wpAny_bind
 refine wpAny_newObj_type ?_
 rw [nm]
 refine wpAny_pure ⟨plainId_quiet F.plain_max_loop _,xh (h0:=s.heap) (Walks.list (A:=A.in1) hh s.heap.objs.size l (Nat.ne_of_lt ll) vs.toArray) (bt:=bt) (fun i j vi vj t Q E g1 p1 p2 q=>hc i j vi vj t Q E g1 (by simpa using p1) (by simpa using p2) q) ?_ (fun b o q=>?_) (by simpa using hn) (fun b o q=>Heap.get?_push_of_some _ (Heap.get?_push_of_some _ q)) ⟨⟨_,Heap.get?_push_of_some _ (Heap.get?_push_size _ rfl),rfl,rfl⟩,?_⟩ (Heap.get?_push_size _ rfl) fun v h' tk p kp=>?_⟩
 ·intro q
  rw [o4] at q
  rcases List.mem_cons.mp q with q | q
  ·exact absurd q (Nat.succ_ne_self _)
  ·have q:=List.mem_singleton.mp q
   rw [← q] at ll
   exact absurd ll (Nat.not_lt.mpr (Nat.le_succ _))
 ·have lb:=Heap.lt_size q
  rw [o4]
  refine ⟨fun z=>?_,fun z=>?_⟩
  ·have z:=List.mem_singleton.mp z
   rw [z] at lb
   exact absurd lb (Nat.lt_irrefl _)
  ·rw [z] at lb
   exact absurd lb (Nat.not_lt.mpr (Nat.le_succ _))
 ·obtain ⟨o,e,c,d⟩:=pl
  exact ⟨o,Heap.get?_push_of_some _ (Heap.get?_push_of_some _ e),c,d⟩
 ·refine h v h' tk (by simpa using p) fun b o q=>?_
  have lb:=Heap.lt_size q
  refine kp b o (fun z=>?_) (fun z=>?_) (Heap.get?_push_of_some _ (Heap.get?_push_of_some _ q))
  ·have z:=List.mem_singleton.mp z
   rw [z] at lb
   exact absurd lb (Nat.lt_irrefl _)
  ·rw [z,o4] at lb
   exact absurd lb (Nat.not_lt.mpr (Nat.le_succ _))
end
theorem iK {bt:Nat→Nat→Bool} (ir:∀ i,bt i i=false) (tr:∀ i j k,bt i j=true→bt j k=true→bt i k=true):∀ n k,k≤n→bt k (argBest bt n)=false
 | 0,k,h=>by
   obtain rfl:k=0:=by omega
   exact ir 0
 | n+1,k,h=>by
   have ih:=iK ir tr n
   unfold argBest
   split
   ·rename_i c
    by_cases e:k=n+1
    ·rw [e];exact ir _
    ·cases z:bt k (n+1) with
     | false=>rfl
     | true=>rw [← ih k (by omega)];exact (tr _ _ _ z c).symm
   ·rename_i c
    by_cases e:k=n+1
    ·rw [e];exact Bool.eq_false_iff.mpr c
    ·exact ih k (by omega)
section
variable {X:Cx} {pos:Pos}
def Na:List D→Mp→DK→Prop:=fun ds M Q=> ∃ (l:Addr) (ns:List Int),ds= [.ref l]∧M l=some (.lst (ns.map D.int))∧ns≠[]∧∀ m∈ns,(∀ z∈ns,m≤z)→Q (.int m) M
theorem Kp (hc:X.calm=true):Call3 X (.builtin "min") Na:=by
 constructor
 intro pins s σ H M xs ds us Q I rm rs dx ⟨l,ns,e,hM,hne,q⟩
 subst e
 obtain ⟨v,rfl,hv⟩:=jx dx
 obtain rfl:=aO.mp hv
 obtain ⟨u,rfl,r1⟩:=vals1 rs
 obtain rfl:u=Value.ref l:=r1
 obtain ⟨zs,hH,hz⟩:=rm.lst hM
 obtain ⟨its,rv,pl,hsz⟩:=I.list (gO.of (K:=X.K) hH)
 obtain rfl:=qv hz
 have hlen:its.length=ns.length:=by rw [Vals.len rv,List.length_map]
 have hpos:0 < ns.length:=List.length_pos_iff.mpr hne
 have at':∀ (i:Nat) (v:Value),its[i]?=some v→i < ns.length∧∃ t,v= .int (ns.getD i 0) t:=fun i v hv=>by
  have hi:i < its.length:=(List.getElem?_eq_some_iff.mp hv).1
  have hx:(ns.map V.int)[i]?=some (.int (ns.getD i 0)):=by
   rw [List.getElem?_map,List.getD_eq_getElem?_getD,List.getElem?_eq_getElem (by omega)]
   rfl
  obtain ⟨u,hu,ru⟩:=rv.get hx
  rw [hu] at hv
  cases hv
  exact ⟨by omega,ru⟩
 refine min_list pl.isList (by omega) (I.ok.hd hc) (bt:=fun i j=>decide (ns.getD i 0 < ns.getD j 0)) (fun i j vi vj t Q E g e1 e2 q=>?_) fun v h' tk e g=>?_
 ·obtain ⟨_,t1,rfl⟩:=at' i vi e1
  obtain ⟨_,t2,rfl⟩:=at' j vj e2
  exact (PyProof.Rows.lt_int q:wpAny (model X.prog X.w) X.A.in1 (compareOp .Lt (.int _ t1) (.int _ t2)) Q E t)
 ·obtain ⟨hb,t,rfl⟩:=at' _ v e
  refine ⟨.int _,H,I.kept g,⟨t,rfl⟩,aG rm (aU.mpr rfl) (q _ ?_ fun z hz=>?_)⟩
  ·rw [List.getD_eq_getElem?_getD,List.getElem?_eq_getElem hb]
   exact List.getElem_mem hb
  ·obtain ⟨k,hk⟩:=List.mem_iff_getElem?.mp hz
   have hk1:k < ns.length:=(List.getElem?_eq_some_iff.mp hk).1
   have:=iK (bt:=fun i j=>decide (ns.getD i 0 < ns.getD j 0)) (fun i=>decide_eq_false (Int.lt_irrefl _)) (fun i j k a b=>decide_eq_true (Int.lt_trans (of_decide_eq_true a) (of_decide_eq_true b))) (its.length - 1) k (by omega)
   have:=of_decide_eq_false this
   have ek:ns.getD k 0=z:=by rw [List.getD_eq_getElem?_getD,hk];rfl
   rw [ek] at this
   omega
def Nb:List D→Mp→DK→Prop:=fun ds M Q=> ∃ (l:Addr) (ps:List Pl),ds= [.ref l]∧M l=some (.lst (ps.map Pl.d))∧ps≠[]∧∀ m∈ps,(∀ z∈ps,¬ aT z m)→Q m.d M
def Nc:List D→Mp→DK→Prop:=fun ds M Q=> ∃ (l:Addr) (ps:List Pl),ds= [.ref l]∧M l=some (.lst (ps.map Pl.d))∧ps≠[]∧∀ m∈ps,(∀ z∈ps,¬ aT m z)→Q m.d M
theorem qC {ps:List Pl} {xs:List V} {us:List Value} {K:PySem.W.Frag} {H:Hp} {i:Nat} {v:Value} (dx:aL K H (ps.map Pl.d) xs) (rv:Vals xs us) (e:us[i]?=some v):i < ps.length∧∃ x,RelV x v∧Dat K H (ps.getD i ⟨0,0⟩).d x:=by
 have hi:i < us.length:=(List.getElem?_eq_some_iff.mp e).1
 have hl:us.length=ps.length:=by rw [Vals.len rv,← dx.length,List.length_map]
 have lt:i < xs.length:=by rw [← dx.length,List.length_map];omega
 obtain ⟨u,eu,ru⟩:=Vals.get rv (List.getElem?_eq_getElem lt)
 rw [e] at eu
 cases eu
 obtain ⟨d,ed,dd⟩:=dx.back (List.getElem?_eq_getElem lt)
 rw [List.getElem?_map,List.getElem?_eq_getElem (by omega:i < ps.length)] at ed
 refine ⟨by omega,_,ru,?_⟩
 rw [List.getD_eq_getElem?_getD,List.getElem?_eq_getElem (by omega:i < ps.length)]
 cases ed
 exact dd
theorem qD {ps:List Pl} {lt:Pl→Pl→Bool} {b:Nat} (hb:b < ps.length) (ir:∀ p,lt p p=false) (tr:∀ p q r,lt p q=true→lt q r=true→lt p r=true) {n:Nat} (hn:n=ps.length) (e:b=argBest (bestOf lt ps) (n - 1)) :
 ps.getD b ⟨0,0⟩∈ps∧∀ z∈ps,lt z (ps.getD b ⟨0,0⟩)=false:=by
 refine ⟨?_,fun z hz=>?_⟩
 ·rw [List.getD_eq_getElem?_getD,List.getElem?_eq_getElem hb]
  exact List.getElem_mem hb
 ·obtain ⟨k,hk⟩:=List.mem_iff_getElem?.mp hz
  have hk1:k < ps.length:=(List.getElem?_eq_some_iff.mp hk).1
  have:=iK (bt:=bestOf lt ps) (fun i=>ir _) (fun i j k a b=>tr _ _ _ a b) (n - 1) k (by omega)
  rw [← e] at this
  have ek:ps.getD k ⟨0,0⟩=z:=by rw [List.getD_eq_getElem?_getD,hk];rfl
  unfold bestOf at this
  rw [ek] at this
  exact this
theorem Be (hu:X.A.units+64 < cLine) (hc:X.calm=true):Call3 X (.builtin "min") Nb:=by
 constructor
 intro pins s σ H M xs ds us Q I rm rs dx ⟨l,ps,e,hM,hne,q⟩
 subst e
 obtain ⟨v,rfl,hv⟩:=jx dx
 obtain rfl:=aO.mp hv
 obtain ⟨u,rfl,r1⟩:=vals1 rs
 obtain rfl:u=Value.ref l:=r1
 obtain ⟨zs,hH,hz⟩:=rm.lst hM
 obtain ⟨its,rv,pl,hsz⟩:=I.list (gO.of (K:=X.K) hH)
 have hl:its.length=ps.length:=by rw [Vals.len rv,← hz.length,List.length_map]
 have hpos:0 < ps.length:=List.length_pos_iff.mpr hne
 have hp:=eX I.hok hz rv
 refine min_list pl.isList (by omega) (I.ok.hd hc) (bt:=bestOf (fun p q=>decide (aT p q)) ps) (fun i j vi vj t Q E g e1 e2 q=>?_) fun v h' tk e g=>?_
 ·obtain ⟨p1,f1,a1⟩:=hp.get e1
  obtain ⟨p2,f2,a2⟩:=hp.get e2
  obtain ⟨l1,i1,rfl,t1,n1⟩:=(a1.grow g).tup
  obtain ⟨l2,i2,rfl,t2,n2⟩:=(a2.grow g).tup
  have eb:bestOf (fun p q=>decide (aT p q)) ps i j=decide (aT p1 p2):=by unfold bestOf;rw [List.getD_eq_getElem?_getD,List.getD_eq_getElem?_getD,f1,f2];rfl
  rw [eb,← cM] at q
  exact (HT.fm t1 t2 n1 n2 (by show X.A.units+1 < cLine;omega) q:wpAny (model X.prog X.w) X.A.in1 (compareOp .Lt (.ref l1) (.ref l2)) Q E t)
 ·obtain ⟨hb,x,rx,dd⟩:=qC hz rv e
  obtain ⟨m1,m2⟩:=qD (lt:=fun p q=>decide (aT p q)) hb (fun p=>decide_eq_false (bL p)) (fun p q r a b=>decide_eq_true (b9 (of_decide_eq_true a) (of_decide_eq_true b))) hl rfl
  exact ⟨x,H,I.kept g,rx,aG rm dd (q _ m1 fun z hz=>of_decide_eq_false (m2 z hz))⟩
theorem Kq (hu:X.A.units+64 < cLine) (hc:X.calm=true):Call3 X (.builtin "max") Nc:=by
 constructor
 intro pins s σ H M xs ds us Q I rm rs dx ⟨l,ps,e,hM,hne,q⟩
 subst e
 obtain ⟨v,rfl,hv⟩:=jx dx
 obtain rfl:=aO.mp hv
 obtain ⟨u,rfl,r1⟩:=vals1 rs
 obtain rfl:u=Value.ref l:=r1
 obtain ⟨zs,hH,hz⟩:=rm.lst hM
 obtain ⟨its,rv,pl,hsz⟩:=I.list (gO.of (K:=X.K) hH)
 have hl:its.length=ps.length:=by rw [Vals.len rv,← hz.length,List.length_map]
 have hpos:0 < ps.length:=List.length_pos_iff.mpr hne
 have hp:=eX I.hok hz rv
 refine max_list pl.isList (by omega) (I.ok.hd hc) (bt:=bestOf (fun p q=>decide (aT q p)) ps) (fun i j vi vj t Q E g e1 e2 q=>?_) fun v h' tk e g=>?_
 ·obtain ⟨p1,f1,a1⟩:=hp.get e1
  obtain ⟨p2,f2,a2⟩:=hp.get e2
  obtain ⟨l1,i1,rfl,t1,n1⟩:=(a1.grow g).tup
  obtain ⟨l2,i2,rfl,t2,n2⟩:=(a2.grow g).tup
  have eb:bestOf (fun p q=>decide (aT q p)) ps i j=decide (aT p2 p1):=by unfold bestOf;rw [List.getD_eq_getElem?_getD,List.getD_eq_getElem?_getD,f1,f2];rfl
  rw [eb,← cM] at q
  exact (HT.tT t1 t2 n1 n2 (by show X.A.units+1 < cLine;omega) q:wpAny (model X.prog X.w) X.A.in1 (compareOp .Gt (.ref l1) (.ref l2)) Q E t)
 ·obtain ⟨hb,x,rx,dd⟩:=qC hz rv e
  obtain ⟨m1,m2⟩:=qD (lt:=fun p q=>decide (aT q p)) hb (fun p=>decide_eq_false (bL p)) (fun p q r a b=>decide_eq_true (b9 (of_decide_eq_true b) (of_decide_eq_true a))) hl rfl
  exact ⟨x,H,I.kept g,rx,aG rm dd (q _ m1 fun z hz=>of_decide_eq_false (m2 z hz))⟩
end
end L3
namespace L3
open PySem PySem.Spec PyProof.Rows L2
section
open PySem.SeqAt
open PySem.AutoSeq1 (wpAny_loadPart')
open PySem.MeetsSeq PySem.MeetsSeq2 PySem.MeetsSeq3
theorem De (l:Addr) (items:Array Value) (n:Nat) (b:Addr) (items2:Array Value) (n2:Nat) (dd:Option Addr) (sl:Array (Option Value)) (h0:¬(!items.isEmpty && Builtin.List.listTooLong (items.size+items2.size))=true) (h1:items.size≤sizeLine) (h2:items.size+items2.size≤sizeLine+1) :
 Meets (Builtin.«list.extend» ⟨[.ref l,.ref b],[]⟩) (fun _ R s=>s.heap.get? l=some { cls:= .type "list",dict:=none,data:= .seq items n,slots:= #[] }∧s.heap.get? b=some { cls:= .type "tuple",dict:=dd,data:= .seq items2 n2,slots:=sl }∧R (.ok (.ret Value.none)) { s with heap:=s.heap.update l (Obj.mapSeq fun x=>x ++ items2),toks:=s.toks }):=
 .of_wp fun prog w A R s h=>by
  obtain ⟨hp,g,d,tk,os⟩:=s
  obtain ⟨hl,hb,h⟩:=h
  have f2:=AutoSeq1.sub_tuple_tuple
  have f3:=AutoSeq1.sub_list_list
  have f4:=AutoSeq1.sub_tuple_list
  have f5:=AutoSeq1.sub_list_tuple
  have hz':(items ++ items2).size≤sizeLine+1:=by rw [Array.size_append];exact h2
  wp_walk using (wpAny_updateSeq hl rfl (hz:=h1) (_hz':=hz')),wpAny_loadPart' hl,wpAny_loadPart' hb
  exact ⟨_,rfl,h⟩
end
section
variable {X:Cx} {pos:Pos}
theorem xw {K:PySem.W.Frag} {H:Hp} {d:D}:∀ {ds:List D} {xs:List V} {us:List Value},aL K H ds xs→Vals xs us→ds.all (plain 9)=true→us.countP (zj K H d)=ds.countP (fun e=>dQ e d)
 | [],xs,us,h,r,_=>by rw [aS.mp h] at r;cases r;rfl
 | e :: ds,xs,us,h,r,p=>by
   obtain ⟨v,vs,rfl,h1,h2⟩:=aP.mp h
   rw [List.all_cons,Bool.and_eq_true] at p
   cases r with
   | cons r1 r2=>rw [List.countP_cons,List.countP_cons,xw h2 r2 p.2,AQ p.1 h1 r1]
def Cq (K:PySem.W.Frag):V→List V→Hp→VK→Prop:=fun x vs H Q=> ∃ (l:Addr) (xs:List V) (y:V) (ds:List D) (d:D),x= .ref l∧vs= [y]∧H l=some (.lst xs)∧aL K H ds xs∧Dat K H d y∧plain 9 d=true∧ds.all (plain 9)=true∧Q (.int ((ds.countP (fun e=>dQ e d):Nat):Int)) H
theorem zZ (hu:X.A.units+64 < cLine):LL X "list.count" (Cq X.K):=by
 intro pins s σ H x vs v us Q I rx rv h
 obtain ⟨l,xs,y,ds,d,rfl,rfl,hH,hd,dy,pd,QG,q⟩:=h
 cases rx
 obtain ⟨u,rfl,ru⟩:=vals1 rv
 obtain ⟨z,its,n,r,hl,e⟩:=I.zB hH
 refine call_meets PySem.F.slot_list_count ⟨_,e,rfl⟩ PySem.F.entry_list_count (PySem.F.args_list_count_2 _ _) (SeqAt.list_countAt l its.toArray n none #[] u (zj X.K H d)) ⟨e,?_,?_⟩
 ·intro w hw
  exact oZ I.hok (by show X.A.units+1+9 < cLine;omega) pd dy ru hd r QG w (by simpa using hw)
 ·rw [xw hd r QG]
  exact ⟨.int _,H,I.tok _,⟨_,rfl⟩,q⟩
def Kr (to te:cY):cY:=fun ρ M Q=>to ρ M fun d M1=>(∃ l xs,d= .ref l∧M1 l=some (.lst xs))∧te ρ M1 fun e M2=> ∃ (l:Addr) (xs:List D),d= .ref l∧M2 l=some (.lst xs)∧plain 9 e=true∧xs.all (plain 9)=true∧Q (.int ((xs.countP (fun y=>dQ y e):Nat):Int)) M2
theorem Cr {o e:Expr} {to te:cY} {apos pos:Pos} (ho:cE X o to) (he:cE X e te) (GP:PE X (.Call (.Attribute o "count" apos) [e] [] pos) (LK X.K "list" (Cq X.K) (dn X.K to) (zq (dn X.K te) DQ))):cE X (.Call (.Attribute o "count" apos) [e] [] pos) (Kr to te):=
 up GP fun σ H ρ M Q r q=>dF r q fun v H' d M' f dv r' ⟨⟨l,xs,e1,hM⟩,q⟩=>by
  subst e1
  obtain rfl:=aO.mp dv
  obtain ⟨ys,ha,hy⟩:=r'.mem.lst hM
  refine ⟨.inl ⟨rfl,_,gO.of ha⟩,dF r' q fun u H2 d2 M2 f2 du r2 ⟨l',xs',e2,AW,p1,p2,q2⟩=>?_⟩
  injection e2 with e2
  subst e2
  obtain ⟨zs,hb,hz⟩:=r2.mem.lst AW
  exact ⟨l,zs,u,xs',d2,rfl,rfl,hb,hz,du,p1,p2,.int _,M2,f.trans f2,aU.mpr rfl,r2.mem,q2⟩
def PV (to te:cY):cY:=fun ρ M Q=>to ρ M fun d M1=>(∃ l xs,d= .ref l∧M1 l=some (.lst xs))∧te ρ M1 fun e M2=> ∃ (l b:Addr) (xs zs:List D),d= .ref l∧e= .ref b∧M2 l=some (.lst xs)∧M2 b=some (.lst zs)∧xs.length+zs.length≤sizeLine∧Q .bK (aA M2 l (.lst (xs ++ zs)))
theorem IC {o e:Expr} {to te:cY} {apos pos:Pos} (ho:cE X o to) (he:cE X e te) (GP:PE X (.Call (.Attribute o "extend" apos) [e] [] pos) (LK X.K "list" B6 (dn X.K to) (zq (dn X.K te) DQ))):cE X (.Call (.Attribute o "extend" apos) [e] [] pos) (PV to te):=
 up GP fun σ H ρ M Q r q=>dF r q fun v H' d M' f dv r' ⟨⟨l,xs,e1,hM⟩,q⟩=>by
  subst e1
  obtain rfl:=aO.mp dv
  obtain ⟨ys,ha,hy⟩:=r'.mem.lst hM
  refine ⟨.inl ⟨rfl,_,gO.of ha⟩,dF r' q fun u H2 d2 M2 f2 du r2 ⟨l',b,xs',zs,e2,e3,AW,hB,hlt,q2⟩=>?_⟩
  injection e2 with e2
  subst e2 e3
  obtain rfl:=aO.mp du
  obtain ⟨ws,hb,hw⟩:=r2.mem.lst AW
  obtain ⟨vs,hc,hv⟩:=r2.mem.lst hB
  exact ⟨l,b,ws,vs,rfl,rfl,hb,hc,by rw [← hw.length,← hv.length];exact hlt,.bK,_,(f.trans f2).trans (Fr.write (K:=X.K) AW),cF.mpr rfl,r2.mem.jP hb (hw.append hv),q2⟩
def ID (K:PySem.W.Frag):V→List V→Hp→VK→Prop:=fun x vs H Q=> ∃ (l:Addr) (y:V) (xs:List V) (ds:List D),x= .ref l∧vs= [y]∧H l=some (.lst xs)∧Dat K H (.tup ds) y∧xs.length+ds.length≤sizeLine∧∀ ws,aL K H ds ws→Q .bK (upd H l (.lst (xs ++ ws)))
theorem Hw:LL X "list.extend" (ID X.K):=by
 intro pins s σ H x vs v us Q I rx rv h
 obtain ⟨l,y,xs,ds,rfl,rfl,hH,hy,hz,q⟩:=h
 cases rx
 obtain ⟨u,rfl,ru⟩:=vals1 rv
 obtain ⟨b,ws,rfl,hb,hws⟩:=bB.mp hy
 obtain rfl:u=Value.ref b:=ru
 obtain ⟨z,its,n,r,hl,e⟩:=I.zB hH
 obtain ⟨its2,r2,tp,hsz2⟩:=eO I.hok hb
 obtain ⟨⟨Ju,dd2,data2,sl2⟩,ho2,hc2,n2,hd2⟩:=id tp
 simp only at hc2 hd2
 subst hc2 hd2
 have l2:its2.length=ds.length:=by rw [Vals.len r2,← hws.length]
 have l3:=hws.length
 have hsz:its.toArray.size+its2.toArray.size≤sizeLine:=by rw [List.size_toArray,List.size_toArray];omega
 have DZ:¬ (!its.toArray.isEmpty && Builtin.List.listTooLong (its.toArray.size+its2.toArray.size))=true:=by
  rw [zC hsz,Bool.and_false]
  exact Bool.false_ne_true
 refine call_meets PySem.F.slot_list_extend ⟨_,e,rfl⟩ PySem.F.entry_list_extend (PySem.F.args_list_extend_2 _ _) (De l its.toArray n b its2.toArray n2 dd2 sl2 DZ (by rw [List.size_toArray];omega) (by omega)) ⟨e,ho2,?_⟩
 refine ⟨.bK,_,I.Gy (its':=its ++ its2) hH e (by simp) (r.append r2) ?_,rfl,q ws hws⟩
 rw [List.length_append]
 omega
def Nd (to te:cY):cY:=fun ρ M Q=>to ρ M fun d M1=>(∃ l xs,d= .ref l∧M1 l=some (.lst xs))∧te ρ M1 fun e M2=> ∃ (l:Addr) (xs ds:List D),d= .ref l∧e= .tup ds∧M2 l=some (.lst xs)∧xs.length+ds.length≤sizeLine∧Q .bK (aA M2 l (.lst (xs ++ ds)))
theorem Ks {o e:Expr} {to te:cY} {apos pos:Pos} (ho:cE X o to) (he:cE X e te) (GP:PE X (.Call (.Attribute o "extend" apos) [e] [] pos) (LK X.K "list" (ID X.K) (dn X.K to) (zq (dn X.K te) DQ))):cE X (.Call (.Attribute o "extend" apos) [e] [] pos) (Nd to te):=
 up GP fun σ H ρ M Q r q=>dF r q fun v H' d M' f dv r' ⟨⟨l,xs,e1,hM⟩,q⟩=>by
  subst e1
  obtain rfl:=aO.mp dv
  obtain ⟨ys,ha,hy⟩:=r'.mem.lst hM
  refine ⟨.inl ⟨rfl,_,gO.of ha⟩,dF r' q fun u H2 d2 M2 f2 du r2 ⟨l',xs',ds,e2,e3,AW,hlt,q2⟩=>?_⟩
  injection e2 with e2
  subst e2 e3
  obtain ⟨ws,hb,hw⟩:=r2.mem.lst AW
  exact ⟨l,u,ws,ds,rfl,rfl,hb,du,by rw [← hw.length];exact hlt,fun vs hv=>⟨.bK,_,(f.trans f2).trans (Fr.write (K:=X.K) AW),cF.mpr rfl,r2.mem.jP hb (hw.append hv),q2⟩⟩
end
end L3
namespace L3
open PySem PySem.Spec PyProof.Rows L2
section
variable {P:Program} {w:World} {A:Around} {E:Value→Shared→Prop} {s:Shared}
theorem Hx {l:Addr} {vs:List Value} {bt:Nat→Nat→Bool} {Q:Value→Shared→Prop} (pl:s.heap.IsTuple l vs.toArray) (hn:0 < vs.length) (hh:A.handled=none)
 (hc:∀ (i j:Nat) (vi vj:Value) (t:Shared) (Q:Value→Shared→Prop) (E:Value→Shared→Prop),cP s.heap t.heap→vs[i]?=some vi→vs[j]?=some vj→Q (.bool (bt i j)) t→wpAny (model P w) A.in1 (richCompare .Lt vi vj) Q E t)
 (h:∀ v h' tk,vs[argBest bt (vs.length - 1)]?=some v→cP s.heap h'→Q v { s with heap:=h',toks:=tk }):wpAny (model P w) A (call (.builtin "min") [.ref l]) Q E s:=by
 have nm:(toString "min" ++ toString ".loop" :String)= "min.loop" :=by decide
 have ll:l < s.heap.objs.size:=by obtain ⟨o,e,_⟩:=pl;exact Heap.lt_size e
 refine call_function_tree F.kind_min F.plain_min F.entry_min (zY _) ?_
 show wpAny (model P w) A.in1 (Builtin.Builtins.bindParams "min" ["key","default"] 0 ⟨[],[]⟩ >>= _) _ _ s
 refine wpAny_bind (wpAny_of_eq (show Builtin.Builtins.bindParams "min" ["key","default"] 0 ⟨[],[]⟩=pure [none,none] from rfl) ?_)
 show wpAny (model P w) A.in1 (pyIter (.ref l) >>= _) _ _ s
 refine wpAny_bind (wpAny_pyIter_tuple pl ?_)
 have o4:(s.heap.push { cls:= .type "tuple_iterator",data:= .fields #[.ref l,.int 0 0] }).objs.size=s.heap.objs.size+1:=Heap.size_push ..
 apply wpAny_bind
 refine wpAny_newObj_type ?_
 rw [nm]
 refine wpAny_pure ⟨plainId_quiet F.plain_min_loop _,qW (h0:=s.heap) (Walks.tuple (A:=A.in1) hh s.heap.objs.size l (Nat.ne_of_lt ll) vs.toArray) (bt:=bt) (fun i j vi vj t Q E g1 p1 p2 q=>hc i j vi vj t Q E g1 (by simpa using p1) (by simpa using p2) q) ?_ (fun b o q=>?_) (by simpa using hn) (fun b o q=>Heap.get?_push_of_some _ (Heap.get?_push_of_some _ q)) ⟨⟨_,Heap.get?_push_of_some _ (Heap.get?_push_size _ rfl),rfl,rfl⟩,?_⟩ (Heap.get?_push_size _ rfl) fun v h' tk p kp=>?_⟩
 ·intro q
  rw [o4] at q
  rcases List.mem_cons.mp q with q | q
  ·exact absurd q (Nat.succ_ne_self _)
  ·have q:=List.mem_singleton.mp q
   rw [← q] at ll
   exact absurd ll (Nat.not_lt.mpr (Nat.le_succ _))
 ·have lb:=Heap.lt_size q
  rw [o4]
  refine ⟨fun z=>?_,fun z=>?_⟩
  ·have z:=List.mem_singleton.mp z
   rw [z] at lb
   exact absurd lb (Nat.lt_irrefl _)
  ·rw [z] at lb
   exact absurd lb (Nat.not_lt.mpr (Nat.le_succ _))
 ·exact (pl.push _).push _
 ·refine h v h' tk (by simpa using p) fun b o q=>?_
  have lb:=Heap.lt_size q
  refine kp b o (fun z=>?_) (fun z=>?_) (Heap.get?_push_of_some _ (Heap.get?_push_of_some _ q))
  ·have z:=List.mem_singleton.mp z
   rw [z] at lb
   exact absurd lb (Nat.lt_irrefl _)
  ·rw [z,o4] at lb
   exact absurd lb (Nat.not_lt.mpr (Nat.le_succ _))
end
section
variable {X:Cx} {pos:Pos}
def Ku:List D→Mp→DK→Prop:=fun ds M Q=> ∃ ps:List Pl,ds= [.tup (ps.map Pl.d)]∧ps≠[]∧∀ m∈ps,(∀ z∈ps,¬ aT z m)→Q m.d M
theorem Cs (hu:X.A.units+64 < cLine) (hc:X.calm=true):Call3 X (.builtin "min") Ku:=by
 constructor
 intro pins s σ H M xs ds us Q I rm rs dx ⟨ps,e,hne,q⟩
 subst e
 obtain ⟨v,rfl,hv⟩:=jx dx
 obtain ⟨l,zs,rfl,hH,hz⟩:=bB.mp hv
 obtain ⟨u,rfl,r1⟩:=vals1 rs
 obtain rfl:u=Value.ref l:=r1
 obtain ⟨its,rv,tp,hsz⟩:=eO I.hok hH
 have hl:its.length=ps.length:=by rw [Vals.len rv,← hz.length,List.length_map]
 have hpos:0 < ps.length:=List.length_pos_iff.mpr hne
 have hp:=eX I.hok hz rv
 refine Hx tp (by omega) (I.ok.hd hc) (bt:=bestOf (fun p q=>decide (aT p q)) ps) (fun i j vi vj t Q E g e1 e2 q=>?_) fun v h' tk e g=>?_
 ·obtain ⟨p1,f1,a1⟩:=hp.get e1
  obtain ⟨p2,f2,a2⟩:=hp.get e2
  obtain ⟨l1,i1,rfl,t1,n1⟩:=(a1.grow g).tup
  obtain ⟨l2,i2,rfl,t2,n2⟩:=(a2.grow g).tup
  have eb:bestOf (fun p q=>decide (aT p q)) ps i j=decide (aT p1 p2):=by unfold bestOf;rw [List.getD_eq_getElem?_getD,List.getD_eq_getElem?_getD,f1,f2];rfl
  rw [eb,← cM] at q
  exact (HT.fm t1 t2 n1 n2 (by show X.A.units+1 < cLine;omega) q:wpAny (model X.prog X.w) X.A.in1 (compareOp .Lt (.ref l1) (.ref l2)) Q E t)
 ·obtain ⟨hb,x,rx,dd⟩:=qC hz rv e
  obtain ⟨m1,m2⟩:=qD (lt:=fun p q=>decide (aT p q)) hb (fun p=>decide_eq_false (bL p)) (fun p q r a b=>decide_eq_true (b9 (of_decide_eq_true a) (of_decide_eq_true b))) hl rfl
  exact ⟨x,H,I.kept g,rx,aG rm dd (q _ m1 fun z hz=>of_decide_eq_false (m2 z hz))⟩
end
section
open PySem.SeqAt
open PySem.AutoSeq1 (wpAny_loadPart')
open PySem.MeetsSeq PySem.MeetsSeq2 PySem.MeetsSeq3
theorem Df (p q:Pl) (ps qs:List Pl):dJ (p :: ps) (q :: qs)=if p=q then dJ ps qs else decide (aT p q):=rfl
theorem yj (l b:Addr) (items items2:Array Value) (n n2:Nat) (dd dd2:Option Addr) (sl sl2:Array (Option Value)) (ps qs:List Pl) :
 Meets (Builtin.«tuple.__lt__» ⟨[.ref l,.ref b],[]⟩)
  (fun A R s=>A.in1.units+8 < cLine∧dh s.heap items.toList ps∧dh s.heap items2.toList qs∧s.heap.get? l=some { cls:= .type "tuple",dict:=dd,data:= .seq items n,slots:=sl }∧s.heap.get? b=some { cls:= .type "tuple",dict:=dd2,data:= .seq items2 n2,slots:=sl2 }∧
   R (.ok (.ret (.bool (dJ ps qs)))) s):=
 .of_wp fun prog w A R s h=>by
  obtain ⟨hp,g,d,tk,os⟩:=s
  obtain ⟨hu,hi,hj,hl,hb,h⟩:=h
  have f2:=AutoSeq1.sub_tuple_tuple
  have z1:items.size=ps.length:=by have:=hi.length;simpa using this
  have z2:items2.size=qs.length:=by have:=hj.length;simpa using this
  wp_walk using wpAny_loadPart' hl,wpAny_loadPart' hb,wpAny_forIn_list _ (fun rest b s'=>b.1=none∧s'= ⟨hp,g,d,tk,os⟩∧∃ (vs ws:List Value) (ns' ms':List Pl),rest=vs.zip ws∧
   dh hp vs ns'∧dh hp ws ms'∧ns'.length+items2.size=ms'.length+items.size∧R (.ok (.ret (.bool (dJ ns' ms')))) ⟨hp,g,d,tk,os⟩) _
  case turn=>
   rintro ⟨y,x⟩ rest b s' ⟨hb',rfl,vs,ws,ns',ms',hz,DT,hwi,hlen,hR⟩
   cases DT with
   | nil=>rw [List.zip_nil_left] at hz;cases hz
   | @cons _ p _ _ a DU=>
     cases hwi with
     | nil=>rw [List.zip_nil_right] at hz;cases hz
     | @cons _ q _ _ c DV=>
       rw [List.zip_cons_cons] at hz
       injection hz with hyx hrest
       injection hyx with hy hx
       subst hy hx
       rw [Df] at hR
       simp only [List.length_cons] at hlen
       have LG:∀ (E:Value→Shared→Prop) (Q:Value→Shared→Prop),Q (.bool (decide (aT p q))) ⟨hp,g,d,tk,os⟩→wpAny (model prog w) A.in1 (richCompare .Lt y x) Q E ⟨hp,g,d,tk,os⟩:=fun E Q k=>by
        obtain ⟨l1,i1,rfl,t1,n1⟩:=a.tup
        obtain ⟨l2,i2,rfl,t2,n2⟩:=c.tup
        rw [← cM] at k
        exact (HT.fm t1 t2 n1 n2 (by omega) k:wpAny (model prog w) A.in1 (compareOp .Lt (.ref l1) (.ref l2)) Q E ⟨hp,g,d,tk,os⟩)
       refine wpAny_bind (rf (by omega) a c ?_)
       by_cases e:p=q
       ·rw [decide_eq_true e]
        rw [if_pos e] at hR
        wp_walk
        exact ⟨rfl,rfl,_,_,_,_,hrest,DU,DV,by omega,hR⟩
       ·rw [decide_eq_false e]
        rw [if_neg e] at hR
        wp_walk using LG
        exact ⟨_,rfl,by simpa using hR⟩
  case fin=>
   rintro ⟨b1,b2⟩ s' ⟨hb',rfl,vs,ws,ns',ms',hz,DT,hwi,hlen,hR⟩
   simp only at hb'
   subst hb'
   have hv:dJ ns' ms'=decide (items.size < items2.size):=by
    cases DT with
    | nil=>
      cases hwi with
      | nil=>
        simp only [List.length_nil] at hlen
        exact (decide_eq_false (by omega)).symm
      | cons c hw=>
        simp only [List.length_nil,List.length_cons] at hlen
        exact (decide_eq_true (by omega)).symm
    | cons a hv=>
      cases hwi with
      | nil=>
        simp only [List.length_nil,List.length_cons] at hlen
        exact (decide_eq_false (by omega)).symm
      | cons c hw=>
        rw [List.zip_cons_cons] at hz
        cases hz
   rw [hv] at hR
   wp_walk
   exact ⟨_,rfl,by simpa [Builtin.Tuple.tupleCompareSizes] using hR⟩
  case h=>
   exact ⟨rfl,rfl,items.toList,items2.toList,ps,qs,rfl,hi,hj,by omega,h⟩
end
end L3
namespace L3
open PySem PySem.Spec PyProof.Rows L2
section
variable {P:Program} {w:World} {A:Around} {E:Value→Shared→Prop} {s:Shared}
theorem Hy {h0:Heap} {I S:Addr} {fp wr:List Addr} {n:Nat} {Pr:Nat→Value→Prop} {St:Nat→Heap→Prop} {bt:Nat→Nat→Bool} {R:Result→Shared→Prop} {kw:List (Str ×Value)} (W:Walks P w A.in1 I fp wr n Pr St)
 (hc:∀ (i j:Nat) (vi vj:Value) (t:Shared) (Q:Value→Shared→Prop) (E:Value→Shared→Prop),cP h0 t.heap→Pr i vi→Pr j vj→Q (.bool (bt i j)) t→wpAny (model P w) A.in1 (richCompare .Lt vi vj) Q E t)
 (hS:S∉fp) (xg:∀ b o,h0.get? b=some o→b∉wr∧b≠S):∀ (m k:Nat) (t:Shared) (vb:Value) (c:Nat),n - (k+1)=m→k+1≤n→cP h0 t.heap→St (k+1) t.heap→Pr (argBest bt k) vb→
 t.heap.get? S=some { cls:= .type "list",dict:=none,data:= .seq #[vb,vb] c,slots:= #[] }→
 (∀ v h' tk,Pr (argBest bt (n - 1)) v→(∀ b o,b∉wr→b≠S→t.heap.get? b=some o→h'.get? b=some o)→R (.ok (.ret v)) { t with heap:=h',toks:=tk })→
 codeAny (model P w) A (.builtin "min.loop" ⟨[.ref I,.none,.ref S],kw⟩) R t:=by
 have Sw:S∉wr:=fun q=>hS (W.sub _ q)
 have nm:(toString "min" ++ toString ".loop" :String)= "min.loop" :=by decide
 intro m
 induction m with
 | zero=>
   intro k t vb c e1 e2 gr st pb hs hR
   have ek:k+1=n:=by omega
   refine codeAny_builtin F.entry_min_loop ?_
   rw [Around.under_plainId F.plain_min_loop]
   show wpAny (model P w) A.in1 (seqItems? (.ref S) >>= _) _ _ t
   apply wpAny_bind;apply wpAny_seqItems hs rfl
   show wpAny (model P w) A.in1 (tryCatch (pyNext (.ref I)) _ >>= _) _ _ t
   apply wpAny_bind;apply wpAny_tryCatch
   refine W.done t _ _ (ek▸st) fun h' tk kp=>?_
   have hs2:=kp S _ Sw hs
   show wpAny (model P w) A.in1 (updateSeq S (fun _=> #[]) >>= _) _ _ _
   apply wpAny_bind
   refine wpAny_updateSeq hs2 rfl ?_
   apply wpAny_bind;apply wpAny_letGo;apply wpAny_pure
   exact hR vb _ tk (by rw [← ek];exact pb) fun b o q1 q2 q=>(Heap.get?_update_other _ _ (Ne.symm q2)).trans (kp b o q1 q)
 | succ m ih=>
   intro k t vb c e1 e2 gr st pb hs hR
   refine codeAny_builtin F.entry_min_loop ?_
   rw [Around.under_plainId F.plain_min_loop]
   show wpAny (model P w) A.in1 (seqItems? (.ref S) >>= _) _ _ t
   apply wpAny_bind;apply wpAny_seqItems hs rfl
   show wpAny (model P w) A.in1 (tryCatch (pyNext (.ref I)) _ >>= _) _ _ t
   apply wpAny_bind;apply wpAny_tryCatch
   refine W.item (k+1) t _ _ (by omega) st fun v h' tk pv st2 kp=>?_
   have hs2:=kp S _ Sw hs
   have zJ:cP h0 h':=fun b o q=>kp b o (xg b o q).1 (gr b o q)
   show wpAny (model P w) A.in1 (tryCatch (holding [v,v] (richCompare .Lt v vb >>= _)) _ >>= _) _ _ _
   apply wpAny_bind;apply wpAny_tryCatch;apply wpAny_holding;apply wpAny_bind
   refine hc (k+1) (argBest bt k) v vb _ _ _ zJ pv pb ?_
   apply wpAny_bind;apply wpAny_holding;apply wpAny_truthy_bool
   apply wpAny_bind;apply wpAny_letGo;apply wpAny_pure
   cases d:bt (k+1) (argBest bt k) with
   | true=>
     rw [if_pos rfl]
     apply wpAny_bind
     refine wpAny_updateSeq hs2 rfl ?_
     apply wpAny_bind;apply wpAny_letGo
     rw [nm]
     refine wpAny_pure ⟨plainId_quiet F.plain_min_loop _,ih (k+1) _ v _ (by omega) (by omega) (fun b o q=>(Heap.get?_update_other _ _ (Ne.symm (xg b o q).2)).trans (zJ b o q)) (W.frame _ _ _ st2 fun b q1 o q=>(Heap.get?_update_other _ _ (fun z:S=b=>hS (z▸q1))).trans q) (by simp only [argBest,d,if_true];exact pv) (Heap.get?_update_self _ hs2 rfl) fun v2 h2 zK p2 ya=>?_⟩
     exact hR v2 h2 zK p2 fun b o q1 q2 q=>ya b o q1 q2 ((Heap.get?_update_other _ _ (Ne.symm q2)).trans (kp b o q1 q))
   | false=>
     rw [if_neg Bool.false_ne_true]
     apply wpAny_bind;apply wpAny_letGo
     rw [nm]
     refine wpAny_pure ⟨plainId_quiet F.plain_min_loop _,ih (k+1) _ vb c (by omega) (by omega) zJ st2 (by simp only [argBest,d,Bool.false_eq_true,if_false];exact pb) hs2 fun v2 h2 zK p2 ya=>?_⟩
     exact hR v2 h2 zK p2 fun b o q1 q2 q=>ya b o q1 q2 (kp b o q1 q)
theorem Bf {h0:Heap} {I S:Addr} {fp wr:List Addr} {n:Nat} {Pr:Nat→Value→Prop} {St:Nat→Heap→Prop} {bt:Nat→Nat→Bool} {R:Result→Shared→Prop} {kw:List (Str ×Value)} {t:Shared} {c:Nat} (W:Walks P w A.in1 I fp wr n Pr St)
 (hc:∀ (i j:Nat) (vi vj:Value) (t:Shared) (Q:Value→Shared→Prop) (E:Value→Shared→Prop),cP h0 t.heap→Pr i vi→Pr j vj→Q (.bool (bt i j)) t→wpAny (model P w) A.in1 (richCompare .Lt vi vj) Q E t)
 (hS:S∉fp) (xg:∀ b o,h0.get? b=some o→b∉wr∧b≠S) (hn:0 < n) (gr:cP h0 t.heap) (st:St 0 t.heap) (hs:t.heap.get? S=some { cls:= .type "list",dict:=none,data:= .seq #[] c,slots:= #[] })
 (hR:∀ v h' tk,Pr (argBest bt (n - 1)) v→(∀ b o,b∉wr→b≠S→t.heap.get? b=some o→h'.get? b=some o)→R (.ok (.ret v)) { t with heap:=h',toks:=tk }) :
 codeAny (model P w) A (.builtin "min.loop" ⟨[.ref I,.none,.ref S],kw⟩) R t:=by
 have Sw:S∉wr:=fun q=>hS (W.sub _ q)
 have nm:(toString "min" ++ toString ".loop" :String)= "min.loop" :=by decide
 refine codeAny_builtin F.entry_min_loop ?_
 rw [Around.under_plainId F.plain_min_loop]
 show wpAny (model P w) A.in1 (seqItems? (.ref S) >>= _) _ _ t
 apply wpAny_bind;apply wpAny_seqItems hs rfl
 show wpAny (model P w) A.in1 (tryCatch (pyNext (.ref I)) _ >>= _) _ _ t
 apply wpAny_bind;apply wpAny_tryCatch
 refine W.item 0 t _ _ hn st fun v h' tk pv st2 kp=>?_
 have hs2:=kp S _ Sw hs
 have zJ:cP h0 h':=fun b o q=>kp b o (xg b o q).1 (gr b o q)
 show wpAny (model P w) A.in1 (updateSeq S (fun _=> #[v,v]) >>= _) _ _ _
 apply wpAny_bind
 refine wpAny_updateSeq hs2 rfl ?_
 rw [nm]
 refine wpAny_pure ⟨plainId_quiet F.plain_min_loop _,Hy W hc hS xg _ 0 _ v _ rfl hn (fun b o q=>(Heap.get?_update_other _ _ (Ne.symm (xg b o q).2)).trans (zJ b o q)) (W.frame _ _ _ st2 fun b q1 o q=>(Heap.get?_update_other _ _ (fun z:S=b=>hS (z▸q1))).trans q) pv (Heap.get?_update_self _ hs2 rfl) fun v2 h2 zK p2 ya=>?_⟩
 exact hR v2 h2 zK p2 fun b o q1 q2 q=>ya b o q1 q2 ((Heap.get?_update_other _ _ (Ne.symm q2)).trans (kp b o q1 q))
theorem E4 (a v:Value):argsOk "min" ⟨[a],[(Str.ofString "default",v)]⟩:=by unfold argsOk;kernel_rfl
theorem xx {l:Addr} {vs:List Value} {dv:Value} {bt:Nat→Nat→Bool} {Q:Value→Shared→Prop} (pl:s.heap.IsList l vs.toArray) (hh:A.handled=none)
 (hc:∀ (i j:Nat) (vi vj:Value) (t:Shared) (Q:Value→Shared→Prop) (E:Value→Shared→Prop),cP s.heap t.heap→vs[i]?=some vi→vs[j]?=some vj→Q (.bool (bt i j)) t→wpAny (model P w) A.in1 (richCompare .Lt vi vj) Q E t)
 (h0:vs= []→∀ h' tk,cP s.heap h'→Q dv { s with heap:=h',toks:=tk })
 (h:0 < vs.length→∀ v h' tk,vs[argBest bt (vs.length - 1)]?=some v→cP s.heap h'→Q v { s with heap:=h',toks:=tk }):wpAny (model P w) A (call (.builtin "min") [.ref l] [(Str.ofString "default",dv)]) Q E s:=by
 have nm:(toString "min" ++ toString ".loop" :String)= "min.loop" :=by decide
 have ll:l < s.heap.objs.size:=by obtain ⟨o,e,_⟩:=pl;exact Heap.lt_size e
 refine kmb_tree PySem.F.kind_min PySem.F.plain_min PySem.F.entry_min (E4 _ _) ?_
 show wpAny (model P w) A.in1 (Builtin.Builtins.bindParams "min" ["key","default"] 0 ⟨[],[(Str.ofString "default",dv)]⟩ >>= _) _ _ s
 refine wpAny_bind (wpAny_of_eq (show Builtin.Builtins.bindParams "min" ["key","default"] 0 ⟨[],[(Str.ofString "default",dv)]⟩=pure [none,some dv] from rfl) ?_)
 show wpAny (model P w) A.in1 (pyIter (.ref l) >>= _) _ _ s
 refine wpAny_bind (wpAny_pyIter_list pl ?_)
 have o4:(s.heap.push { cls:= .type "list_iterator",data:= .fields #[.ref l,.int 0 0] }).objs.size=s.heap.objs.size+1:=Heap.size_push ..
 apply wpAny_bind
 refine wpAny_newObj_type ?_
 rw [nm]
 have QH:((s.heap.push { cls:= .type "list_iterator",data:= .fields #[.ref l,.int 0 0] }).push { cls:= .type "list",data:= .seq #[] }).IsListIter s.heap.objs.size l 0∧((s.heap.push { cls:= .type "list_iterator",data:= .fields #[.ref l,.int 0 0] }).push { cls:= .type "list",data:= .seq #[] }).IsList l vs.toArray:=by
  refine ⟨⟨_,Heap.get?_push_of_some _ (Heap.get?_push_size _ rfl),rfl,rfl⟩,?_⟩
  obtain ⟨o,e,c,d⟩:=pl
  exact ⟨o,Heap.get?_push_of_some _ (Heap.get?_push_of_some _ e),c,d⟩
 have RT:s.heap.objs.size+1∉[s.heap.objs.size,l]:=fun q=>by
  rcases List.mem_cons.mp q with q | q
  ·exact absurd q (Nat.succ_ne_self _)
  ·have q:=List.mem_singleton.mp q
   rw [← q] at ll
   exact absurd ll (Nat.not_lt.mpr (Nat.le_succ _))
 by_cases hv:vs= []
 ·subst hv
  refine wpAny_pure ⟨plainId_quiet F.plain_min_loop _,codeAny_builtin F.entry_min_loop ?_⟩
  rw [Around.under_plainId F.plain_min_loop]
  show wpAny (model P w) A.in1 (seqItems? (.ref _) >>= _) _ _ _
  apply wpAny_bind;apply wpAny_seqItems (Heap.get?_push_size _ rfl) rfl
  show wpAny (model P w) A.in1 (tryCatch (pyNext (.ref s.heap.objs.size)) _ >>= _) _ _ _
  apply wpAny_bind;apply wpAny_tryCatch
  refine (Walks.list (A:=A.in1) hh s.heap.objs.size l (Nat.ne_of_lt ll) #[]).done _ _ _ QH fun h' tk kp=>?_
  show wpAny (model P w) A.in1 (rule _ >>= _) _ _ _
  refine wpAny_bind (wpAny_rule ?_)
  refine wpAny_pure ?_
  refine h0 rfl h' tk fun b o q=>?_
  have lb:=Heap.lt_size q
  exact kp b o (fun z=>by rw [List.mem_singleton.mp z] at lb;exact absurd lb (Nat.lt_irrefl _)) (Heap.get?_push_of_some _ (Heap.get?_push_of_some _ q))
 ·have hn:0 < vs.length:=List.length_pos_iff.mpr hv
  refine wpAny_pure ⟨plainId_quiet F.plain_min_loop _,Bf (h0:=s.heap) (Walks.list (A:=A.in1) hh s.heap.objs.size l (Nat.ne_of_lt ll) vs.toArray) (bt:=bt) (fun i j vi vj t Q E g1 p1 p2 q=>hc i j vi vj t Q E g1 (by simpa using p1) (by simpa using p2) q) (by rw [o4];exact RT) (fun b o q=>?_) (by simpa using hn) (fun b o q=>Heap.get?_push_of_some _ (Heap.get?_push_of_some _ q)) QH (Heap.get?_push_size _ rfl) fun v h' tk p kp=>?_⟩
  ·have lb:=Heap.lt_size q
   rw [o4]
   refine ⟨fun z=>?_,fun z=>?_⟩
   ·have z:=List.mem_singleton.mp z
    rw [z] at lb
    exact absurd lb (Nat.lt_irrefl _)
   ·rw [z] at lb
    exact absurd lb (Nat.not_lt.mpr (Nat.le_succ _))
  ·refine h hn v h' tk (by simpa using p) fun b o q=>?_
   have lb:=Heap.lt_size q
   refine kp b o (fun z=>?_) (fun z=>?_) (Heap.get?_push_of_some _ (Heap.get?_push_of_some _ q))
   ·have z:=List.mem_singleton.mp z
    rw [z] at lb
    exact absurd lb (Nat.lt_irrefl _)
   ·rw [z,o4] at lb
    exact absurd lb (Nat.not_lt.mpr (Nat.le_succ _))
end
end L3
namespace L3
open PySem PySem.Spec PyProof.Rows L2
theorem xA {P:Program} {w:World} {A:Around} {E:Value→Shared→Prop} {s:Shared} {n:Nat} {u v:Value} {ps qs:List Pl} {Q:Value→Shared→Prop} (a:sX n s.heap u ps) (b:sX n s.heap v qs) (hu:A.units+16 < cLine) (h:Q (.bool (dJ ps qs)) s):wpAny (model P w) A (richCompare .Lt u v) Q E s:=by
 obtain ⟨_,l,⟨cls,dd,data,sl⟩,its,m,rfl,ho,hc,hd,hp⟩:=a
 obtain ⟨_,l2,⟨Ju,dd2,data2,sl2⟩,its2,m2,rfl,ho2,hc2,hd2,hp2⟩:=b
 simp only at hc hd hc2 hd2
 subst hc hd hc2 hd2
 exact richCompare_meets_room (op:= .Lt) ⟨_,ho,rfl⟩ ⟨_,ho2,rfl⟩ PySem.F.slot_tuple_lt PySem.F.entry_tuple_lt (PySem.F.args_tuple_lt_2 _ _) (yj l l2 its.toArray its2.toArray m m2 dd dd2 sl sl2 ps qs)
  ⟨by show A.units+1+8 < cLine;omega,by simpa using hp,by simpa using hp2,ho,ho2,show Value.bool (dJ ps qs)≠Value.notImplemented∧Q (.bool (dJ ps qs)) s from ⟨(fun x=>nomatch x),h⟩⟩ (by omega)
section
variable {X:Cx} {pos:Pos}
theorem iZ.get {n:Nat} {h:Heap}:∀ {us:List Value} {ps:List (List Pl)} {i:Nat} {u:Value},iZ n h us ps→us[i]?=some u→∃ p,ps[i]?=some p∧sX n h u p
 | _,_,i,u,.nil,e=>by simp at e
 | _,_,i,u,.cons a r,e=>by
   cases i with
   | zero=>simp at e;subst e;exact ⟨_,rfl,a⟩
   | succ i=>exact iZ.get (i:=i) r (by simpa using e)
theorem Aa {ts:List (List Pl)} {xs:List V} {us:List Value} {K:PySem.W.Frag} {H:Hp} {i:Nat} {v:Value} (dx:aL K H (ts.map tD) xs) (rv:Vals xs us) (e:us[i]?=some v):i < ts.length∧∃ x,RelV x v∧Dat K H (tD (ts.getD i [])) x:=by
 have hi:i < us.length:=(List.getElem?_eq_some_iff.mp e).1
 have hl:us.length=ts.length:=by rw [Vals.len rv,← dx.length,List.length_map]
 have lt:i < xs.length:=by rw [← dx.length,List.length_map];omega
 obtain ⟨u,eu,ru⟩:=Vals.get rv (List.getElem?_eq_getElem lt)
 rw [e] at eu
 cases eu
 obtain ⟨d,ed,dd⟩:=dx.back (List.getElem?_eq_getElem lt)
 rw [List.getElem?_map,List.getElem?_eq_getElem (by omega:i < ts.length)] at ed
 refine ⟨by omega,_,ru,?_⟩
 rw [List.getD_eq_getElem?_getD,List.getElem?_eq_getElem (by omega:i < ts.length)]
 cases ed
 exact dd
theorem xB {ts:List (List Pl)} {b:Nat} (hb:b < ts.length) {n:Nat} (hn:n=ts.length) (e:b=argBest (fun i j=>dJ (ts.getD i []) (ts.getD j [])) (n - 1)) :
 ts.getD b []∈ts∧∀ z∈ts,dJ z (ts.getD b [])=false:=by
 refine ⟨?_,fun z hz=>?_⟩
 ·rw [List.getD_eq_getElem?_getD,List.getElem?_eq_getElem hb]
  exact List.getElem_mem hb
 ·obtain ⟨k,hk⟩:=List.mem_iff_getElem?.mp hz
  have hk1:k < ts.length:=(List.getElem?_eq_some_iff.mp hk).1
  have:=iK (bt:=fun i j=>dJ (ts.getD i []) (ts.getD j [])) (fun i=>jA _) (fun i j k a b=>lZ _ _ _ a b) (n - 1) k (by omega)
  rw [← e] at this
  have ek:ts.getD k []=z:=by rw [List.getD_eq_getElem?_getD,hk];rfl
  rw [ek] at this
  exact this
def Kv (n:Nat):List D→Mp→DK→Prop:=fun ds M Q=> ∃ (l:Addr) (ts:List (List Pl)),ds= [.ref l]∧M l=some (.lst (ts.map tD))∧(∀ t∈ts,t.length=n)∧ts≠[]∧∀ m∈ts,(∀ z∈ts,dJ z m=false)→Q (tD m) M
theorem Hz {n:Nat} (hu:X.A.units+64 < cLine) (hc:X.calm=true):Call3 X (.builtin "min") (Kv n):=by
 constructor
 intro pins s σ H M xs ds us Q I rm rs dx ⟨l,ts,e,hM,hlen,hne,q⟩
 subst e
 obtain ⟨v,rfl,hv⟩:=jx dx
 obtain rfl:=aO.mp hv
 obtain ⟨u,rfl,r1⟩:=vals1 rs
 obtain rfl:u=Value.ref l:=r1
 obtain ⟨zs,hH,hz⟩:=rm.lst hM
 obtain ⟨its,rv,pl,hsz⟩:=I.list (gO.of (K:=X.K) hH)
 have hl:its.length=ts.length:=by rw [Vals.len rv,← hz.length,List.length_map]
 have hpos:0 < ts.length:=List.length_pos_iff.mpr hne
 have hp:=o6 (n:=n) I.hok hlen hz rv
 refine min_list pl.isList (by omega) (I.ok.hd hc) (bt:=fun i j=>dJ (ts.getD i []) (ts.getD j [])) (fun i j vi vj t Q E g e1 e2 q=>?_) fun v h' tk e g=>?_
 ·obtain ⟨p1,f1,a1⟩:=hp.get e1
  obtain ⟨p2,f2,a2⟩:=hp.get e2
  rw [List.getD_eq_getElem?_getD,List.getD_eq_getElem?_getD,f1,f2] at q
  exact xA (a1.grow g) (a2.grow g) (by show X.A.units+1+16 < cLine;omega) q
 ·obtain ⟨hb,x,rx,dd⟩:=Aa hz rv e
  obtain ⟨m1,m2⟩:=xB hb hl rfl
  exact ⟨x,H,I.kept g,rx,aG rm dd (q _ m1 m2)⟩
structure E5 (X:Cx) (r:D→Mp→DK→Prop):Prop where
 run:∀ (pins:List (Addr ×Obj)) (s:Shared) (σ:St) (H:Hp) (M:Mp) (x:V) (d:D) (u:Value) (Q:DK),Inv X pins σ H s→cK X.K H M→RelV x u→Dat X.K H d x→r d M Q→wpAny (model X.prog X.w) X.A (call (.builtin "min") [u] [(Str.ofString "default",.none)]) (EP X pins σ (Post X.K M H Q)) X.xe s
def Kw (n:Nat):D→Mp→DK→Prop:=fun d M Q=> ∃ (l:Addr) (ts:List (List Pl)),d= .ref l∧M l=some (.lst (ts.map tD))∧(∀ t∈ts,t.length=n)∧(ts= []→Q .bK M)∧∀ m∈ts,(∀ z∈ts,dJ z m=false)→Q (tD m) M
theorem Ct {n:Nat} (hu:X.A.units+64 < cLine) (hc:X.calm=true):E5 X (Kw n):=by
 constructor
 intro pins s σ H M x d u Q I rm rx dx ⟨l,ts,e,hM,hlen,q0,q⟩
 subst e
 obtain rfl:=aO.mp dx
 obtain rfl:u=Value.ref l:=rx
 obtain ⟨zs,hH,hz⟩:=rm.lst hM
 obtain ⟨its,rv,pl,hsz⟩:=I.list (gO.of (K:=X.K) hH)
 have hl:its.length=ts.length:=by rw [Vals.len rv,← hz.length,List.length_map]
 have hp:=o6 (n:=n) I.hok hlen hz rv
 refine xx pl.isList (I.ok.hd hc) (bt:=fun i j=>dJ (ts.getD i []) (ts.getD j [])) (fun i j vi vj t Q E g e1 e2 q=>?_) (fun e0 h' tk g=>?_) fun hn v h' tk e g=>?_
 ·obtain ⟨p1,f1,a1⟩:=hp.get e1
  obtain ⟨p2,f2,a2⟩:=hp.get e2
  rw [List.getD_eq_getElem?_getD,List.getD_eq_getElem?_getD,f1,f2] at q
  exact xA (a1.grow g) (a2.grow g) (by show X.A.units+1+16 < cLine;omega) q
 ·refine ⟨.bK,H,I.kept g,rfl,aG rm (cF.mpr rfl) (q0 ?_)⟩
  rw [e0] at hl
  exact List.length_eq_zero_iff.mp hl.symm
 ·obtain ⟨hb,x,rx,dd⟩:=Aa hz rv e
  obtain ⟨m1,m2⟩:=xB hb hl rfl
  exact ⟨x,H,I.kept g,rx,aG rm dd (q _ m1 m2)⟩
def Kx:D→Mp→DK→Prop:=fun d M Q=> ∃ (l:Addr) (ps:List Pl),d= .ref l∧M l=some (.lst (ps.map Pl.d))∧(ps= []→Q .bK M)∧∀ m∈ps,(∀ z∈ps,¬ aT z m)→Q m.d M
theorem HA (hu:X.A.units+64 < cLine) (hc:X.calm=true):E5 X Kx:=by
 constructor
 intro pins s σ H M x d u Q I rm rx dx ⟨l,ps,e,hM,q0,q⟩
 subst e
 obtain rfl:=aO.mp dx
 obtain rfl:u=Value.ref l:=rx
 obtain ⟨zs,hH,hz⟩:=rm.lst hM
 obtain ⟨its,rv,pl,hsz⟩:=I.list (gO.of (K:=X.K) hH)
 have hl:its.length=ps.length:=by rw [Vals.len rv,← hz.length,List.length_map]
 have hp:=eX I.hok hz rv
 refine xx pl.isList (I.ok.hd hc) (bt:=bestOf (fun p q=>decide (aT p q)) ps) (fun i j vi vj t Q E g e1 e2 q=>?_) (fun e0 h' tk g=>?_) fun hn v h' tk e g=>?_
 ·obtain ⟨p1,f1,a1⟩:=hp.get e1
  obtain ⟨p2,f2,a2⟩:=hp.get e2
  obtain ⟨l1,i1,rfl,t1,n1⟩:=(a1.grow g).tup
  obtain ⟨l2,i2,rfl,t2,n2⟩:=(a2.grow g).tup
  have eb:bestOf (fun p q=>decide (aT p q)) ps i j=decide (aT p1 p2):=by unfold bestOf;rw [List.getD_eq_getElem?_getD,List.getD_eq_getElem?_getD,f1,f2];rfl
  rw [eb,← cM] at q
  exact (HT.fm t1 t2 n1 n2 (by show X.A.units+1 < cLine;omega) q:wpAny (model X.prog X.w) X.A.in1 (compareOp .Lt (.ref l1) (.ref l2)) Q E t)
 ·refine ⟨.bK,H,I.kept g,rfl,aG rm (cF.mpr rfl) (q0 ?_)⟩
  rw [e0] at hl
  exact List.length_eq_zero_iff.mp hl.symm
 ·obtain ⟨hb,x,rx,dd⟩:=qC hz rv e
  obtain ⟨m1,m2⟩:=qD (lt:=fun p q=>decide (aT p q)) hb (fun p=>decide_eq_false (bL p)) (fun p q r a b=>decide_eq_true (b9 (of_decide_eq_true a) (of_decide_eq_true b))) hl rfl
  exact ⟨x,H,I.kept g,rx,aG rm dd (q _ m1 fun z hz=>of_decide_eq_false (m2 z hz))⟩
def Nf (r:D→Mp→DK→Prop) (te:cY):cY:=fun ρ M Q=>te ρ M fun d M1=>r d M1 Q
theorem Bg {r:D→Mp→DK→Prop} {e:Expr} {te:cY} {p p2 p3:Pos} {k:Nat} (hc:E5 X r) (hg:Gl X "min") (hm:X.mg "min" =none) (he:cE X e te)
 (s1:starEach [e] X.env= [(false,eval e X.env)]:=by rfl):cE X (.Call (.Name "min" p) [e] [⟨some (Str.ofString "default"),.Constant .none k p2,p3⟩] pos) (Nf r te):=by
 constructor
 intro pins s σ H ρ M Q I r' h
 refine wpAny_Call_Name_kw (lN I hg hm c6 ?_ (by decide) (by decide))
 refine PyProof.Rows.callWith_kw ?_ (by rw [s1];rfl) (by rw [s1];rfl) (by rfl) (by rfl)
 rw [s1]
 show wpAny _ _ (spliced ((false,eval e X.env) :: backTo pos [])) _ _ s
 refine Calls.spliced_cons (dD (he.run pins s σ H ρ M _ I r' h) fun v s1 ⟨x,H1,I1,rv,d,M1,f1,dd,oY,q⟩=>Calls.spliced_nil ?_)
 refine PyProof.Rows.kws_cons (Constant_none (PyProof.Rows.kws_nil ?_))
 show wpAny _ _ (call (.builtin "min") [v] [(Str.ofString "default",.none)]) _ _ s1
 exact dD (hc.run pins s1 σ H1 M1 x d v Q I1 oY rv dd q) fun _ _ ⟨z,H3,I3,r3,p⟩=>⟨z,H3,I3,r3,p.back f1⟩
end
end L3
namespace L3
open PySem PySem.Spec PyProof.Rows L2
section
variable {P:Program} {w:World} {A:Around} {E:Value→Shared→Prop} {s:Shared}
theorem Ab {l:Addr} {vs:List Value} {Q:List Value→Shared→Prop} (hl:IsTup s.heap l vs.toArray)
 (h:Q vs { s with heap:=(s.heap.push (seqObj "list" #[] 0)).update s.heap.objs.size (Obj.mapSeq (· ++ vs.toArray)) }) (hsz:vs.length≤sizeLine) :
 wpAny (model P w) A (collect (.ref l)) Q E s:=by
 obtain ⟨o,ho,hc,n,hd⟩:=id hl
 have QI:(s.heap.push (seqObj "list" #[] 0)).get? s.heap.objs.size=some (seqObj "list" #[] 0):=Heap.get?_push_size _ rfl
 have e: #[] ++ vs.toArray=vs.toArray:=by simp
 unfold collect
 apply wpAny_bind
 apply wpAny_runValue
 apply codeAny_builtin entry_proto_collect'
 apply wpAny_bind
 refine wpAny_newList (hsz:=Nat.zero_le _) ?_
 apply wpAny_pure
 refine ⟨Code.quiet_builtin _ (by decide +kernel),codeAny_builtin entry_list_iadd' ?_⟩
 have ho':(s.heap.push (seqObj "list" #[] 0)).get? l=some o:=Heap.get?_push_of_some _ ho
 rw [Around.under_plainId (by decide +kernel)]
 refine wpAny_extend_seq (R:=fun r s'=>match r with
  | .ok (.ret v)=>wpAny (model P w) A (match v with
    | .ref a=>do
      let o ← load a
      match o.data with
      | .seq xs _=>pure xs.toList
      | _=>unsupported "internal:collect"
    | _=>unsupported "internal:collect") Q E s'
  | .ok _=>False
  | .error e=>E e s') (s:={ s with heap:=s.heap.push (seqObj "list" #[] 0) }) (T:= "tuple") s.heap.objs.size l (.ref s.heap.objs.size) 0 (.inr rfl) QI ho' hc hd ?_ (by simpa using hsz)
 apply wpAny_bind
 refine wpAny_load (get?_update_seq QI _) ?_
 show wpAny _ _ (pure ((#[]:Array Value) ++ vs.toArray).toList) Q E _
 rw [e]
 exact wpAny_pure h
variable {κ:KeyKind} {kd:SortKind}
theorem Bh {l:Addr} {vs:List Value} {Q:Value→Shared→Prop} (hl:IsTup s.heap l vs.toArray) (hk:KeysOf κ (pairsOf vs))
 (hd:∀ (t:Shared) (E:Value→Shared→Prop) (Q:SortKind→Shared→Prop),cP s.heap t.heap→2≤vs.length→Q kd t→wpAny (model P w) A.in1.in1 (keyKind' vs.toArray) Q E t)
 (hA:∀ t:Shared,cP s.heap t.heap→Ask P w A.in1.in1 t κ kd) (h64:vs.length < 64)
 (h:∀ y:Array Keyed,y.Perm (pairsOf vs)→SortedToK κ y (pairsOf vs).size→Q (.ref (s.heap.objs.size+1)) { s with heap:=sortedAll s.heap vs (y.map (·.2)) }) :
 wpAny (model P w) A (call (.builtin "sorted") [.ref l]) Q E s:=by
 refine Calls.call_function_entry kind_sorted plain_sorted entry_sorted (args_sorted1 _) ?_
 unfold Builtin.«sorted»
 refine wpAny_bind (m:=checkCount "sorted" 1 1 _) (wpAny_pure ?_)
 have lz:vs.length≤sizeLine:=by rw [sizeLine_eq];omega
 refine wpAny_bind (Ab hl (hsz:=lz) ?_)
 refine wpAny_bind (wpAny_newList (hsz:=lz) ?_)
 show wpAny (model P w) A.in1 _ _ _ { s with heap:=((s.heap.push (seqObj "list" #[] 0)).update s.heap.objs.size (Obj.mapSeq (· ++ vs.toArray))).push (seqObj "list" vs.toArray 0) }
 generalize hg:(s.heap.push (seqObj "list" #[] 0)).update s.heap.objs.size (Obj.mapSeq (· ++ vs.toArray))=g
 have gz:g.objs.size=s.heap.objs.size+1:=by rw [← hg,Heap.size_update,size_push']
 have gk:cP s.heap g:=fun b o q=>by
  have lb:=Heap.lt_size q
  rw [← hg,Heap.get?_update_ne _ _ _ _ (Nat.ne_of_lt lb),Heap.get?_push_ne _ _ _ (Nat.ne_of_lt lb)]
  exact q
 have fin:∀ y:Array Keyed,y.Perm (pairsOf vs)→SortedToK κ y (pairsOf vs).size→Q (.ref (s.heap.objs.size+1)) { s with heap:=sortedHeap (g.push (seqObj "list" vs.toArray 0)) (s.heap.objs.size+1) vs (y.map (·.2)) }:=fun y h1 h2=>by rw [← hg];exact h y h1 h2
 rw [gz]
 have at':(g.push (seqObj "list" vs.toArray 0)).get? (s.heap.objs.size+1)=some (seqObj "list" vs.toArray 0):=by rw [← gz];exact Heap.get?_push_size _ rfl
 have GX:∀ b o,s.heap.get? b=some o→b≠s.heap.objs.size+1∧(g.push (seqObj "list" vs.toArray 0)).get? b=some o:=fun b o q=>by
  have lb:=Heap.lt_size q
  have lc:=Nat.ne_of_lt (Nat.lt_succ_of_lt lb)
  refine ⟨lc,?_⟩
  rw [Heap.get?_push_ne _ _ _ (by rw [gz];exact lc)]
  exact gk b o q
 apply wpAny_bind;apply wpAny_holding
 refine wpAny_call_entry slot_list_sort ⟨_,at',rfl⟩ entry_list_sort (Ce (κ:=κ) (kd:=kd) at' hk (fun t E Q hg=>hd t E Q fun b o q=>hg b o (GX b o q).1 (GX b o q).2) (fun t hg=>hA t fun b o q=>hg b o (GX b o q).1 (GX b o q).2) h64 fun y h1 h2=>⟨_,rfl,?_⟩) (args_list_sort _)
 exact wpAny_pure ⟨_,rfl,fin y h1 h2⟩
end
theorem uq {P:Program} {w:World} {A:Around} {E:Value→Shared→Prop} {s:Shared} {l:Addr} {vs:List Value} {ps:List Pl} {Q:Value→Shared→Prop} (hl:IsTup s.heap l vs.toArray) (hv:dh s.heap vs ps) (h64:vs.length < 64)
 (h:∀ (out:List Value) (qs:List Pl),(∀ v∈out,v∈vs)→qs=out.map (qq s.heap)→qs.Perm ps→qs.Pairwise (fun p q=> ¬ aT q p)→Q (.ref (s.heap.objs.size+1)) { s with heap:=sortedAll s.heap vs out.toArray }) :
 wpAny (model P w) A (call (.builtin "sorted") [.ref l]) Q E s:=by
 have hk:KeysOf (x8 s.heap) (pairsOf vs):=fun p hp=>by
  rw [pairsOf_toList] at hp
  obtain ⟨q,a⟩:=hv.mem (cQ hp).2
  exact ⟨q,x9 a⟩
 refine Bh (κ:=x8 s.heap) (kd:=tuples' true) hl hk (fun t E Q g h2 q=>Cf (by omega) (fun v m=>?_) q) (fun t g=>Em g true) h64 fun y hp hs=>?_
 ·obtain ⟨p,a⟩:=hv.mem m
  exact ⟨p,a.grow g⟩
 ·have pl:y.toList.Perm (vs.zip vs):=by rw [← pairsOf_toList];exact Array.perm_iff_toList_perm.mp hp
  have same:∀ p∈y.toList,p.1=p.2∧p.1∈vs:=fun p m=>cQ (pl.mem_iff.mp m)
  have eo:y.map (·.2)=(y.toList.map (·.2)).toArray:=by rw [← Array.toList_map,Array.toArray_toList]
  rw [eo]
  refine h (y.toList.map (·.2)) _ (fun v m=>?_) rfl ?_ ?_
  ·obtain ⟨p,m2,rfl⟩:=List.mem_map.mp m
   rw [← (same p m2).1];exact (same p m2).2
  ·have q:=(pl.map (fun p=>p.2)).map (qq s.heap)
   have e:(vs.zip vs).map (fun p=>p.2)=vs:=List.map_snd_zip (Nat.le_refl _)
   rw [e,hv.keys] at q
   exact q
  ·rw [List.pairwise_iff_getElem]
   intro i j hi hj hij
   have li:i < y.size:=by simpa using hi
   have lj:j < y.size:=by simpa using hj
   have q:=hs i j (Nat.le_of_lt hij) (by rw [← hp.size_eq];exact lj)
   have key:∀ k (hk:k < y.size),KK (x8 s.heap) y k=qq s.heap y[k].2:=fun k hk=>by
    unfold KK
    rw [getElem?_pos y k hk]
    show Option.getD (α:=Pl) ((x8 s.heap).keyOf y[k].1) ⟨0,0⟩=_
    rw [(same y[k] (by simp)).1]
    rfl
   have q:(x8 s.heap).blt (KK (x8 s.heap) y j) (KK (x8 s.heap) y i)=false:=q
   rw [key i li,key j lj] at q
   have q:decide (aT (qq s.heap y[j].2) (qq s.heap y[i].2))=false:=q
   simpa using of_decide_eq_false q
section
variable {X:Cx}
def Dg:List D→Mp→DK→Prop:=fun ds M Q=> ∃ ps:List Pl,ds= [.tup (ps.map Pl.d)]∧ps.length < 64∧∀ (p:Addr) (qs:List Pl),M p=none→qs.Perm ps→qs.Pairwise (fun p q=> ¬ aT q p)→Q (.ref p) (aA M p (.lst (qs.map Pl.d)))
theorem Bj:Call3 X (.builtin "sorted") Dg:=by
 constructor
 intro pins s σ H M xs ds us Q I rm rs dx ⟨ps,e,h64,q⟩
 subst e
 obtain ⟨v,rfl,hv⟩:=jx dx
 obtain ⟨l,zs,rfl,hH,hz⟩:=bB.mp hv
 obtain ⟨u,rfl,r1⟩:=vals1 rs
 obtain rfl:u=Value.ref l:=r1
 obtain ⟨its,rv,tp,hsz⟩:=eO I.hok hH
 have hl:its.length=ps.length:=by rw [Vals.len rv,← hz.length,List.length_map]
 refine uq tp (eX I.hok hz rv) (by omega) fun out qs hm eq hp hs=>?_
 obtain ⟨ws,w1,w2⟩:=qX I.hok hz rv out hm
 rw [← eq] at w2
 obtain ⟨n,hn⟩:=sortedAll_at s.heap its out.toArray
 have fr:H (s.heap.objs.size+1)=none:=I.hok.fresh (Nat.le_succ _)
 have zw:ws.length≤sizeLine:=by
  rw [← w2.length,List.length_map,hp.length_eq,sizeLine_eq];omega
 refine ⟨.ref (s.heap.objs.size+1),upd H (s.heap.objs.size+1) (.lst ws),I.laid (t':=s.toks) (fun b o e=>sortedAll_old e) (Nat.le_succ _) ⟨zw,out,n,w1,hn⟩,rfl,.ref _,aA M _ (.lst (qs.map Pl.d)),Fr.new fr fun _ hb=>bG hb,aO.mpr rfl,rm.newL fr w2,q _ _ (rm.free fr) hp hs⟩
end
end L3
namespace L3
def Nx:List Pl→Pl→Pl→Prop
 | x :: y :: r,a,b=>(x=a∧y=b)∨Nx (y :: r) a b
 | _,_,_=>False
theorem Bk (h:Pl) (r:List Pl) (a b:Pl):∀ X:List Pl,Nx (X ++ h :: r) a b↔Nx (X ++ [h]) a b∨Nx (h :: r) a b
 | []=>by
   show Nx (h :: r) a b↔Nx [h] a b∨Nx (h :: r) a b
   have:¬ Nx [h] a b:=fun z=>z
   exact ⟨.inr,fun z=>z.elim (fun y=>absurd y this) id⟩
 | [x]=>by
   show (x=a∧h=b)∨Nx (h :: r) a b↔((x=a∧h=b)∨Nx [h] a b)∨Nx (h :: r) a b
   have:¬ Nx [h] a b:=fun z=>z
   constructor
   ·rintro (z | z)
    ·exact .inl (.inl z)
    ·exact .inr z
   ·rintro ((z | z) | z)
    ·exact .inl z
    ·exact absurd z this
    ·exact .inr z
 | x :: y :: X=>by
   have ih:=Bk h r a b (y :: X)
   show (x=a∧y=b)∨Nx (y :: X ++ h :: r) a b↔((x=a∧y=b)∨Nx (y :: X ++ [h]) a b)∨Nx (h :: r) a b
   rw [ih,or_assoc]
theorem qE:∀ (st:List Pl) (a b:Pl),yh st a b↔Nx st.reverse a b
 | [],a,b=>⟨fun ⟨i,h,_⟩=>by simp at h,fun z=>z.elim⟩
 | [y],a,b=>⟨fun ⟨i,h,_⟩=>by simp at h,fun z=>z.elim⟩
 | y :: x :: r,a,b=>by
   have ih:=qE (x :: r) a b
   have e:(y :: x :: r).reverse=r.reverse ++ x :: [y]:=by simp
   have e2:(x :: r).reverse=r.reverse ++ [x]:=by simp
   rw [e,Bk,← e2,← ih]
   have:Nx [x,y] a b↔(x=a∧y=b):=⟨fun z=>z.elim id (fun y=>y.elim),.inl⟩
   rw [this]
   constructor
   ·rintro ⟨i,h1,h2⟩
    cases i with
    | zero=>exact .inr ⟨by simpa using h1,by simpa using h2⟩
    | succ i=>exact .inl ⟨i,by simpa using h1,by simpa using h2⟩
   ·rintro (⟨i,h1,h2⟩ | ⟨h1,h2⟩)
    ·exact ⟨i+1,by simpa using h1,by simpa using h2⟩
    ·exact ⟨0,by simp [h1],by simp [h2]⟩
theorem Ac (a b:Pl):∀ (x:Pl) (r:List Pl) (z:Pl),[a,b]∈List.zipWith (fun p q=>[p,q]) (x :: r) (r ++ [z])↔Nx (x :: r ++ [z]) a b
 | x,[],z=>by
   show [a,b]∈[[x,z]]↔(x=a∧z=b)∨Nx [z] a b
   have:¬ Nx [z] a b:=fun z=>z
   simp [this]
   exact ⟨fun ⟨h1,h2⟩=>⟨h1.symm,h2.symm⟩,fun ⟨h1,h2⟩=>⟨h1.symm,h2.symm⟩⟩
 | x,y :: r,z=>by
   have ih:=Ac a b y r z
   show [a,b]∈[x,y] :: List.zipWith (fun p q=>[p,q]) (y :: r) (r ++ [z])↔(x=a∧y=b)∨Nx (y :: r ++ [z]) a b
   rw [List.mem_cons,ih]
   simp
   constructor
   ·rintro (⟨h1,h2⟩ | h)
    ·exact .inl ⟨h1.symm,h2.symm⟩
    ·exact .inr h
   ·rintro (⟨h1,h2⟩ | h)
    ·exact .inl ⟨h1.symm,h2.symm⟩
    ·exact .inr h
theorem o7:∀ (as bs:List Pl),∀ t∈List.zipWith (fun p q=>[p,q]) as bs,∃ a b,t= [a,b]
 | [],_,t,h=>by simp at h
 | _ :: _,[],t,h=>by simp at h
 | a :: as,b :: bs,t,h=>by
   rcases List.mem_cons.mp h with h | h
   ·exact ⟨a,b,h⟩
   ·exact o7 as bs t h
theorem Ch.ends {w:Way} {S st:List Pl} (C:Ch w S st) {lo hi:Pl} (hl:lo∈S) (hh:hi∈S) (h1:∀ q∈S,w.f lo≤w.f q) (h2:∀ q∈S,w.f q≤w.f hi):st.head?=some hi∧st.getLast?=some lo:=by
 obtain ⟨t,e1,e2⟩:=C.top hi hh
 obtain ⟨u,e3,e4⟩:=C.bot lo hl
 have mt:t∈S:=C.vC t (List.mem_of_mem_head? e1)
 have mu:u∈S:=C.vC u (List.mem_of_getLast? e3)
 have a1:=h2 t mt
 have a2:=h1 u mu
 rw [e1,e3,C.inj t mt hi hh (by omega),C.inj u mu lo hl (by omega)]
 exact ⟨rfl,rfl⟩
theorem iL {l:List Pl} {x:Pl} (h:l.getLast?=some x):l=l.dropLast ++ [x]:=by
 have hne:l≠[]:=fun z=>by rw [z] at h;simp at h
 rw [List.getLast?_eq_some_getLast hne] at h
 have:=List.dropLast_concat_getLast hne
 rw [Option.some.inj h] at this
 exact this.symm
theorem E6 {T H:List Pl} {lo hi a b:Pl} (t1:T.head?=some lo) (t2:T.getLast?=some hi) (h1:H.head?=some hi) (h2:H.getLast?=some lo) (hne:lo≠hi) :
 [a,b]∈List.zipWith (fun p q=>[p,q]) (T.dropLast ++ H.dropLast) ((T.dropLast ++ H.dropLast).drop 1 ++ (T.dropLast ++ H.dropLast).take 1)↔Nx T a b∨Nx H a b:=by
 have eT:=iL t2
 have eH:=iL h2
 obtain ⟨X,hX⟩:∃ X,T.dropLast=lo :: X:=by
  cases e:T.dropLast with
  | nil=>
    rw [e] at eT
    rw [eT] at t1
    exact absurd (Option.some.inj t1).symm hne
  | cons x X=>
    rw [e] at eT
    rw [eT] at t1
    exact ⟨X,by rw [Option.some.inj t1]⟩
 obtain ⟨Y,hY⟩:∃ Y,H=hi :: Y:=by
  cases e:H with
  | nil=>rw [e] at h1;cases h1
  | cons x X=>rw [e] at h1;exact ⟨X,by rw [Option.some.inj h1]⟩
 rw [hX]
 show [a,b]∈List.zipWith (fun p q=>[p,q]) (lo :: (X ++ H.dropLast)) ((X ++ H.dropLast) ++ [lo])↔_
 rw [Ac]
 have e1:lo :: (X ++ H.dropLast) ++ [lo]=(lo :: X) ++ (H.dropLast ++ [lo]):=by simp
 rw [e1,← eH]
 conv=>lhs;rw [hY,Bk,← hY]
 rw [← hX,← eT]
def Dh (a b:Pl) (ps:List Pl):Prop:= ∀ p∈ps,0≤tw a b p∧(tw a b p=0→¬ (aT (lo a b) p∧aT p (hi a b)))
theorem nW:∀ {qs:List Pl},qs.Pairwise (fun p q=>aT p q)→∀ {x y:Pl},qs.head?=some x→qs.getLast?=some y→∀ q∈qs,(q=x∨aT x q)∧(q=y∨aT q y)
 | [],_,_,_,h,_,_,_=>by cases h
 | [z],_,x,y,h1,h2,q,hq=>by
   have e1:z=x:=by simpa using h1
   have e2:z=y:=by simpa using h2
   rw [List.mem_singleton.mp hq]
   exact ⟨.inl e1,.inl e2⟩
 | z :: u :: r,hs,x,y,h1,h2,q,hq=>by
   have e1:z=x:=by simpa using h1
   have h2':(u :: r).getLast?=some y:=by simpa using h2
   have ih:=nW (List.pairwise_cons.mp hs).2 (x:=u) rfl h2'
   have hz:=(List.pairwise_cons.mp hs).1
   rcases List.mem_cons.mp hq with e | hq
   ·subst e
    refine ⟨.inl e1,.inr ?_⟩
    have hy:y∈u :: r:=List.mem_of_getLast? h2'
    exact hz y hy
   ·exact ⟨.inr (e1▸hz q hq),(ih q hq).2⟩
theorem qF {st:List Pl} {x y:Pl} (h1:st.head?=some x) (h2:st.getLast?=some y) (h:x≠y):2≤st.length:=by
 match st,h1,h2 with
 | [],h1,_=>cases h1
 | [z],h1,h2=>
   have e1:z=x:=by simpa using h1
   have e2:z=y:=by simpa using h2
   exact absurd (e1.symm.trans e2) h
 | _ :: _ :: _,_,_=>simp
theorem xC {qs:List Pl} (hs:qs.Pairwise (fun p q=>aT p q)) (hok:∀ q∈qs,q.y.natAbs < 2 ^ 140) (h2:2≤qs.length) :
 2≤((qs.foldl aV []).reverse.dropLast ++ (qs.reverse.foldl aV []).reverse.dropLast).length∧∀ a b:Pl,[a,b]∈List.zipWith (fun p q=>[p,q]) ((qs.foldl aV []).reverse.dropLast ++ (qs.reverse.foldl aV []).reverse.dropLast) (((qs.foldl aV []).reverse.dropLast ++ (qs.reverse.foldl aV []).reverse.dropLast).drop 1 ++ ((qs.foldl aV []).reverse.dropLast ++ (qs.reverse.foldl aV []).reverse.dropLast).take 1)↔a∈qs∧b∈qs∧a≠b∧Dh a b qs:=by
 have hne:qs≠[]:=fun z=>by rw [z] at h2;simp at h2
 obtain ⟨x,hx⟩:∃ x,qs.head?=some x:=by
  cases e:qs with
  | nil=>exact absurd e hne
  | cons x r=>exact ⟨x,rfl⟩
 obtain ⟨y,hy⟩:∃ y,qs.getLast?=some y:=⟨_,List.getLast?_eq_some_getLast hne⟩
 have mx:x∈qs:=List.mem_of_mem_head? hx
 have my:y∈qs:=List.mem_of_getLast? hy
 have hend:=nW hs hx hy
 have be:∀ p∈qs,∀ q∈qs,(aT p q↔jv.f p < jv.f q):=fun p hp q hq=>um (hok p hp) (hok q hq)
 have bw:∀ p∈qs,∀ q∈qs,(aT p q↔sd.f q < sd.f p):=fun p hp q hq=>by
  rw [be p hp q hq,iP,iP]
  omega
 have xy:x≠y:=by
  intro e
  cases e1:qs with
  | nil=>exact absurd e1 hne
  | cons u r=>
    cases r with
    | nil=>rw [e1] at h2;simp at h2
    | cons v r=>
      rw [e1] at hx hy hs
      have eu:u=x:=by simpa using hx
      have PX:y∈v :: r:=List.mem_of_getLast? (by simpa using hy)
      have:=(List.pairwise_cons.mp hs).1 y PX
      rw [eu,e] at this
      exact bL _ this
 have C1:Ch jv qs (qs.foldl aV []):=qB hne (hs.imp_of_mem fun hp hq h=>(be _ hp _ hq).mp h)
 have C2:Ch sd qs.reverse (qs.reverse.foldl aV []):=qB (by simpa using hne) (List.pairwise_reverse.mpr (hs.imp_of_mem fun hp hq h=>(bw _ hp _ hq).mp h))
 have key:∀ p∈qs,∀ q∈qs,(p=q∨aT p q)→jv.f p≤jv.f q∧sd.f q≤sd.f p:=fun p hp q hq k=>by
  rcases k with rfl | k
  ·exact ⟨Int.le_refl _,Int.le_refl _⟩
  ·have a1:=(be p hp q hq).mp k
   have a2:=(bw p hp q hq).mp k
   omega
 obtain ⟨p1,p2⟩:=C1.ends mx my (fun q hq=>(key x mx q hq ((hend q hq).1.imp Eq.symm id)).1) (fun q hq=>(key q hq y my (hend q hq).2).1)
 obtain ⟨r1,r2⟩:=C2.ends (lo:=y) (hi:=x) (by simpa using my) (by simpa using mx) (fun q hq=>by have hq:=List.mem_reverse.mp hq;exact (key q hq y my (hend q hq).2).2) (fun q hq=>by have hq:=List.mem_reverse.mp hq;exact (key x mx q hq ((hend q hq).1.imp Eq.symm id)).2)
 refine ⟨?_,fun a b=>?_⟩
 ·have l1:=qF p1 p2 (Ne.symm xy)
  have l2:=qF r1 r2 xy
  rw [List.length_append,List.length_dropLast,List.length_dropLast,List.length_reverse,List.length_reverse]
  omega
 rw [E6 (lo:=x) (hi:=y) (by rw [List.head?_reverse];exact p2) (by rw [List.getLast?_reverse];exact p1) (by rw [List.head?_reverse];exact r2) (by rw [List.getLast?_reverse];exact r1) xy,← qE,← qE,l0 C1,l0 C2]
 constructor
 ·rintro (⟨ha,hb,hab,he⟩ | ⟨ha,hb,hab,he⟩)
  ·have Bl:=(be a ha b hb).mpr hab
   refine ⟨ha,hb,AX Bl,fun p hp=>⟨(he p hp).1,fun z=>?_⟩⟩
   unfold lo hi
   rw [if_neg (eg Bl),if_pos Bl,be a ha p hp,be p hp b hb]
   exact (he p hp).2 z
  ·have ha:=List.mem_reverse.mp ha
   have hb:=List.mem_reverse.mp hb
   have Bl:=(bw b hb a ha).mpr hab
   refine ⟨ha,hb,(AX Bl).symm,fun p hp=>?_⟩
   have QJ:=he p (List.mem_reverse.mpr hp)
   refine ⟨QJ.1,fun z=>?_⟩
   unfold lo hi
   rw [if_pos Bl,if_neg (eg Bl),bw b hb p hp,bw p hp a ha]
   exact fun k=>QJ.2 z ⟨k.2,k.1⟩
 ·rintro ⟨ha,hb,hab,he⟩
  rcases er a b with k | k | k
  ·refine .inl ⟨ha,hb,(be a ha b hb).mp k,fun p hp=>⟨(he p hp).1,fun z=>?_⟩⟩
   have:=(he p hp).2 z
   unfold lo hi at this
   rw [if_neg (eg k),if_pos k,be a ha p hp,be p hp b hb] at this
   exact this
  ·exact absurd k hab
  ·refine .inr ⟨List.mem_reverse.mpr ha,List.mem_reverse.mpr hb,(bw b hb a ha).mp k,fun p hp=>?_⟩
   have hp:=List.mem_reverse.mp hp
   refine ⟨(he p hp).1,fun z=>?_⟩
   have:=(he p hp).2 z
   unfold lo hi at this
   rw [if_pos k,if_neg (eg k),bw b hb p hp,bw p hp a ha] at this
   exact fun y=>this ⟨y.2,y.1⟩
end L3
namespace L3
theorem yk:∀ (l:List Pl),l≠[]→∃ m∈l,∀ z∈l,¬ aT z m
 | [],e=>absurd rfl e
 | [p],_=>⟨p,by simp,fun z hz=>by rw [List.mem_singleton.mp hz];exact bL _⟩
 | p :: q :: l,_=>by
   obtain ⟨m,hm,k⟩:=yk (q :: l) (by simp)
   by_cases c:aT p m
   ·exact ⟨p,by simp,fun z hz=>by
     rcases List.mem_cons.mp hz with rfl | hz
     ·exact bL _
     ·exact fun y=>k z hz (b9 y c)⟩
   ·exact ⟨m,List.mem_cons_of_mem _ hm,fun z hz=>by
     rcases List.mem_cons.mp hz with rfl | hz
     ·exact c
     ·exact k z hz⟩
theorem Cu:∀ (l:List Pl),l≠[]→∃ m∈l,∀ z∈l,¬ aT m z
 | [],e=>absurd rfl e
 | [p],_=>⟨p,by simp,fun z hz=>by rw [List.mem_singleton.mp hz];exact bL _⟩
 | p :: q :: l,_=>by
   obtain ⟨m,hm,k⟩:=Cu (q :: l) (by simp)
   by_cases c:aT m p
   ·exact ⟨p,by simp,fun z hz=>by
     rcases List.mem_cons.mp hz with rfl | hz
     ·exact bL _
     ·exact fun y=>k z hz (b9 c y)⟩
   ·exact ⟨m,List.mem_cons_of_mem _ hm,fun z hz=>by
     rcases List.mem_cons.mp hz with rfl | hz
     ·exact c
     ·exact k z hz⟩
theorem E7 {ps qs:List Pl} {a b:Pl} (h:qs.Perm ps):Dh a b qs↔Dh a b ps:=⟨fun k p hp=>k p (h.mem_iff.mpr hp),fun k p hp=>k p (h.mem_iff.mp hp)⟩
theorem Bm {ps:List Pl} (h:ps.length < 2):Flat ps:=by
 match ps,h with
 | [],_=>exact fun p hp=>by cases hp
 | [x],_=>
   intro p hp q hq r hr
   rw [List.mem_singleton.mp hp,List.mem_singleton.mp hq,List.mem_singleton.mp hr]
   exact nN x x
theorem rz {qs:List Pl} (hs:qs.Pairwise (fun a b=> ¬ aT b a)) (nd:qs.Nodup):qs.Pairwise (fun p q=>aT p q):=by
 refine (hs.and nd).imp fun {a b} h=>?_
 rcases er a b with k | k | k
 ·exact k
 ·exact absurd k h.2
 ·exact absurd k h.1
end L3
namespace L3
open PySem L2
def Tr (t:List Pl):Prop:= ∃ a b c:Pl,t= [a,b,c]∧a.Ok 140∧b.Ok 140∧c.Ok 140
def kT:List Pl→Prop
 | [a,b,c]=>(¬ aT b a∧¬ aT c a)∧0 < tw a b c
 | _=>False
def Bo:List Pl→List (List Pl)
 | [a,b,c]=>[[a,b],[b,c],[c,a]]
 | _=>[]
def dc (ts:List (List Pl)):List (List Pl):=ts.flatMap Bo
def Fs {α:Type} (ts:List α) (P:α→Prop):Option α→Prop
 | none=> ∀ t∈ts,¬ P t
 | some t=> ∃ i:Nat,ts[i]?=some t∧P t∧∀ (j:Nat) (u:α),j < i→ts[j]?=some u→¬ P u
def oT:Option (List Pl)→D
 | none=> .bK
 | some t=>tD t
def oP:Option Pl→D
 | none=> .bK
 | some p=>p.d
theorem Fs.uniq {α:Type} {ts:List α} {P P':α→Prop} {r r':Option α} (h:Fs ts P r) (h':Fs ts P' r') (e:∀ t∈ts,(P t↔P' t)):r=r':=by
 cases r with
 | none=>
   cases r' with
   | none=>rfl
   | some t=>
     obtain ⟨i,h1,h2,_⟩:=h'
     have m:=List.mem_of_getElem? h1
     exact absurd ((e t m).mpr h2) (h t m)
 | some t=>
   obtain ⟨i,h1,h2,h3⟩:=h
   have m:=List.mem_of_getElem? h1
   cases r' with
   | none=>exact absurd ((e t m).mp h2) (h' t m)
   | some u=>
     obtain ⟨j,k1,k2,k3⟩:=h'
     have m2:=List.mem_of_getElem? k1
     have:i=j:=by
      rcases Nat.lt_trichotomy i j with q | q | q
      ·exact absurd ((e t m).mp h2) (k3 i t q h1)
      ·exact q
      ·exact absurd ((e u m2).mpr k2) (h3 j u q k1)
     subst this
     rw [h1] at k1
     exact k1
def pB (W:List Pl→Prop):Option (List Pl)→Prop
 | none=> ∀ w,¬ W w
 | some m=>W m∧∀ z,W z→dJ z m=false
theorem pB.uniq {W W':List Pl→Prop} {r r':Option (List Pl)} (h:pB W r) (h':pB W' r') (e:∀ w,W w↔W' w):r=r':=by
 cases r with
 | none=>
   cases r' with
   | none=>rfl
   | some m=>exact absurd ((e m).mpr h'.1) (h m)
 | some m=>
   cases r' with
   | none=>exact absurd ((e m).mp h.1) (h' m)
   | some n=>
     rcases qw m n with k | k | k
     ·rw [h'.2 m ((e m).mp h.1)] at k;cases k
     ·rw [k]
     ·rw [h.2 n ((e n).mpr h'.1)] at k;cases k
def rA (W:Pl→Prop):Option Pl→Prop
 | none=> ∀ w,¬ W w
 | some m=>W m∧∀ z,W z→¬ aT z m
theorem rA.uniq {W W':Pl→Prop} {r r':Option Pl} (h:rA W r) (h':rA W' r') (e:∀ w,W w↔W' w):r=r':=by
 cases r with
 | none=>
   cases r' with
   | none=>rfl
   | some m=>exact absurd ((e m).mpr h'.1) (h m)
 | some m=>
   cases r' with
   | none=>exact absurd ((e m).mp h.1) (h' m)
   | some n=>
     rcases er m n with k | k | k
     ·exact absurd k (h'.2 m ((e m).mp h.1))
     ·rw [k]
     ·exact absurd k (h.2 n ((e n).mpr h'.1))
theorem xD {ts:List (List Pl)} {i:Nat} {t:List Pl} (h:ts[i]?=some t):dc (ts.take (i+1))=dc (ts.take i) ++ Bo t:=by
 unfold dc
 rw [List.take_succ,h,List.flatMap_append]
 simp
theorem E8 (t:List Pl):(Bo t).length≤3:=by
 unfold Bo
 split <;> simp
theorem kU:∀ (ts:List (List Pl)),(dc ts).length≤3*ts.length
 | []=>by simp [dc]
 | t :: ts=>by
   have h1:=kU ts
   have h2:=E8 t
   show (Bo t ++ dc ts).length≤_
   rw [List.length_append,List.length_cons]
   omega
theorem E9 (t:List Pl):∀ w∈Bo t,∃ a b,w= [a,b]∧a∈t∧b∈t:=by
 intro w hw
 unfold Bo at hw
 split at hw
 ·rename_i a b c
  simp only [List.mem_cons,List.not_mem_nil,or_false] at hw
  rcases hw with rfl | rfl | rfl
  ·exact ⟨a,b,rfl,by simp,by simp⟩
  ·exact ⟨b,c,rfl,by simp,by simp⟩
  ·exact ⟨c,a,rfl,by simp,by simp⟩
 ·cases hw
theorem nX {ts:List (List Pl)}:∀ w∈dc ts,∃ a b,w= [a,b]∧∃ t∈ts,a∈t∧b∈t:=by
 intro w hw
 obtain ⟨t,ht,hw⟩:=List.mem_flatMap.mp hw
 obtain ⟨a,b,e,h1,h2⟩:=E9 t w hw
 exact ⟨a,b,e,t,ht,h1,h2⟩
theorem Bp (s t:List Pl):dQ (tD s) (tD t)=decide (s=t):=by
 unfold tD
 rw [lR]
 induction s generalizing t with
 | nil=>
   cases t with
   | nil=>rfl
   | cons q t=>simp [ee]
 | cons p s ih=>
   cases t with
   | nil=>simp [ee]
   | cons q t=>
     rw [List.map_cons,List.map_cons,kM,cL,ih,Bool.eq_iff_iff]
     simp
theorem qG (t:List Pl) (ts:List (List Pl)):inD (tD t) (ts.map tD)=decide (t∈ts):=by
 rw [Bool.eq_iff_iff,decide_eq_true_iff]
 unfold inD
 rw [List.any_eq_true]
 constructor
 ·rintro ⟨d,hd,e⟩
  obtain ⟨u,hu,rfl⟩:=List.mem_map.mp hd
  rw [Bp,decide_eq_true_iff] at e
  rw [← e]
  exact hu
 ·intro h
  exact ⟨tD t,List.mem_map.mpr ⟨t,h,rfl⟩,by rw [Bp];simp⟩
theorem xE (w:List Pl) (ws:List (List Pl)):(ws.map tD).countP (fun y=>dQ y (tD w))=ws.count w:=by
 rw [List.countP_map]
 unfold List.count
 refine List.countP_congr fun x _=>?_
 simp only [Function.comp,Bp,decide_eq_true_eq,beq_iff_eq]
def FY (ws:List (List Pl)) (w:List Pl):Prop:=w∈ws∧1 < ws.count w
def HB (ws bs:List (List Pl)) (w:List Pl):Prop:=(w∈ws∧w.reverse∉ws∧w∉bs)∨(w∈bs∧w∉ws)
def HC (ps:List Pl) (ts:List (List Pl)) (p:Pl):Prop:=p∈ps∧∀ t∈ts,p∉t
def Bq (t:List Pl) (d:Pl):Prop:=match t with
 | [a,b,c]=>pq a b c d
 | _=>False
theorem ym {ws:List (List Pl)} {W:List Pl→Prop} (e:∀ w,w∈ws↔W w):(ws= []→pB W none)∧∀ m∈ws,(∀ z∈ws,dJ z m=false)→pB W (some m):=
 ⟨(fun h w hw=>by have:=(e w).mpr hw;rw [h] at this;cases this),fun m mm lm=>⟨(e m).mp mm,fun z hz=>lm z ((e z).mpr hz)⟩⟩
theorem Cv {ws:List Pl} {W:Pl→Prop} (e:∀ w,w∈ws↔W w):(ws= []→rA W none)∧∀ m∈ws,(∀ z∈ws,¬ aT z m)→rA W (some m):=
 ⟨(fun h w hw=>by have:=(e w).mpr hw;rw [h] at this;cases this),fun m mm lm=>⟨(e m).mp mm,fun z hz=>lm z ((e z).mpr hz)⟩⟩
theorem o8 (w:List Pl):plain 9 (tD w)=true:=List.all_eq_true.mp (bq [w]) _ (by simp)
theorem Di {ts:List (List Pl)} {i:Nat} {t:List Pl} (h:ts[i]?=some t):(ts.take (i+1)).flatten=(ts.take i).flatten ++ t:=by
 rw [List.take_succ,h,List.flatten_append]
 simp
theorem Fb {ts:List (List Pl)} (h:∀ t∈ts,t.length=3):∀ i,(ts.take i).flatten.length≤3*ts.length:=fun i=>by
 have key:∀ us:List (List Pl),(∀ t∈us,t.length=3)→us.flatten.length=3*us.length:=fun us hu=>by
  induction us with
  | nil=>rfl
  | cons u us ih=>rw [List.flatten_cons,List.length_append,ih fun t ht=>hu t (List.mem_cons_of_mem _ ht),hu u (List.mem_cons_self ..),List.length_cons];omega
 rw [key _ fun t ht=>h t (List.mem_of_mem_take ht),List.length_take]
 omega
def IE (ts:List (List Pl)) (ps:List Pl):Option (List Pl ×Pl)→Prop
 | none=> ∀ t∈ts,∀ d∈ps,¬ Bq t d
 | some (t,d)=>Fs ts (fun t=> ∃ d∈ps,Bq t d) (some t)∧rA (fun d=>d∈ps∧Bq t d) (some d)
def oS:Option (List Pl ×Pl)→D
 | none=> .bK
 | some (t,d)=> .tup [.str (Str.ofString "spoilt"),tD t,d.d]
inductive Flt where
 | uu (t:List Pl) | flat (t:List Pl) | l5 (w:List Pl) | bare (w:List Pl) | nY (p:Pl) | rB (t:List Pl) (d:Pl)
def fD:Option Flt→D
 | none=> .bK
 | some (.uu t)=> .tup [.str (Str.ofString "alien"),tD t]
 | some (.flat t)=> .tup [.str (Str.ofString "flat"),tD t]
 | some (.l5 w)=> .tup [.str (Str.ofString "double"),tD w]
 | some (.bare w)=> .tup [.str (Str.ofString "bare"),tD w]
 | some (.nY p)=> .tup [.str (Str.ofString "lonely"),p.d]
 | some (.rB t d)=> .tup [.str (Str.ofString "spoilt"),tD t,d.d]
def Ng (ps:List Pl) (ts bs:List (List Pl)) (r:Option Flt):Prop:=
 ∃ (d b:Option (List Pl)) (l:Option Pl),pB (FY (dc ts)) d∧(d=none→pB (HB (dc ts) bs) b)∧(d=none→b=none→rA (HC ps ts) l)∧
   r=match d,b,l with
    | some w,_,_=>some (.l5 w)
    | none,some w,_=>some (.bare w)
    | none,none,some p=>some (.nY p)
    | none,none,none=>none
def Br (ps:List Pl) (ts bs:List (List Pl)) (r:Option Flt):Prop:=
 ∃ (al fl:Option (List Pl)),Fs ts (fun t=> ∃ q∈t,q∉ps) al∧(al=none→Fs ts (fun t=> ¬ kT t) fl)∧
   match al,fl with
   | some t,_=>r=some (.uu t)
   | none,some t=>r=some (.flat t)
   | none,none=>(Flat ps→r=none)∧(¬ Flat ps→∃ (cf:Option Flt) (sp:Option (List Pl ×Pl)),Ng ps ts bs cf∧(cf=none→IE ts ps sp)∧r=match cf,sp with
     | some f,_=>some f
     | none,some (t,d)=>some (.rB t d)
     | none,none=>none)
def Ae (ps t:List Pl):Prop:=qz t∧∀ q∈t,q∈ps
theorem Ae.tr {ps t:List Pl} (h:Ae ps t) (ho:∀ q∈ps,q.Ok 140):Tr t:=by
 obtain ⟨⟨u,v,w,rfl,_⟩,h2⟩:=h
 exact ⟨u,v,w,rfl,ho u (h2 u (by simp)),ho v (h2 v (by simp)),ho w (h2 w (by simp))⟩
def Ky (ps:List Pl) (ts:List (List Pl)) (r:Option Flt):Prop:=
 ∃ (al fl:Option (List Pl)),Fs ts (fun t=> ∃ q∈t,q∉ps) al∧(al=none→Fs ts (fun t=> ¬ kT t) fl)∧r=match al,fl with
   | some t,_=>some (.uu t)
   | none,some t=>some (.flat t)
   | none,none=>none
def Kz (ps:List Pl) (ts:List (List Pl)) (r:Option Flt):Prop:=
 ∃ (l:Option Pl) (sp:Option (List Pl ×Pl)),rA (HC ps ts) l∧((l=none∨Flat ps)→IE ts ps sp)∧((Flat ps∨l=none)→r=match sp with
   | some (t,d)=>some (.rB t d)
   | none=>none)∧(¬ Flat ps→∀ p,l=some p→r=some (.nY p))
def Cw (ps:List Pl) (ws:List (List Pl)) (w:List Pl):Prop:= ∃ a b:Pl,w= [a,b]∧a∈ps∧b∈ps∧((([b,a]∉ws∧[a,b]∈ws)∧¬ (a≠b∧Dh a b ps))∨([a,b]∉ws∧(a≠b∧Dh a b ps)))
def KA (ps:List Pl) (ts:List (List Pl)) (r:Option Flt):Prop:=
 ∃ (d b:Option (List Pl)),pB (FY (dc ts)) d∧(d=none→¬ Flat ps→pB (Cw ps (dc ts)) b)∧(∀ w,d=some w→r=some (.l5 w))∧(d=none→Flat ps→r=none)∧(d=none→¬ Flat ps→r=b.map .bare)
theorem IE.uniq {ts:List (List Pl)} {ps:List Pl} {r r':Option (List Pl ×Pl)} (h:IE ts ps r) (h':IE ts ps r'):r=r':=by
 cases r with
 | none=>
   cases r' with
   | none=>rfl
   | some td=>
     obtain ⟨t,d⟩:=td
     obtain ⟨⟨i,e,⟨x,hx,k⟩,_⟩,_⟩:=h'
     exact absurd k (h t (List.mem_of_getElem? e) x hx)
 | some td=>
   obtain ⟨t,d⟩:=td
   cases r' with
   | none=>
     obtain ⟨⟨i,e,⟨x,hx,k⟩,_⟩,_⟩:=h
     exact absurd k (h' t (List.mem_of_getElem? e) x hx)
   | some ud=>
     obtain ⟨u,e⟩:=ud
     have e1:=Option.some.inj (Fs.uniq h.1 h'.1 fun _ _=>Iff.rfl)
     subst e1
     have e2:=Option.some.inj (rA.uniq h.2 h'.2 fun _=>Iff.rfl)
     subst e2
     rfl
theorem Af {ps qs:List Pl} {ts:List (List Pl)} {r c s p:Option Flt} (hq:qs.Perm ps) (hs:qs.Pairwise (fun p q=> ¬ aT q p)) (nd:ps.Nodup) (ho:∀ q∈ps,q.Ok 140) (h:Br ps ts (aX (dm qs)) r) (h1:Ky ps ts c) (h2:c=none→KA ps ts s) (h3:c=none→s=none→Kz ps ts p):r=c.or (s.or p):=by
 obtain ⟨al,fl,a1,a2,a3⟩:=h
 obtain ⟨al',RU,b1,b2,b3⟩:=h1
 have e1:al=al':=Fs.uniq a1 b1 fun _ _=>Iff.rfl
 subst e1
 cases al with
 | some t=>
   have a3:r=some (.uu t):=a3
   have b3:c=some (.uu t):=b3
   rw [a3,b3]
   rfl
 | none=>
   have e2:fl=RU:=Fs.uniq (a2 rfl) (b2 rfl) fun _ _=>Iff.rfl
   subst e2
   cases fl with
   | some t=>
     have a3:r=some (.flat t):=a3
     have b3:c=some (.flat t):=b3
     rw [a3,b3]
     rfl
   | none=>
     have b3:c=none:=b3
     subst b3
     have h2:=h2 rfl
     have h3:=h3 rfl
     obtain ⟨a3,a4⟩:=a3
     have f1:=a2 rfl
     have vC:∀ t∈ts,∀ q∈t,q∈ps:=fun t ht q hq=>Classical.byContradiction fun z=>a1 t ht ⟨q,hq,z⟩
     obtain ⟨d',b',c1,c2,c3,c4,c5⟩:=h2
     by_cases fl:Flat ps
     ·have e0:ts= []:=by
       cases e:ts with
       | nil=>rfl
       | cons t us=>
         have mt:t∈ts:=by rw [e];simp
         have tt:kT t:=Classical.byContradiction fun z=>f1 t mt z
         unfold kT at tt
         split at tt
         ·rename_i x y z
          have:=fl x (vC _ mt x (by simp)) y (vC _ mt y (by simp)) z (vC _ mt z (by simp))
          omega
         ·exact tt.elim
      subst e0
      rw [a3 fl]
      have ed:d'=none:=by
       cases d' with
       | none=>rfl
       | some w=>exact absurd c1.1.1 (by simp [dc])
      have es:=c4 ed fl
      subst es
      obtain ⟨l,sp,k1,k2,k3,k4⟩:=h3 rfl
      have RV:sp=none:=by
       cases sp with
       | none=>rfl
       | some td=>
         obtain ⟨t,d⟩:=td
         obtain ⟨⟨i,e,_⟩,_⟩:=k2 (.inr fl)
         cases e
      subst RV
      rw [k3 (.inl fl)]
      rfl
     ·obtain ⟨cf,sp,⟨d,b,l,d1,d2,d3,d4⟩,d5,d6⟩:=a4 fl
      have ed:d=d':=pB.uniq d1 c1 fun _=>Iff.rfl
      subst ed
      cases d with
      | some w=>
        have d4:cf=some (.l5 w):=d4
        subst d4
        have d6:r=some (.l5 w):=d6
        rw [d6,c3 w rfl]
        rfl
      | none=>
        have l2:2≤qs.length:=by
         rw [hq.length_eq]
         exact Classical.byContradiction fun z=>fl (Bm (by omega))
        obtain ⟨lb,char⟩:=xC (rz hs (hq.nodup_iff.mpr nd)) (fun q k=>(ho q (hq.mem_iff.mp k)).2) l2
        have es:aX (dm qs)=List.zipWith (fun p q=>[p,q]) ((qs.foldl aV []).reverse.dropLast ++ (qs.reverse.foldl aV []).reverse.dropLast) (((qs.foldl aV []).reverse.dropLast ++ (qs.reverse.foldl aV []).reverse.dropLast).drop 1 ++ ((qs.foldl aV []).reverse.dropLast ++ (qs.reverse.foldl aV []).reverse.dropLast).take 1):=by
         unfold dm
         rw [if_neg (by omega)]
         unfold aX
         rw [if_neg (by omega)]
        have Cy:∀ a b:Pl,[a,b]∈aX (dm qs)↔a∈ps∧b∈ps∧a≠b∧Dh a b ps:=fun a b=>by
         rw [es,char,hq.mem_iff,hq.mem_iff,E7 hq]
        have two:∀ w∈aX (dm qs),∃ a b,w= [a,b]:=fun w hw=>by
         rw [es] at hw
         exact o7 _ _ _ hw
        have eb:b=b':=pB.uniq (d2 rfl) (c2 rfl fl) fun w=>by
         constructor
         ·rintro (⟨k1,k2,k3⟩ | ⟨k1,k2⟩)
          ·obtain ⟨x,y,rfl,t,ht,mx,my⟩:=nX w k1
           exact ⟨x,y,rfl,vC t ht x mx,vC t ht y my,.inl ⟨⟨k2,k1⟩,fun z=>k3 ((Cy x y).mpr ⟨vC t ht x mx,vC t ht y my,z⟩)⟩⟩
          ·obtain ⟨x,y,rfl⟩:=two w k1
           obtain ⟨m1,m2,m3⟩:=(Cy x y).mp k1
           exact ⟨x,y,rfl,m1,m2,.inr ⟨k2,m3⟩⟩
         ·rintro ⟨x,y,rfl,m1,m2,⟨⟨k1,k2⟩,k3⟩ | ⟨k1,k2⟩⟩
          ·exact .inl ⟨k2,k1,fun z=>k3 ((Cy x y).mp z).2.2⟩
          ·exact .inr ⟨(Cy x y).mpr ⟨m1,m2,k2⟩,k1⟩
        subst eb
        have NQ:=c5 rfl fl
        cases b with
        | some w=>
          have d4:cf=some (.bare w):=d4
          subst d4
          have d6:r=some (.bare w):=d6
          rw [d6,NQ]
          rfl
        | none=>
          have NQ:s=none:=NQ
          subst NQ
          obtain ⟨l',RW,k1,k2,k3,k4⟩:=h3 rfl
          have el:l=l':=rA.uniq (d3 rfl rfl) k1 fun _=>Iff.rfl
          subst el
          cases l with
          | some q=>
            have d4:cf=some (.nY q):=d4
            subst d4
            have d6:r=some (.nY q):=d6
            rw [d6,k4 fl q rfl]
            rfl
          | none=>
            have d4:cf=none:=d4
            subst d4
            have e3:sp=RW:=IE.uniq (d5 rfl) (k2 (.inl rfl))
            subst e3
            rw [k3 (.inr rfl)]
            cases sp with
            | none=>exact d6
            | some td=>exact d6
theorem Bt {t:List Pl} (h:t.length≤1000):pY 3 (tD t)=true:=by
 show (decide ((t.map Pl.d).length≤1000) && (t.map Pl.d).all (pY 2))=true
 rw [List.length_map,decide_eq_true h,Bool.true_and,List.all_map,List.all_eq_true]
 intro p _
 rfl
theorem rC {b w:List Pl} (h:w∈aX b):w.length≤1000:=by
 unfold aX at h
 split at h
 ·cases h
 ·obtain ⟨x,y,rfl⟩:=o7 _ _ _ h
  exact Nat.le_of_ble_eq_true rfl
theorem Fc {ps b:List Pl} {ts:List (List Pl)} {r:Option Flt} (h:Br ps ts (aX b) r) (hts:∀ t∈ts,Tr t):pY 4 (fD r)=true:=by
 have l3:∀ t∈ts,pY 3 (tD t)=true:=fun t ht=>by
  obtain ⟨x,y,z,rfl,_⟩:=hts t ht
  exact Bt (Nat.le_of_ble_eq_true rfl)
 have l2:∀ w∈dc ts,w.length≤1000:=fun w hw=>by
  obtain ⟨x,y,rfl,_⟩:=nX w hw
  exact Nat.le_of_ble_eq_true rfl
 have two:∀ (s:Str) (d:D),pY 3 d=true→pY 4 (.tup [.str s,d])=true:=fun s d e=>by
  show (true && (true && (pY 3 d && true)))=true
  rw [e];rfl
 have three:∀ (s:Str) (d e:D),pY 3 d=true→pY 3 e=true→pY 4 (.tup [.str s,d,e])=true:=fun s d e e1 e2=>by
  show (true && (true && (pY 3 d && (pY 3 e && true))))=true
  rw [e1,e2];rfl
 obtain ⟨al,fl,a1,a2,a3⟩:=h
 cases al with
 | some t=>
   have a3:r=some (.uu t):=a3
   obtain ⟨i,e,_⟩:=a1
   rw [a3]
   exact two _ _ (l3 t (List.mem_of_getElem? e))
 | none=>
   cases fl with
   | some t=>
     have a3:r=some (.flat t):=a3
     obtain ⟨i,e,_⟩:=a2 rfl
     rw [a3]
     exact two _ _ (l3 t (List.mem_of_getElem? e))
   | none=>
     obtain ⟨a3,a4⟩:=a3
     by_cases f:Flat ps
     ·rw [a3 f];rfl
     ·obtain ⟨cf,sp,⟨d,b,l,d1,d2,d3,d4⟩,d5,d6⟩:=a4 f
      cases d with
      | some w=>
        have d4:cf=some (.l5 w):=d4
        subst d4
        have d6:r=some (.l5 w):=d6
        rw [d6]
        exact two _ _ (Bt (l2 w d1.1.1))
      | none=>
        cases b with
        | some w=>
          have d4:cf=some (.bare w):=d4
          subst d4
          have d6:r=some (.bare w):=d6
          rw [d6]
          refine two _ _ (Bt ?_)
          rcases (d2 rfl).1 with k | k
          ·exact l2 w k.1
          ·exact rC k.1
        | none=>
          cases l with
          | some q=>
            have d4:cf=some (.nY q):=d4
            subst d4
            have d6:r=some (.nY q):=d6
            rw [d6]
            rfl
          | none=>
            have d4:cf=none:=d4
            subst d4
            cases sp with
            | none=>
              have d6:r=none:=d6
              rw [d6];rfl
            | some td=>
              obtain ⟨t,d⟩:=td
              have d6:r=some (.rB t d):=d6
              rw [d6]
              obtain ⟨⟨i,e,_⟩,_⟩:=d5 rfl
              exact three _ _ _ (l3 t (List.mem_of_getElem? e)) rfl
theorem Fd {a b c m:Pl} (mm:m∈[a,b,c]) (lm:∀ z∈[a,b,c],¬ aT z m):a=m↔(¬ aT b a∧¬ aT c a):=by
 constructor
 ·rintro rfl
  exact ⟨lm b (by simp),lm c (by simp)⟩
 ·rintro ⟨h1,h2⟩
  simp only [List.mem_cons,List.not_mem_nil,or_false] at mm
  have ha:=lm a (by simp)
  rcases mm with rfl | rfl | rfl
  ·rfl
  ·rcases er a m with k | k | k
   ·exact absurd k ha
   ·exact k
   ·exact absurd k h1
  ·rcases er a m with k | k | k
   ·exact absurd k ha
   ·exact k
   ·exact absurd k h2
end L3
namespace L3
def prs:List Pl→List (List Pl)
 | x :: y :: r=>[x,y] :: prs (y :: r)
 | _=>[]
theorem Cz (h:Pl) (r:List Pl):∀ X:List Pl,prs (X ++ h :: r)=prs (X ++ [h]) ++ prs (h :: r)
 | []=>rfl
 | [x]=>rfl
 | x :: y :: X=>by
   have ih:=Cz h r (y :: X)
   show [x,y] :: prs (y :: X ++ h :: r)= [x,y] :: prs (y :: X ++ [h]) ++ prs (h :: r)
   rw [ih]
   rfl
theorem CA:∀ (x:Pl) (r:List Pl) (z:Pl),List.zipWith (fun p q=>[p,q]) (x :: r) (r ++ [z])=prs (x :: r ++ [z])
 | x,[],z=>rfl
 | x,y :: r,z=>by
   show [x,y] :: List.zipWith (fun p q=>[p,q]) (y :: r) (r ++ [z])= [x,y] :: prs (y :: r ++ [z])
   rw [CA y r z]
theorem sY:∀ l:List Pl,(prs l).length=l.length - 1
 | []=>rfl
 | [_]=>rfl
 | x :: y :: r=>by
   show (prs (y :: r)).length+1=_
   rw [sY (y :: r)]
   simp
theorem Bu:∀ (l:List Pl) (w:List Pl),w∈prs l→∃ a b,w= [a,b]∧Nx l a b
 | [],_,h=>by cases h
 | [_],_,h=>by cases h
 | x :: y :: r,w,h=>by
   rcases List.mem_cons.mp h with h | h
   ·exact ⟨x,y,h,.inl ⟨rfl,rfl⟩⟩
   ·obtain ⟨a,b,e,k⟩:=Bu (y :: r) w h
    exact ⟨a,b,e,.inr k⟩
theorem Bv:∀ (l:List Pl) (a b:Pl),Nx l a b→[a,b]∈prs l
 | [],_,_,h=>h.elim
 | [_],_,_,h=>h.elim
 | x :: y :: r,a,b,h=>by
   rcases h with ⟨rfl,rfl⟩ | h
   ·exact List.mem_cons_self ..
   ·exact List.mem_cons_of_mem _ (Bv (y :: r) a b h)
theorem Dj {T H:List Pl} {lo hi:Pl} (t1:T.head?=some lo) (t2:T.getLast?=some hi) (h1:H.head?=some hi) (h2:H.getLast?=some lo) (hne:lo≠hi) :
 List.zipWith (fun p q=>[p,q]) (T.dropLast ++ H.dropLast) ((T.dropLast ++ H.dropLast).drop 1 ++ (T.dropLast ++ H.dropLast).take 1)=prs T ++ prs H:=by
 have eT:=iL t2
 have eH:=iL h2
 obtain ⟨X,hX⟩:∃ X,T.dropLast=lo :: X:=by
  cases e:T.dropLast with
  | nil=>
    rw [e] at eT
    rw [eT] at t1
    exact absurd (Option.some.inj t1).symm hne
  | cons x X=>
    rw [e] at eT
    rw [eT] at t1
    exact ⟨X,by rw [Option.some.inj t1]⟩
 obtain ⟨Y,hY⟩:∃ Y,H=hi :: Y:=by
  cases e:H with
  | nil=>rw [e] at h1;cases h1
  | cons x X=>rw [e] at h1;exact ⟨X,by rw [Option.some.inj h1]⟩
 rw [hX]
 show List.zipWith (fun p q=>[p,q]) (lo :: (X ++ H.dropLast)) ((X ++ H.dropLast) ++ [lo])=_
 rw [CA]
 have e1:lo :: (X ++ H.dropLast) ++ [lo]=(lo :: X) ++ (H.dropLast ++ [lo]):=by simp
 rw [e1,← eH]
 conv=>lhs;rw [hY,Cz,← hY]
 rw [← hX,← eT]
theorem yo {v z:Pl}:∀ {l:List Pl},v∈l→l.getLast?=some z→v≠z→∃ b,Nx l v b
 | [],h,_,_=>by cases h
 | [x],h,e,n=>by
   have:x=z:=by simpa using e
   rw [List.mem_singleton.mp h] at n
   exact absurd this n
 | x :: y :: r,h,e,n=>by
   rcases List.mem_cons.mp h with h | h
   ·exact ⟨y,.inl ⟨h.symm,rfl⟩⟩
   ·obtain ⟨b,k⟩:=yo h (by simpa using e) n
    exact ⟨b,.inr k⟩
theorem IF {z:Pl}:∀ {l:List Pl},l.getLast?=some z→2≤l.length→∃ e,Nx l e z
 | [],_,h=>by simp at h
 | [_],_,h=>by simp at h
 | [x,y],e,_=>⟨x,.inl ⟨rfl,by simpa using e⟩⟩
 | x :: y :: u :: r,e,_=>by
   obtain ⟨e',k⟩:=IF (l:=y :: u :: r) (by simpa using e) (by simp)
   exact ⟨e',.inr k⟩
theorem xF (f:Pl→Bool):∀ l:List Pl,l.length=(l.filter f).length+(l.filter (fun v=>!f v)).length
 | []=>rfl
 | a :: l=>by
   have ih:=xF f l
   rw [List.filter_cons,List.filter_cons,List.length_cons]
   cases f a with
   | true=>simp;omega
   | false=>simp;omega
theorem uv {w:Way} {S:List Pl}:∀ {st:List Pl},pL w S st→st.Pairwise (fun b a=>w.f a < w.f b)
 | [],_=> .nil
 | [_],_=>by simp
 | y :: x :: r,e=>by
   obtain ⟨e1,_,e3⟩:=e
   have ih:=uv e3
   refine List.pairwise_cons.mpr ⟨fun z hz=>?_,ih⟩
   rcases List.mem_cons.mp hz with rfl | hz
   ·exact e1
   ·have:=(List.pairwise_cons.mp ih).1 z hz
    omega
theorem Ch.nodup {w:Way} {S st:List Pl} (C:Ch w S st):st.Nodup:=(uv C.Hu).imp fun h e=>by rw [e] at h;omega
theorem o9 {l m:List Pl} (nd:l.Nodup) (sub:∀ x∈l,x∈m):l.length≤m.length:=by
 induction l generalizing m with
 | nil=>simp
 | cons a l ih=>
   obtain ⟨h1,h2⟩:=List.nodup_cons.mp nd
   have ma:=sub a (List.mem_cons_self ..)
   have:=ih (m:=m.erase a) h2 fun x hx=>(List.mem_erase_of_ne (show x≠a from fun e=>h1 (e▸hx))).mpr (sub x (List.mem_cons_of_mem _ hx))
   rw [List.length_erase_of_mem ma] at this
   have:0 < m.length:=List.length_pos_of_mem ma
   rw [List.length_cons]
   omega
theorem Fe {w:Way} {v a b q:Pl} (h1:w.f v < w.f b) (h2:w.f a < w.f v) (hb:0≤tw v b q) (ha:0≤tw v a q) (z:tw v b a=0):tw v b q=0:=by
 have key:=fy w.al w.be (b.x - v.x) (b.y - v.y) (a.x - v.x) (a.y - v.y) (q.x - v.x) (q.y - v.y)
 unfold Way.f at h1 h2
 unfold tw at hb ha z ⊢
 have z':(b.x - v.x)*(a.y - v.y) - (b.y - v.y)*(a.x - v.x)=0:=z
 rw [z',Int.mul_zero,Int.add_zero] at key
 have k1:0 < w.al*(b.x - v.x)+w.be*(b.y - v.y):=by grind
 have k2:w.al*(a.x - v.x)+w.be*(a.y - v.y) < 0:=by grind
 have r1:0≤(w.al*(b.x - v.x)+w.be*(b.y - v.y))*((a.x - v.x)*(q.y - v.y) - (a.y - v.y)*(q.x - v.x)):=Int.mul_nonneg (by omega) ha
 rcases Int.lt_or_eq_of_le hb with c | c
 ·have:(w.al*(a.x - v.x)+w.be*(a.y - v.y))*((b.x - v.x)*(q.y - v.y) - (b.y - v.y)*(q.x - v.x)) < 0:=Int.mul_neg_of_neg_of_pos k2 c
  omega
 ·exact c.symm
theorem Bw {w:Way} {x b e p:Pl} (h1:w.f x < w.f b) (h2:w.f x < w.f e) (h3:w.f x < w.f p) (h:0≤tw x b e) (s1:tw x b p < 0) (s2:tw e x p < 0):False:=by
 have key:=fy w.al w.be (b.x - x.x) (b.y - x.y) (e.x - x.x) (e.y - x.y) (p.x - x.x) (p.y - x.y)
 have s2':0 < (e.x - x.x)*(p.y - x.y) - (e.y - x.y)*(p.x - x.x):=by
  unfold tw at s2
  grind
 unfold Way.f at h1 h2 h3
 unfold tw at h s1
 have k1:0 < w.al*(b.x - x.x)+w.be*(b.y - x.y):=by grind
 have k2:0 < w.al*(e.x - x.x)+w.be*(e.y - x.y):=by grind
 have k3:0 < w.al*(p.x - x.x)+w.be*(p.y - x.y):=by grind
 have r1:=Int.mul_pos k1 s2'
 have r2:0≤(w.al*(p.x - x.x)+w.be*(p.y - x.y))*((b.x - x.x)*(e.y - x.y) - (b.y - x.y)*(e.x - x.x)):=Int.mul_nonneg (by omega) h
 have r3:(w.al*(e.x - x.x)+w.be*(e.y - x.y))*((b.x - x.x)*(p.y - x.y) - (b.y - x.y)*(p.x - x.x)) < 0:=Int.mul_neg_of_pos_of_neg k2 s1
 omega
theorem Dk {w:Way} {a b c d p:Pl} (h1:w.f a < w.f b) (h2:w.f d < w.f c) (l1:tw a b c=0) (l2:tw a b d=0) (s1:tw a b p < 0) (s2:tw c d p < 0):False:=by
 have key:=fy w.al w.be (b.x - a.x) (b.y - a.y) (d.x - c.x) (d.y - c.y) (p.x - c.x) (p.y - c.y)
 have u0:(b.x - a.x)*(d.y - c.y) - (b.y - a.y)*(d.x - c.x)=0:=by unfold tw at l1 l2;grind
 have u1:(b.x - a.x)*(p.y - c.y) - (b.y - a.y)*(p.x - c.x) < 0:=by
  have:(b.x - a.x)*(p.y - c.y) - (b.y - a.y)*(p.x - c.x)=tw a b p - tw a b c:=by unfold tw;grind
  omega
 rw [u0,Int.mul_zero,Int.add_zero] at key
 unfold Way.f at h1 h2
 unfold tw at s2
 have k1:0 < w.al*(b.x - a.x)+w.be*(b.y - a.y):=by grind
 have k2:w.al*(d.x - c.x)+w.be*(d.y - c.y) < 0:=by grind
 have r1:=Int.mul_neg_of_pos_of_neg k1 s2
 have r2:=Int.mul_pos_of_neg_of_neg k2 u1
 omega
def AA (p:Pl):List Pl→Bool
 | [a,b]=>decide (tw a b p < 0)
 | _=>false
theorem Ff {qs:List Pl} {p:Pl} (hs:qs.Pairwise (fun p q=>aT p q)) (hok:∀ q∈qs,q.y.natAbs < 2 ^ 140) (hp:p.y.natAbs < 2 ^ 140) (RX:∀ q∈qs,aT q p):((aX (dm qs)).filter (AA p)).length≤qs.length - 1:=by
 by_cases h2:qs.length < 2
 ·have:aX (dm qs)= []:=by
   unfold dm
   rw [if_pos h2]
   unfold aX
   rw [if_pos h2]
  rw [this]
  simp
 have h2:2≤qs.length:=by omega
 have hne:qs≠[]:=fun z=>by rw [z] at h2;simp at h2
 obtain ⟨x,hx⟩:∃ x,qs.head?=some x:=by
  cases e:qs with
  | nil=>exact absurd e hne
  | cons x r=>exact ⟨x,rfl⟩
 obtain ⟨y,hy⟩:∃ y,qs.getLast?=some y:=⟨_,List.getLast?_eq_some_getLast hne⟩
 have mx:x∈qs:=List.mem_of_mem_head? hx
 have my:y∈qs:=List.mem_of_getLast? hy
 have hend:=nW hs hx hy
 have be:∀ p∈qs,∀ q∈qs,(aT p q↔jv.f p < jv.f q):=fun p hp q hq=>um (hok p hp) (hok q hq)
 have RY:∀ q∈qs,jv.f q < jv.f p:=fun q hq=>(um (hok q hq) hp).mp (RX q hq)
 have bw:∀ p∈qs,∀ q∈qs,(aT p q↔sd.f q < sd.f p):=fun p hp q hq=>by
  rw [be p hp q hq,iP,iP]
  omega
 have xy:x≠y:=by
  intro e
  cases e1:qs with
  | nil=>exact absurd e1 hne
  | cons u r=>
    cases r with
    | nil=>rw [e1] at h2;simp at h2
    | cons v r=>
      rw [e1] at hx hy hs
      have eu:u=x:=by simpa using hx
      have PX:y∈v :: r:=List.mem_of_getLast? (by simpa using hy)
      have:=(List.pairwise_cons.mp hs).1 y PX
      rw [eu,e] at this
      exact bL _ this
 have C1:Ch jv qs (qs.foldl aV []):=qB hne (hs.imp_of_mem fun hp hq h=>(be _ hp _ hq).mp h)
 have C2:Ch sd qs.reverse (qs.reverse.foldl aV []):=qB (by simpa using hne) (List.pairwise_reverse.mpr (hs.imp_of_mem fun hp hq h=>(bw _ hp _ hq).mp h))
 have key:∀ p∈qs,∀ q∈qs,(p=q∨aT p q)→jv.f p≤jv.f q∧sd.f q≤sd.f p:=fun p hp q hq k=>by
  rcases k with rfl | k
  ·exact ⟨Int.le_refl _,Int.le_refl _⟩
  ·have a1:=(be p hp q hq).mp k
   have a2:=(bw p hp q hq).mp k
   omega
 obtain ⟨p1,p2⟩:=C1.ends mx my (fun q hq=>(key x mx q hq ((hend q hq).1.imp Eq.symm id)).1) (fun q hq=>(key q hq y my (hend q hq).2).1)
 obtain ⟨r1,r2⟩:=C2.ends (lo:=y) (hi:=x) (by simpa using my) (by simpa using mx) (fun q hq=>by have hq:=List.mem_reverse.mp hq;exact (key q hq y my (hend q hq).2).2) (fun q hq=>by have hq:=List.mem_reverse.mp hq;exact (key x mx q hq ((hend q hq).1.imp Eq.symm id)).2)
 have e0:=Dj (lo:=x) (hi:=y) (T:=(qs.foldl aV []).reverse) (H:=(qs.reverse.foldl aV []).reverse) (by rw [List.head?_reverse];exact p2) (by rw [List.getLast?_reverse];exact p1) (by rw [List.head?_reverse];exact r2) (by rw [List.getLast?_reverse];exact r1) xy
 have lb:=(xC hs hok h2).1
 have es:aX (dm qs)=prs (qs.foldl aV []).reverse ++ prs (qs.reverse.foldl aV []).reverse:=by
  unfold dm
  rw [if_neg (by omega)]
  unfold aX
  rw [if_neg (by omega)]
  exact e0
 rw [es]
 have n1:=C1.nodup
 have n2:=C2.nodup
 have PY:∀ a b,Nx (qs.foldl aV []).reverse a b→a∈qs∧b∈qs∧jv.f a < jv.f b∧ug jv qs a b:=fun a b k=>(l0 C1).mp ((qE _ a b).mpr k)
 have PZ:∀ a b,Nx (qs.reverse.foldl aV []).reverse a b→a∈qs∧b∈qs∧jv.f b < jv.f a∧∀ q∈qs,0≤tw a b q:=fun a b k=>by
  obtain ⟨h1,h2,h3,h4⟩:=(l0 C2).mp ((qE _ a b).mpr k)
  rw [iP,iP] at h3
  exact ⟨List.mem_reverse.mp h1,List.mem_reverse.mp h2,by omega,fun q hq=>(h4 q (List.mem_reverse.mpr hq)).1⟩
 have QK:∀ v∈qs.foldl aV [],v∈qs:=C1.vC
 have QL:∀ v∈qs.reverse.foldl aV [],v∈qs:=fun v hv=>List.mem_reverse.mp (C2.vC v hv)
 have lT:=o9 n1 QK
 have lH:=o9 n2 QL
 generalize hT:qs.foldl aV []=T at *
 generalize hH:qs.reverse.foldl aV []=H at *
 have gT:T.reverse.getLast?=some y:=by rw [List.getLast?_reverse];exact p1
 have gH:H.reverse.getLast?=some x:=by rw [List.getLast?_reverse];exact r1
 have mT:x∈T.reverse:=List.mem_reverse.mpr (List.mem_of_getLast? p2)
 have two:=qF p1 p2 (Ne.symm xy)
 have HE:=qF r1 r2 xy
 by_cases fl:Flat qs
 ·rw [List.filter_append,List.length_append]
  have fT:=List.length_filter_le (AA p) (prs T.reverse)
  have fH:=List.length_filter_le (AA p) (prs H.reverse)
  rw [sY,List.length_reverse] at fT fH
  by_cases eT:(prs T.reverse).filter (AA p)= []
  ·rw [eT,List.length_nil]
   omega
  ·obtain ⟨w,hw⟩:=List.exists_mem_of_ne_nil _ eT
   obtain ⟨hw,sw⟩:=List.mem_filter.mp hw
   obtain ⟨a,b,rfl,k⟩:=Bu _ _ hw
   obtain ⟨ma,mb,hab,_⟩:=PY a b k
   have s1:tw a b p < 0:=of_decide_eq_true sw
   have eH:(prs H.reverse).filter (AA p)= []:=by
    rw [List.filter_eq_nil_iff]
    intro w2 RZ R0
    obtain ⟨c,d,rfl,k2⟩:=Bu _ _ RZ
    obtain ⟨mc,md,hcd,_⟩:=PZ c d k2
    have s2:tw c d p < 0:=of_decide_eq_true R0
    exact Dk hab hcd (fl a ma b mb c mc) (fl a ma b mb d md) s1 s2
   rw [eH,List.length_nil]
   omega
 ·have P0:∀ v,v∈T→v∈H→v≠x→v≠y→False:=fun v vT vH nx ny=>by
   obtain ⟨b,kb⟩:=yo (List.mem_reverse.mpr vT) gT ny
   obtain ⟨a,ka⟩:=yo (List.mem_reverse.mpr vH) gH nx
   obtain ⟨mv,mb,QM,ob⟩:=PY v b kb
   obtain ⟨_,ma,R4,oa⟩:=PZ v a ka
   have z:tw v b a=0:=by
    have z1:=(ob a ma).1
    have z2:=oa b mb
    have z3:=iW v b a
    omega
   have all:∀ q∈qs,tw v b q=0:=fun q hq=>Fe QM R4 (ob q hq).1 (oa q hq) z
   have R5:v≠b:=fun e=>by rw [e] at QM;omega
   exact fl fun p hp q hq r hr=>uo R5 (all p hp) (all q hq) (all r hr)
  have R6:H.length≤(H.filter (fun v=>decide (v≠x∧v≠y))).length+2:=by
   have e:=xF (fun v=>decide (v≠x∧v≠y)) H
   have:(H.filter (fun v=>!decide (v≠x∧v≠y))).length≤[x,y].length:=o9 (n2.filter _) fun v hv=>by
    have:=(List.mem_filter.mp hv).2
    simp only [Bool.not_eq_true',decide_eq_false_iff_not] at this
    by_cases h1:v=x
    ·simp [h1]
    ·by_cases h2:v=y
     ·simp [h2]
     ·exact absurd ⟨h1,h2⟩ this
   simp only [List.length_cons,List.length_nil] at this
   omega
  have both:(T ++ H.filter (fun v=>decide (v≠x∧v≠y))).length≤qs.length:=by
   refine o9 ?_ fun v hv=>?_
   ·rw [List.nodup_append]
    refine ⟨n1,n2.filter _,fun a ha b hb e=>?_⟩
    subst e
    obtain ⟨hb,nb⟩:=List.mem_filter.mp hb
    have nb:=of_decide_eq_true nb
    exact P0 a ha hb nb.1 nb.2
   ·rcases List.mem_append.mp hv with hv | hv
    ·exact QK v hv
    ·exact QL v (List.mem_filter.mp hv).1
  rw [List.length_append] at both
  have tot:(prs T.reverse ++ prs H.reverse).length≤qs.length:=by
   rw [List.length_append,sY,sY,List.length_reverse,List.length_reverse]
   omega
  obtain ⟨b,kb⟩:=yo mT gT xy
  obtain ⟨e,ke⟩:=IF gH (by rw [List.length_reverse];exact HE)
  obtain ⟨_,mb,hxb,ob⟩:=PY x b kb
  obtain ⟨me,_,R7,_⟩:=PZ e x ke
  have un:∃ w∈prs T.reverse ++ prs H.reverse,¬ AA p w=true:=by
   by_cases s1:tw x b p < 0
   ·refine ⟨[e,x],List.mem_append.mpr (.inr (Bv _ _ _ ke)),fun s2=>?_⟩
    exact Bw hxb R7 (RY x mx) (ob e me).1 s1 (of_decide_eq_true s2)
   ·exact ⟨[x,b],List.mem_append.mpr (.inl (Bv _ _ _ kb)),fun s2=>s1 (of_decide_eq_true s2)⟩
  have:=List.length_filter_lt_length_iff_exists.mpr un
  omega
end L3
namespace HD
open PySem PySem.W L2
theorem Nh:dA=oW:=funext fun s=>by cases s <;> rfl
theorem Ni:dB=iG:=funext fun s=>by cases s <;> rfl
theorem Nj:dS=au:=funext fun s=>by cases s <;> rfl
def Ax (h:Heap):List Addr→Frag
 | []=>[]
 | a :: r=>match h.get? a with
   | some o=>(a,o) :: Ax h r
   | none=>Ax h r
theorem Bx (h:Heap):∀ as:List Addr,(Ax h as).In h
 | [],_,_,e=>nomatch e
 | b :: r,a,o,e=>by
   unfold Ax at e
   cases q:h.get? b with
   | none=>rw [q] at e;exact Bx h r a o e
   | some x=>
     rw [q] at e
     replace e:List.lookup a ((b,x) :: Ax h r)=some o:=e
     rw [List.lookup_cons] at e
     cases z:a == b with
     | true=>
       rw [z] at e
       obtain rfl:a=b:=eq_of_beq z
       cases e;exact q
     | false=>rw [z] at e;exact Bx h r a o e
theorem uw {h:Heap} {a:Addr} {o:Obj} (e:h.get? a=some o):∀ {as:List Addr},a∈as→(Ax h as).lookup a=some o
 | b :: r,m=>by
   unfold Ax
   by_cases z:a=b
   ·subst z
    rw [e]
    show List.lookup a ((a,o) :: Ax h r)=some o
    rw [List.lookup_cons,beq_self_eq_true]
   ·have m':a∈r:=by
     rcases List.mem_cons.mp m with y | y
     ·exact absurd y z
     ·exact y
    cases q:h.get? b with
    | none=>exact uw e m'
    | some x=>
      show List.lookup a ((b,x) :: Ax h r)=some o
      rw [List.lookup_cons,beq_eq_false_iff_ne.mpr z]
      exact uw e m'
theorem HF {K:Frag} {o:Obj} (e:K.lookup mainGlobals=some o) (n:Str):nsIn K mainGlobals n=nsIn [(mainGlobals,o)] mainGlobals n:=by
 unfold nsIn
 rw [e]
 rfl
def adr (h:Heap) (n:Str):List Addr:=match fnAt h n with
 | some (f,fd)=>f :: (match fd.code with | .ref c=>[c] | _=>[])
 | none=>[]
def P1 (h:Heap) (fs:List (Str ×Stmt)):List Addr:=mainGlobals :: fs.flatMap fun p=>adr h p.1
def QN (K:Frag) (p:Str ×Stmt):Prop:= ∃ f fd,nsIn K mainGlobals p.1=some (some (.ref f))∧gq K p.1 p.1 p.2 f fd
def Br (K:Frag):List (Str ×Stmt)→Prop
 | []=>True
 | p :: r=>QN K p∧Br K r
def AllB (K:Frag):List Str→Prop
 | []=>True
 | b :: r=>nsIn K mainGlobals b=some none∧AllB K r
def YP (fs:List (Str ×Stmt)) (bs:List Str) (h:Heap):Prop:= ∃ K:Frag,K.In h∧Br K fs∧AllB K bs
theorem keeps {fs:List (Str ×Stmt)} {bs:List Str} {h h':Heap} (y:YP fs bs h) (k:∀ b o,h.get? b=some o→h'.get? b=some o):YP fs bs h':=
 let ⟨K,i,a,b⟩:=y
 ⟨K,i.keeps k,a,b⟩
theorem Fg {h:Heap} {as:List Addr} {n:Str} {r:Option Value} (m:mainGlobals∈as) (e:K4 h n=some r):nsIn (Ax h as) mainGlobals n=some r:=by
 unfold K4 at e
 cases q:h.get? mainGlobals with
 | none=>rw [q] at e;cases e
 | some o=>rw [q] at e;rw [HF (uw q m)];exact e
theorem HG {h:Heap} {n:Str} {f:Addr} {fd:FuncData} (e:fnAt h n=some (f,fd)):K4 h n=some (some (.ref f))∧∃ oc od sl,h.get? f=some ⟨oc,od,.func fd,sl⟩:=by
 unfold fnAt at e
 split at e
 ·rename_i g hg
  split at e
  ·rename_i oc od fd' sl hq
   cases e
   exact ⟨hg,oc,od,sl,hq⟩
  ·cases e
 ·cases e
theorem Ag {h:Heap} {v:Value} {q:Str} {as:List Addr} (e:nB h v=some q) (m:∀ c,v= .ref c→c∈as):codeIn (Ax h as) v q=true:=by
 unfold nB at e
 split at e
 ·rename_i c
  split at e
  ·rename_i oc od vs sl hc
   split at e
   ·rename_i a q' tk r hv
    cases e
    unfold codeIn
    dsimp only
    rw [uw hc (m c rfl)]
    dsimp only
    rw [hv]
    dsimp only
    exact beq_self_eq_true _
   ·cases e
  ·cases e
 ·cases e
theorem KC {h:Heap} {p:Str ×Stmt} {as:List Addr} (m0:mainGlobals∈as) (m:∀ a∈adr h p.1,a∈as)
 (e:(fnAt h p.1).map (fun x=>(blank x.2,nB h x.2.code))=some (fnOf p.1 p.1 (oW p.2) (iG p.2) (au p.2) .none .none .none .none none .none .none,some p.1)):QN (Ax h as) p:=by
 obtain ⟨⟨f,fd⟩,hf,hq⟩:=Option.map_eq_some_iff.mp e
 obtain ⟨h1,oc,od,sl,h2⟩:=HG hf
 obtain ⟨e1,e2⟩:=Prod.mk.inj hq
 have hadr:adr h p.1=f :: (match fd.code with | .ref c=>[c] | _=>[]):=by unfold adr;rw [hf]
 have P4:f∈as:=m f (by rw [hadr];exact .head _)
 have lk:=uw h2 P4
 have hc:codeIn (Ax h as) fd.code p.1=true:=Ag e2 fun c hc=>m c (by rw [hadr,hc];exact .tail _ (.head _))
 have hfd:fd=fnOf p.1 p.1 (oW p.2) (iG p.2) (au p.2) .none fd.kwdefaults fd.doc fd.pyModule fd.annotations fd.code fd.closureTuple:=by
  cases fd
  unfold blank at e1
  simp only [FuncData.mk.injEq] at e1
  obtain ⟨a1,a2,a3,a4,a5,a6,a7,a8,a9⟩:=e1
  simp only [FuncData.mk.injEq]
  exact ⟨a1,a2,a3,a4,a5,a6,a7,a8,trivial,trivial,trivial,trivial,trivial,trivial,by simpa using a9⟩
 refine ⟨f,fd,Fg m0 h1,⟨oc,od,fd.kwdefaults,fd.doc,fd.pyModule,fd.annotations,fd.code,fd.closureTuple,sl,hfd,lk,hc⟩,?_⟩
 unfold keepIn
 dsimp only
 rw [lk]
theorem CB {h:Heap} {as:List Addr} (m0:mainGlobals∈as):∀ {fs:List (Str ×Stmt)},(∀ a∈fs.flatMap (fun p=>adr h p.1),a∈as)→
 fs.map (fun p=>(fnAt h p.1).map fun x=>(blank x.2,nB h x.2.code))=fs.map (fun p=>some (fnOf p.1 p.1 (oW p.2) (iG p.2) (au p.2) .none .none .none .none none .none .none,some p.1))→Br (Ax h as) fs
 | [],_,_=>trivial
 | p :: r,m,e=>by
   rw [List.map_cons,List.map_cons] at e
   obtain ⟨e1,e2⟩:=List.cons.inj e
   rw [List.flatMap_cons] at m
   exact ⟨KC m0 (fun a ha=>m a (List.mem_append.mpr (.inl ha))) e1,CB m0 (fun a ha=>m a (List.mem_append.mpr (.inr ha))) e2⟩
theorem allB_of {h:Heap} {as:List Addr} (m0:mainGlobals∈as):∀ {bs:List Str},bs.map (fun b=>K4 h b)=bs.map (fun _=>some none)→AllB (Ax h as) bs
 | [],_=>trivial
 | b :: r,e=>by
   rw [List.map_cons,List.map_cons] at e
   obtain ⟨e1,e2⟩:=List.cons.inj e
   exact ⟨Fg m0 e1,allB_of m0 e2⟩
theorem KD {fs:List (Str ×Stmt)} {bs:List Str} {s:Shared} (e:AA fs bs s=good fs bs):YP fs bs s.heap:=
 let ⟨e1,e2⟩:=Prod.mk.inj (by rw [good,Nh,Ni,Nj] at e;exact e)
 ⟨Ax s.heap (P1 s.heap fs),Bx _ _,CB (.head _) (fun _ ha=> .tail _ ha) e1,allB_of (.head _) e2⟩
theorem Fi {l:OpenLaw} {n k:Nat} {q:Program} {loose:List Str} {XP:(Str→Option Value)→Heap→Prop} {YP:World→Heap→Prop} {d:DefRec} {CX:DR} {sp:Frag→Sp} {x:Str}
 (hn:l.most=some n) (hn2:n≤sizeLine) (hdf:d.params.defaults= []) (hr:jN k callerA)
 (F:∀ (w:World) (mg:Str→Option Value) (fa:Addr) (h:Heap),YP w h→h.Ns mainGlobals mg→mg d.name=some (.ref fa)→
  ∃ (K:Frag) (fd:FuncData),K.In h∧(∀ (s:Shared) (u:Value),BindsTo s fd ⟨[u],[]⟩ [(x,u)])∧
    ∀ base:Heap,K.In base→base.Ns mainGlobals mg→bP l.prog w K mg base CX k fa fd [x] (sp K))
 (CS:∀ (K:Frag) (H:Hp) (a:Addr) (ns:List Int),ns.length≤n→(∀ z∈ns,Att.A8 z)→Gz H→gO K H a (ns.map V.int)→sp K [.ref a] H (fun v _=>v= .bl true) fun _ _ _=>False)
 (OB:∀ (H:Hp) (s:Shared) (e:Value) (s':Shared),CX [] H s (fun _ _ _=>False) e s'→False) :
 WalkO q loose XP YP l.row.toRowW d [] (fun f vs=>PySem.call f vs):=by
 refine Att.yd hn hdf fun w s₀ s₁ mg mb fa o pm cd doc a vs ns G Y ho hd hcd hmg hobj hints hlen hbig hg=>?_
 obtain ⟨K,fd,KX,hb,hF⟩:=F w mg fa _ Y G.T.g hmg
 exact D0 (CX:=CX) (sp:=sp K) KX G.T.g G.T.b G.T.builtins G.T.nolimit hg hobj hints (Nat.le_trans hlen hn2) hr hF hb (fun H hO hS=>CS K H a ns hlen hbig hO hS) fun H e s'=>OB H s₁ e s'
end HD
namespace Pf
open PySem L2 L3
set_option genInjectivity false in
set_option genSizeOf false in
structure Ad where
 nZ:Addr
 l6:FuncData
 jT:Addr
 i0:FuncData
 l8:Addr
 jU:FuncData
 l9:Addr
 jV:FuncData
 mh:Addr
 jW:FuncData
 jX:Addr
 i6:FuncData
 pZ:Addr
 n8:FuncData
 n9:Addr
 mj:FuncData
 mw:Addr
 jY:FuncData
 i7:Addr
 gX:FuncData
 mC:Addr
 jZ:FuncData
 oh:Addr
 mD:FuncData
 j3:Addr
 i8:FuncData
 By:Addr
 yp:FuncData
 yq:Addr
 uz:FuncData
 BA:Addr
 yr:FuncData
 j4:Addr
 i9:FuncData
 mE:Addr
 j5:FuncData
 j6:Addr
 ja:FuncData
 uA:Addr
 rD:FuncData
 gA:Addr
 fZ:FuncData
 jb:Addr
 gY:FuncData
 jc:Addr
 gZ:FuncData
 rE:Addr
 p7:FuncData
 g9:Addr
 gB:FuncData
 BC:Addr
 yt:FuncData
 mF:Addr
 j7:FuncData
 jd:Addr
 ia:FuncData
 j8:Addr
 je:FuncData
 oi:Addr
 mG:FuncData
 yu:Addr
 uB:FuncData
 BD:Addr
 yv:FuncData
 uC:Addr
 rF:FuncData
 jf:Addr
 ic:FuncData
 yw:Addr
 uD:FuncData
 jg:Addr
 ie:FuncData
 cR:Addr
 cH:FuncData
 j9:Addr
 jh:FuncData
 yx:Addr
 uE:FuncData
 eU:Addr
 dW:FuncData
 ig:Addr
 gC:FuncData
 iu:Addr
 gD:FuncData
 kc:Addr
 ji:FuncData
 gb:Addr
 fB:FuncData
 kg:Addr
 jj:FuncData
 kh:Addr
 jk:FuncData
 fE:Addr
 eV:FuncData
 mH:Addr
 ki:FuncData
 Fj:Addr
 BE:FuncData
structure Txt (K:PySem.W.Frag) (mg:Str→Option Value) (t:Ad):Prop where
 bC:gq K "_law_cell" "_law_cell" nC t.nZ t.l6
 bV:mg "_law_cell" =some (.ref t.nZ)
 gI:gq K "_law_ringed" "_law_ringed" jE t.jT t.i0
 pM:mg "_law_ringed" =some (.ref t.jT)
 mJ:gq K "_law_lined" "_law_lined" lD t.l8 t.jU
 yy:mg "_law_lined" =some (.ref t.l8)
 gc:gq K "_law_great" "_law_great" lE t.l9 t.jV
 mK:mg "_law_great" =some (.ref t.l9)
 mL:gq K "_law_place" "_law_place" lF t.mh t.jW
 yz:mg "_law_place" =some (.ref t.mh)
 kj:gq K "_law_places" "_law_places" jF t.jX t.i6
 vN:mg "_law_places" =some (.ref t.jX)
 mO:gq K "_law_far" "_law_far" pQ t.pZ t.n8
 uF:mg "_law_far" =some (.ref t.pZ)
 fL:gq K "_law_laid" "_law_laid" nD t.n9 t.mj
 jB:mg "_law_laid" =some (.ref t.n9)
 bu:gq K "_law_twice" "_law_twice" lG t.mw t.jY
 bT:mg "_law_twice" =some (.ref t.mw)
 jl:gq K "_law_flipped" "_law_flipped" fM t.i7 t.gX
 uG:mg "_law_flipped" =some (.ref t.i7)
 mP:gq K "_law_cover" "_law_cover" lI t.mC t.jZ
 yC:mg "_law_cover" =some (.ref t.mC)
 oj:gq K "_law_more" "_law_more" jw t.oh t.mD
 Ah:mg "_law_more" =some (.ref t.oh)
 ko:gq K "first_alien" "first_alien" jG t.j3 t.i8
 vO:mg "first_alien" =some (.ref t.j3)
 uH:gq K "sign" "sign" AB t.By t.yp
 BF:mg "sign" =some (.ref t.By)
 mQ:gq K "twice" "twice" xN t.yq t.uz
 qH:mg "twice" =some (.ref t.yq)
 mR:gq K "turn" "turn" AD t.BA t.yr
 p8:mg "turn" =some (.ref t.BA)
 kq:gq K "is_triangle" "is_triangle" jH t.j4 t.i9
 vP:mg "is_triangle" =some (.ref t.j4)
 mS:gq K "first_flat" "first_flat" lJ t.mE t.j5
 yD:mg "first_flat" =some (.ref t.mE)
 kr:gq K "on_one_line" "on_one_line" jI t.j6 t.ja
 vQ:mg "on_one_line" =some (.ref t.j6)
 qI:gq K "rounds" "rounds" tu t.uA t.rD
 Ai:mg "rounds" =some (.ref t.uA)
 eF:gq K "directed_sides" "directed_sides" cX t.gA t.fZ
 kW:mg "directed_sides" =some (.ref t.gA)
 jm:gq K "least_double" "least_double" fN t.jb t.gY
 uI:mg "least_double" =some (.ref t.jb)
 gf:gq K "without_bays" "without_bays" iQ t.jc t.gZ
 om:mg "without_bays" =some (.ref t.jc)
 rG:gq K "outline" "outline" qQ t.rE t.p7
 Dm:mg "outline" =some (.ref t.rE)
 fh:gq K "outline_sides" "outline_sides" gR t.g9 t.gB
 ni:mg "outline_sides" =some (.ref t.g9)
 BG:gq K "back" "back" AE t.BC t.yt
 KG:mg "back" =some (.ref t.BC)
 mU:gq K "least_bare" "least_bare" fO t.mF t.j7
 yE:mg "least_bare" =some (.ref t.mF)
 jn:gq K "least_lonely" "least_lonely" fR t.jd t.ia
 uJ:mg "least_lonely" =some (.ref t.jd)
 ku:gq K "cover_fault" "cover_fault" jJ t.j8 t.je
 vR:mg "cover_fault" =some (.ref t.j8)
 oz:gq K "ring_area" "ring_area" nE t.oi t.mG
 Aj:mg "ring_area" =some (.ref t.oi)
 qJ:gq K "apart" "apart" xP t.yu t.uB
 yF:mg "apart" =some (.ref t.yu)
 BH:gq K "ring" "ring" AF t.BD t.yv
 KH:mg "ring" =some (.ref t.BD)
 uK:gq K "spoils" "spoils" tE t.uC t.rF
 Fl:mg "spoils" =some (.ref t.uC)
 jo:gq K "spoilt_fault" "spoilt_fault" fS t.jf t.ic
 uL:mg "spoilt_fault" =some (.ref t.jf)
 yG:gq K "fault" "fault" xQ t.yw t.uD
 HH:mg "fault" =some (.ref t.yw)
 jq:gq K "_law_spoiled" "_law_spoiled" iR t.jg t.ie
 uM:mg "_law_spoiled" =some (.ref t.jg)
 cA:gq K "_law_alike" "_law_alike" lK t.cR t.cH
 gg:mg "_law_alike" =some (.ref t.cR)
 gJ:gq K "triangle_of" "triangle_of" jK t.j9 t.jh
 pN:mg "triangle_of" =some (.ref t.j9)
 yH:gq K "swept" "swept" oV t.yx t.uE
 HJ:mg "swept" =some (.ref t.yx)
 eW:gq K "_law_corner_fault" "_law_corner_fault" cV t.eU t.dW
 pC:mg "_law_corner_fault" =some (.ref t.eU)
 iw:gq K "_law_directed" "_law_directed" gS t.ig t.gC
 se:mg "_law_directed" =some (.ref t.ig)
 fj:gq K "_law_straight" "_law_straight" fc t.iu t.gD
 nj:mg "_law_straight" =some (.ref t.iu)
 kB:gq K "_law_on_rim" "_law_on_rim" jL t.kc t.ji
 vS:mg "_law_on_rim" =some (.ref t.kc)
 gi:gq K "_law_side_fault" "_law_side_fault" dM t.gb t.fB
 qK:mg "_law_side_fault" =some (.ref t.gb)
 kC:gq K "_law_lifted" "_law_lifted" gF t.kg t.jj
 vU:mg "_law_lifted" =some (.ref t.kg)
 kE:gq K "_law_spoils" "_law_spoils" jM t.kh t.jk
 vV:mg "_law_spoils" =some (.ref t.kh)
 fF:gq K "_law_place_fault" "_law_place_fault" di t.fE t.eV
 p9:mg "_law_place_fault" =some (.ref t.fE)
 mV:gq K "_law_fault" "_law_fault" lM t.mH t.ki
 yI:mg "_law_fault" =some (.ref t.mH)
 IG:gq K "law" "law" BQ t.Fj t.BE
 QO:mg "law" =some (.ref t.Fj)
 cj:mg "len" =none
 dH:mg "range" =none
 gE:mg "min" =none
 dI:mg "sorted" =none
 Fo:mg "max" =none
 dO:mg "list" =none
 Ak:mg "reversed" =none
 KI:mg "zip" =none
 aB:mg "isinstance" =none
 oA:mg "int" =none
 oB:mg "str" =none
 gQ:mg "tuple" =none
 sZ:mg "bool" =none
theorem qL:aH ["_law_script","_law_k","_law_number"] ["_law_script","_law_k"] (au nC):=⟨rfl,rfl,rfl,by decide +kernel,rfl,by decide +kernel,by decide +kernel⟩
theorem cB:aH ["_law_cell_here","_law_far_here","_law_x","_law_y","_law_spot","_law_across","_law_up","_law_k"] ["_law_cell_here","_law_far_here","_law_x","_law_y"] (au jE):=⟨rfl,rfl,rfl,by decide +kernel,rfl,by decide +kernel,by decide +kernel⟩
theorem gK:aH ["_law_cell_here","_law_frame","_law_spanned","_law_x","_law_y"] ["_law_cell_here","_law_frame"] (au lD):=⟨rfl,rfl,rfl,by decide +kernel,rfl,by decide +kernel,by decide +kernel⟩
theorem kF:aH ["_law_cell_here","_law_x","_law_y"] ["_law_cell_here"] (au lE):=⟨rfl,rfl,rfl,by decide +kernel,rfl,by decide +kernel,by decide +kernel⟩
theorem vW:aH ["_law_kind","_law_cell_here","_law_frame","_law_k"] ["_law_kind","_law_cell_here","_law_frame","_law_k"] (au lF):=⟨rfl,rfl,rfl,by decide +kernel,rfl,by decide +kernel,by decide +kernel⟩
theorem c9:aH ["_law_script","_law_most","_law_head","_law_frame","_law_places_here","_law_k","_law_p"] ["_law_script","_law_most"] (au jF):=⟨rfl,rfl,rfl,by decide +kernel,rfl,by decide +kernel,by decide +kernel⟩
theorem oE:aH ["_law_cover_here","_law_a","_law_b","_law_t","_law_k"] ["_law_cover_here","_law_a","_law_b"] (au pQ):=⟨rfl,rfl,rfl,by decide +kernel,rfl,by decide +kernel,by decide +kernel⟩
theorem yJ:aH ["_law_a","_law_b","_law_c"] ["_law_a","_law_b","_law_c"] (au nD):=⟨rfl,rfl,rfl,by decide +kernel,rfl,by decide +kernel,by decide +kernel⟩
theorem vX:aH ["_law_a","_law_b","_law_c"] ["_law_a","_law_b","_law_c"] (au lG):=⟨rfl,rfl,rfl,by decide +kernel,rfl,by decide +kernel,by decide +kernel⟩
theorem fk:aH ["_law_cover_here","_law_a","_law_b","_law_c","_law_d","_law_gone"] ["_law_cover_here","_law_a","_law_b"] (au fM):=⟨rfl,rfl,rfl,by decide +kernel,rfl,by decide +kernel,by decide +kernel⟩
theorem eY:aH ["_law_script","_law_start","_law_cover_here","_law_k","_law_number","_law_t"] ["_law_script","_law_start","_law_cover_here"] (au lI):=⟨rfl,rfl,rfl,by decide +kernel,rfl,by decide +kernel,by decide +kernel⟩
theorem cT:aH ["_law_script","_law_places_here","_law_triples","_law_number","_law_stranger","_law_k","_law_t","_law_p","_law_spot"] ["_law_script","_law_places_here","_law_triples"] (au jw):=⟨rfl,rfl,rfl,by decide +kernel,rfl,by decide +kernel,by decide +kernel⟩
theorem jr:aH ["places","triples","t","corner"] ["places","triples"] (au jG):=⟨rfl,rfl,rfl,by decide +kernel,rfl,by decide +kernel,by decide +kernel⟩
theorem HK:aH ["number"] ["number"] (au AB):=⟨rfl,rfl,rfl,by decide +kernel,rfl,by decide +kernel,by decide +kernel⟩
theorem Fp:aH ["a","b","c"] ["a","b","c"] (au xN):=⟨rfl,rfl,rfl,by decide +kernel,rfl,by decide +kernel,by decide +kernel⟩
theorem HL:aH ["a","b","c"] ["a","b","c"] (au AD):=⟨rfl,rfl,rfl,by decide +kernel,rfl,by decide +kernel,by decide +kernel⟩
theorem uN:aH ["t"] ["t"] (au jH):=⟨rfl,rfl,rfl,by decide +kernel,rfl,by decide +kernel,by decide +kernel⟩
theorem pO:aH ["triples","t"] ["triples"] (au lJ):=⟨rfl,rfl,rfl,by decide +kernel,rfl,by decide +kernel,by decide +kernel⟩
theorem oF:aH ["places","p"] ["places"] (au jI):=⟨rfl,rfl,rfl,by decide +kernel,rfl,by decide +kernel,by decide +kernel⟩
theorem Dn:aH ["t"] ["t"] (au tu):=⟨rfl,rfl,rfl,by decide +kernel,rfl,by decide +kernel,by decide +kernel⟩
theorem gj:aH ["cover","ways","t"] ["cover"] (au cX):=⟨rfl,rfl,rfl,by decide +kernel,rfl,by decide +kernel,by decide +kernel⟩
theorem nk:aH ["triples","ways"] ["triples"] (au fN):=⟨rfl,rfl,rfl,by decide +kernel,rfl,by decide +kernel,by decide +kernel⟩
theorem iy:aH ["line","chain","p"] ["line"] (au iQ):=⟨rfl,rfl,rfl,by decide +kernel,rfl,by decide +kernel,by decide +kernel⟩
theorem mW:aH ["places","line","there","home"] ["places"] (au qQ):=⟨rfl,rfl,rfl,by decide +kernel,rfl,by decide +kernel,by decide +kernel⟩
theorem kX:aH ["places","border"] ["places"] (au gR):=⟨rfl,rfl,rfl,by decide +kernel,rfl,by decide +kernel,by decide +kernel⟩
theorem HM:aH ["way"] ["way"] (au AE):=⟨rfl,rfl,rfl,by decide +kernel,rfl,by decide +kernel,by decide +kernel⟩
theorem eZ:aH ["places","triples","ways","border","ragged","missing"] ["places","triples"] (au fO):=⟨rfl,rfl,rfl,by decide +kernel,rfl,by decide +kernel,by decide +kernel⟩
theorem iz:aH ["places","triples","corners","t"] ["places","triples"] (au fR):=⟨rfl,rfl,rfl,by decide +kernel,rfl,by decide +kernel,by decide +kernel⟩
theorem gm:aH ["places","triples","double","bare","lonely"] ["places","triples"] (au jJ):=⟨rfl,rfl,rfl,by decide +kernel,rfl,by decide +kernel,by decide +kernel⟩
theorem qM:aH ["a","b","c","area"] ["a","b","c"] (au nE):=⟨rfl,rfl,rfl,by decide +kernel,rfl,by decide +kernel,by decide +kernel⟩
theorem uO:aH ["p","q","right","up"] ["p","q"] (au xP):=⟨rfl,rfl,rfl,by decide +kernel,rfl,by decide +kernel,by decide +kernel⟩
theorem yK:aH ["a","b","c","d","area","depth"] ["a","b","c","d"] (au AF):=⟨rfl,rfl,rfl,by decide +kernel,rfl,by decide +kernel,by decide +kernel⟩
theorem rH:aH ["a","b","c","d","lies","three"] ["a","b","c","d"] (au tE):=⟨rfl,rfl,rfl,by decide +kernel,rfl,by decide +kernel,by decide +kernel⟩
theorem iA:aH ["places","triples","t","spoilers"] ["places","triples"] (au fS):=⟨rfl,rfl,rfl,by decide +kernel,rfl,by decide +kernel,by decide +kernel⟩
theorem qN:aH ["places","triples","alien","flat","found"] ["places","triples"] (au xQ):=⟨rfl,rfl,rfl,by decide +kernel,rfl,by decide +kernel,by decide +kernel⟩
theorem cg:aH ["_law_triples","_law_how","_law_place_here","_law_other","_law_here","_law_a","_law_b","_law_c","_law_left","_law_right","_law_cut"] ["_law_triples","_law_how","_law_place_here","_law_other"] (au iR):=⟨rfl,rfl,rfl,by decide +kernel,rfl,by decide +kernel,by decide +kernel⟩
theorem cI:aH ["_law_found","_law_due","_law_k"] ["_law_found","_law_due"] (au lK):=⟨rfl,rfl,rfl,by decide +kernel,rfl,by decide +kernel,by decide +kernel⟩
theorem oG:aH ["a","b","c","three"] ["a","b","c"] (au jK):=⟨rfl,rfl,rfl,by decide +kernel,rfl,by decide +kernel,by decide +kernel⟩
theorem kY:aH ["places","line","cover","k","p","seen"] ["places"] (au oV):=⟨rfl,rfl,rfl,by decide +kernel,rfl,by decide +kernel,by decide +kernel⟩
theorem dX:aH ["_law_places_here","_law_triples","_law_t"] ["_law_places_here","_law_triples"] (au cV):=⟨rfl,rfl,rfl,by decide +kernel,rfl,by decide +kernel,by decide +kernel⟩
theorem cJ:aH ["_law_triples","_law_found","_law_a","_law_b","_law_c"] ["_law_triples"] (au gS):=⟨rfl,rfl,rfl,by decide +kernel,rfl,by decide +kernel,by decide +kernel⟩
theorem kZ:aH ["_law_places_here","_law_row"] ["_law_places_here"] (au fc):=⟨rfl,rfl,rfl,by decide +kernel,rfl,by decide +kernel,by decide +kernel⟩
theorem jt:aH ["_law_a","_law_b","_law_places_here","_law_p","_law_hand"] ["_law_a","_law_b","_law_places_here"] (au jL):=⟨rfl,rfl,rfl,by decide +kernel,rfl,by decide +kernel,by decide +kernel⟩
theorem bU:aH ["_law_places_here","_law_triples","_law_sides","_law_again","_law_ended","_law_a","_law_b","_law_open_end"] ["_law_places_here","_law_triples"] (au dM):=⟨rfl,rfl,rfl,by decide +kernel,rfl,by decide +kernel,by decide +kernel⟩
theorem ju:aH ["_law_a","_law_b","_law_c","_law_d","_law_high","_law_found"] ["_law_a","_law_b","_law_c","_law_d"] (au gF):=⟨rfl,rfl,rfl,by decide +kernel,rfl,by decide +kernel,by decide +kernel⟩
theorem dY:aH ["_law_t","_law_d","_law_a","_law_b","_law_c","_law_lifted_here"] ["_law_t","_law_d"] (au jM):=⟨rfl,rfl,rfl,by decide +kernel,rfl,by decide +kernel,by decide +kernel⟩
theorem cW:aH ["_law_places_here","_law_triples","_law_unused","_law_t","_law_d"] ["_law_places_here","_law_triples"] (au di):=⟨rfl,rfl,rfl,by decide +kernel,rfl,by decide +kernel,by decide +kernel⟩
theorem gM:aH ["_law_places_here","_law_triples","_law_found"] ["_law_places_here","_law_triples"] (au lM):=⟨rfl,rfl,rfl,by decide +kernel,rfl,by decide +kernel,by decide +kernel⟩
theorem gn:aH ["_law_script","_law_places_here","_law_triples","_law_cut","_law_k","_law_other","_law_place_here","_law_handed","_law_found"] ["_law_script"] (au BQ):=⟨rfl,rfl,rfl,by decide +kernel,rfl,by decide +kernel,by decide +kernel⟩
section
variable {P:Program} {w:World} {K:PySem.W.Frag} {mg:Str→Option Value} {base:Heap} {t:Ad}
theorem bI (T:Txt K mg t):Binds K t.l6 ["_law_script","_law_k"] []:=T.bC.binds fun _ _ _ _ _ _ us hl=>match us,hl with | [_,_],_=>rfl
def Al:sW:=fun ds Q=> ∃ (ns:List Int) (k:Int),ds= [.tF (ns.map L3.D.int),.int k]∧(∀ z∈ns,Att.A8 z)∧ns.length≤63∧0≤k∧k≤1000∧∀ z:Int,Att.A8 z→Q (.int z)
theorem bJ (T:Txt K mg t):bP P w K mg base dZ 1 t.nZ t.l6 ["_law_script","_law_k"] (rY K Al):=by
 refine wW T.bC qL (fun ds Q h=>by (first | (obtain ⟨_,rfl,_⟩:=h;rfl) | (obtain ⟨_,_,rfl,_⟩:=h;rfl) | (obtain ⟨_,_,_,rfl,_⟩:=h;rfl) | (obtain ⟨_,_,_,_,rfl,_⟩:=h;rfl) | (obtain ⟨_,_,_,_,_,rfl,_⟩:=h;rfl) | (obtain ⟨_,_,_,_,_,_,rfl,_⟩:=h;rfl) | (obtain ⟨_,_,_,_,_,_,_,rfl,_⟩:=h;rfl))) (fun cdv A outer s H hr=>?_)
 have hu:=hr.units
 refine ⟨_,(ao (aZ (aD (jy hu) (aa 1) (aK cU (by rfl) T.cj aQ (af (aa 0) ak)) (az _)) (ay (aC (aJ (aa 0) (aa 1)))) aN)
  (ao (aZ (aD (EE hu) (aa 0) (bN ak) (az _)) (ay (aC (aq aW (aq jR (aq jR (aa 1) (aa 1)) aj) aj))) aN)
  (ao (aM (i:=2) qL.nd rfl (Or.inl rfl) (aq aW (aq jR (aq cC (aq aW (aJ (aa 0) (aq aW (aa 1) (aK cU (by rfl) T.cj aQ (af (aa 0) ak)))) aj) (aq jR (aq jR (aa 1) (aa 1)) aj)) aj) aj))
  (ay (aC (aq aW (aq jR (aa 2) (aa 2)) aj)))))),fun ds Q h=>?_⟩
 obtain ⟨ns,k,rfl,hb,hlen,hk,hk2,h⟩:=h
 have sk:Sm 11 k:=by
  show k.natAbs < 2 ^ 11
  omega
 walk_at "rd"
 refine ⟨_,_,rfl,.inr (.inl rfl),?_⟩
 walk_at "rd"
 refine aR (fun c=>?_) (fun c=>?_)
 ·have c:k < ((ns.map L3.D.int).length:Int):=of_decide_eq_true c
  rw [List.length_map] at c
  obtain ⟨z,mz,hz⟩:=lY hk c
  walk_at "rd"
  exact ⟨_,k,.int z,.inr (.inl rfl),rfl,hz,h z (hb z mz)⟩
 ·walk_at "rd"
  intro p hp
  refine ⟨_,_,.inl rfl,.of ah,A7 ns,rfl,?_⟩
  walk_at "rd"
  refine aR (fun c=>?_) (fun c=>?_)
  ·walk_at "rd"
   exact h _ (EY (n:=31) (by walk_at "smle") (by decide))
  ·have hne:ns≠[]:=fun z=>c (by rw [z];rfl)
   have hpos:0 < ns.length:=List.length_pos_iff.mpr hne
   walk_at "rd"
   refine ⟨_,_,rfl,.inr (.inl rfl),?_⟩
   walk_at "rd"
   refine ⟨by rw [List.length_map];omega,?_⟩
   rw [List.length_map]
   obtain ⟨z,_,hz⟩:=lY (ns:=ns) (k:=k % (ns.length:Int)) (Int.emod_nonneg _ (by omega)) (Int.emod_lt_of_pos _ (by omega))
   refine ⟨_,_,.int z,.inr (.inl rfl),rfl,hz,?_⟩
   walk_at "rd"
   exact h _ (EY (n:=31) (by walk_at "smle") (by decide))
theorem oH (T:Txt K mg t):Binds K t.i0 ["_law_cell_here","_law_far_here","_law_x","_law_y"] []:=T.gI.binds fun _ _ _ _ _ _ us hl=>match us,hl with | [_,_,_,_],_=>rfl
def vY:sW:=fun ds Q=> ∃ c f x y:Int,ds= [.int c,.int f,.int x,.int y]∧Sm 40 f∧Sm 70 x∧Sm 70 y∧∀ p:Pl,p.Ok 136→Q p.d
theorem oJ (T:Txt K mg t):bP P w K mg base dZ 1 t.jT t.i0 ["_law_cell_here","_law_far_here","_law_x","_law_y"] (rY K vY):=by
 refine wW T.gI cB (fun ds Q h=>by (first | (obtain ⟨_,rfl,_⟩:=h;rfl) | (obtain ⟨_,_,rfl,_⟩:=h;rfl) | (obtain ⟨_,_,_,rfl,_⟩:=h;rfl) | (obtain ⟨_,_,_,_,rfl,_⟩:=h;rfl) | (obtain ⟨_,_,_,_,_,rfl,_⟩:=h;rfl) | (obtain ⟨_,_,_,_,_,_,rfl,_⟩:=h;rfl) | (obtain ⟨_,_,_,_,_,_,_,rfl,_⟩:=h;rfl))) (fun cdv A outer s H hr=>?_)
 have hu:=hr.units
 refine ⟨_,(ao (aM (i:=4) cB.nd rfl (Or.inl rfl) (aq aW (aa 0) aj))
  (ao (aM (i:=5) cB.nd rfl (Or.inl rfl) (aJ (bN (af aj (af aj (af aj ak)))) (aq aW (aa 4) aj)))
  (ao (aM (i:=6) cB.nd rfl (Or.inl rfl) (aJ (bN (af aj (af aj (af aj ak)))) (aq aW (aa 4) aj)))
  (ao (iV PassesOwn.never rfl (by rfl) T.dH (af (aq cD (aa 4) aj) ak) (bg (i:=7) cB.nd rfl (Or.inl rfl)) (ay (Mj (i:=5) (j:=6) rfl cB.nd rfl rfl (by decide) rfl rfl (af (m8 (aa 6)) (af (aa 5) ak)))))
  (ao (aZ (aD (dj hu) (aa 4) aj (az _)) (ao (aM (i:=5) cB.nd rfl (Or.inl rfl) aj)
  (ay (aM (i:=6) cB.nd rfl (Or.inl rfl) aj))) aN)
  (ay (aC (aY (af (aq cC (aa 2) (aq cZ (aa 1) (aa 5))) (af (aq cC (aa 3) (aq cZ (aa 1) (aa 6))) ak)))))))))),fun ds Q h=>?_⟩
 obtain ⟨c,f,x,y,rfl,sf,sx,sy,h⟩:=h
 walk_at "rd"
 intro p hp
 walk_at "rd"
 obtain ⟨z1,m1,e1⟩:=lY (ns:=[5,4,3]) (k:=c % 13 % 3) (Int.emod_nonneg _ (by decide)) (Int.emod_lt_of_pos _ (by decide))
 have s1:Sm 3 z1:=pX (ns:=[5,4,3]) (by decide) m1
 refine ⟨_,_,_,.inr (.inr ⟨p,rfl,ah⟩),rfl,e1,?_⟩
 walk_at "rd"
 intro q hq
 walk_at "rd"
 obtain ⟨z2,m2,e2⟩:=lY (ns:=[0,3,4]) (k:=c % 13 % 3) (Int.emod_nonneg _ (by decide)) (Int.emod_lt_of_pos _ (by decide))
 have s2:Sm 3 z2:=pX (ns:=[0,3,4]) (by decide) m2
 refine ⟨_,_,_,.inr (.inr ⟨q,rfl,ah⟩),rfl,e2,?_⟩
 walk_at "rd"
 have Uq:c % 13 < 13:=Int.emod_lt_of_pos _ (by decide)
 have R8:0≤c % 13:=Int.emod_nonneg _ (by decide)
 refine ⟨by dsimp only;omega,by dsimp only;omega,?_⟩
 refine aF (fun i ρ M'=> ∃ (u v:Int) (y1:Option L3.D),ρ= [some (.int c),some (.int f),some (.int x),some (.int y),some (.int (c % 13)),some (.int u),some (.int v),y1]∧Sm 3 u∧Sm 3 v) _ ?_ ?_ ⟨_,_,_,rfl,s1,s2⟩
 ·rintro i d ρ M' N hx ⟨u,v,y1,rfl,su,sv⟩ hN
  obtain ⟨hi,rfl⟩:=bQ hx
  refine ⟨trivial,?_⟩
  walk_at "rd"
  exact hN _ _ ⟨_,_,_,rfl,sv.neg,su⟩
 ·rintro ρ M' ⟨u,v,y1,rfl,su,sv⟩
  refine ⟨trivial,?_⟩
  walk_at "rd"
  refine aR (fun _=>?_) (fun _=>?_)
  ·walk_at "rd"
   exact h ⟨_,_⟩ ⟨by walk_at "smle",by walk_at "smle"⟩
  ·walk_at "rd"
   exact h ⟨_,_⟩ ⟨by walk_at "smle",by walk_at "smle"⟩
theorem vZ (T:Txt K mg t):Binds K t.jU ["_law_cell_here","_law_frame"] []:=T.mJ.binds fun _ _ _ _ _ _ us hl=>match us,hl with | [_,_],_=>rfl
def yL:sW:=fun ds Q=> ∃ c f:Int,ds= [.int c,.int f]∧∀ p:Pl,p.Ok 136→Q p.d
theorem v5 (T:Txt K mg t):bP P w K mg base dZ 1 t.l8 t.jU ["_law_cell_here","_law_frame"] (rY K yL):=by
 refine wW T.mJ gK (fun ds Q h=>by (first | (obtain ⟨_,rfl,_⟩:=h;rfl) | (obtain ⟨_,_,rfl,_⟩:=h;rfl) | (obtain ⟨_,_,_,rfl,_⟩:=h;rfl) | (obtain ⟨_,_,_,_,rfl,_⟩:=h;rfl) | (obtain ⟨_,_,_,_,_,rfl,_⟩:=h;rfl) | (obtain ⟨_,_,_,_,_,_,rfl,_⟩:=h;rfl) | (obtain ⟨_,_,_,_,_,_,_,rfl,_⟩:=h;rfl))) (fun cdv A outer s H hr=>?_)
 have hu:=hr.units
 refine ⟨_,(ao (aM (i:=2) gK.nd rfl (Or.inl rfl) (aq cZ (aq cO (aq aW (aq cD (aa 0) aj) aj) aj) (aJ (bN (af aj (af (aq pI aj aj) ak))) (aq aW (aq cD (aa 1) aj) aj))))
  (ao (aM (i:=3) gK.nd rfl (Or.inl rfl) (aq cC (aq cZ (aa 2) (aJ (bN (af aj (af aj (af aj (af aj ak))))) (aq aW (aa 1) aj))) (aq aW (aq cD (aa 1) aj) aj)))
  (ao (aM (i:=4) gK.nd rfl (Or.inl rfl) (aq cO (aq cZ (aa 2) (aJ (bN (af aj (af aj (af aj (af (m8 aj) ak))))) (aq aW (aa 1) aj))) aj))
  (ao (aZ (nK.pt (kL (aD (dj hu) (aq aW (aq cD (aa 1) aj) aj) aj (az _)) (gU (aD (dj hu) (aq aW (aa 0) aj) aj (az _))))) (ay (aC (aY (af (aq cC (aa 3) (aq aW (aq cD (aa 0) aj) aj)) (af (aq cC (aq cC (aa 4) aj) (aq aW (aq cD (aa 0) aj) aj)) ak))))) aN)
  (ay (aC (aY (af (aa 3) (af (aa 4) ak))))))))),fun ds Q h=>?_⟩
 obtain ⟨c,f,rfl,h⟩:=h
 walk_at "rd"
 intro p hp
 walk_at "rd"
 obtain ⟨z0,m0,e0⟩:=lY (ns:=[1,10 ^ 30]) (k:=f / 4 % 2) (Int.emod_nonneg _ (by decide)) (Int.emod_lt_of_pos _ (by decide))
 have s0:Sm 100 z0:=pX (ns:=[1,10 ^ 30]) (by decide) m0
 refine ⟨_,_,_,.inr (.inr ⟨p,rfl,ah⟩),rfl,e0,?_⟩
 walk_at "rd"
 intro q hq
 walk_at "rd"
 obtain ⟨z1,m1,e1⟩:=lY (ns:=[1,0,1,3]) (k:=f % 4) (Int.emod_nonneg _ (by decide)) (Int.emod_lt_of_pos _ (by decide))
 have s1:Sm 3 z1:=pX (ns:=[1,0,1,3]) (by decide) m1
 refine ⟨_,_,_,.inr (.inr ⟨q,rfl,ah⟩),rfl,e1,?_⟩
 walk_at "rd"
 intro r hr
 walk_at "rd"
 obtain ⟨z2,m2,e2⟩:=lY (ns:=[0,1,2, -2]) (k:=f % 4) (Int.emod_nonneg _ (by decide)) (Int.emod_lt_of_pos _ (by decide))
 have s2:Sm 3 z2:=pX (ns:=[0,1,2, -2]) (by decide) m2
 refine ⟨_,_,_,.inr (.inr ⟨r,rfl,ah⟩),rfl,e2,?_⟩
 walk_at "rd"
 have fin:∀ x y,Sm 136 x→Sm 136 y→Q (.tup [.int x,.int y]):=fun x y a b=>h ⟨x,y⟩ ⟨a,b⟩
 refine aR (fun _=>?_) (fun _=>?_)
 ·walk_at "rd"
  refine aR (fun _=>?_) (fun _=>?_)
  ·walk_at "rd"
   exact fin _ _ (by walk_at "smle") (by walk_at "smle")
  ·walk_at "rd"
   exact fin _ _ (by walk_at "smle") (by walk_at "smle")
 ·walk_at "rd"
  exact fin _ _ (by walk_at "smle") (by walk_at "smle")
theorem kG (T:Txt K mg t):Binds K t.jV ["_law_cell_here"] []:=T.gc.binds fun _ _ _ _ _ _ us hl=>match us,hl with | [_],_=>rfl
def yM:sW:=fun ds Q=> ∃ c:Int,ds= [.int c]∧Att.A8 c∧∀ p:Pl,p.Ok 136→Q p.d
theorem kH (T:Txt K mg t):bP P w K mg base dZ 1 t.l9 t.jV ["_law_cell_here"] (rY K yM):=by
 refine wW T.gc kF (fun ds Q h=>by (first | (obtain ⟨_,rfl,_⟩:=h;rfl) | (obtain ⟨_,_,rfl,_⟩:=h;rfl) | (obtain ⟨_,_,_,rfl,_⟩:=h;rfl) | (obtain ⟨_,_,_,_,rfl,_⟩:=h;rfl) | (obtain ⟨_,_,_,_,_,rfl,_⟩:=h;rfl) | (obtain ⟨_,_,_,_,_,_,rfl,_⟩:=h;rfl) | (obtain ⟨_,_,_,_,_,_,_,rfl,_⟩:=h;rfl))) (fun cdv A outer s H hr=>?_)
 have hu:=hr.units
 refine ⟨_,(ao (aM (i:=1) kF.nd rfl (Or.inl rfl) (aq aW (aq jR (aa 0) aj) (aq pI aj aj)))
  (ao (aM (i:=2) kF.nd rfl (Or.inl rfl) (aq aW (aq jR (aa 0) aj) (aq cC (aq pI aj aj) aj)))
  (ay (aC (aY (af (aq cO (aa 1) (aq jR aj (aq pI aj aj))) (af (aq cO (aa 2) (aq jR aj (aq pI aj aj))) ak))))))),fun ds Q h=>?_⟩
 obtain ⟨c,rfl,bc,h⟩:=h
 walk_at "rd"
 refine ⟨Or.inr (Or.inr ⟨bc,200,by decide +kernel,by decide⟩),?_⟩
 walk_at "rd"
 refine ⟨Or.inr (Or.inr ⟨bc,200,by decide +kernel,by decide⟩),?_⟩
 walk_at "rd"
 exact h ⟨_,_⟩ ⟨by walk_at "smle",by walk_at "smle"⟩
theorem v7 (T:Txt K mg t):Binds K t.jW ["_law_kind","_law_cell_here","_law_frame","_law_k"] []:=T.mL.binds fun _ _ _ _ _ _ us hl=>match us,hl with | [_,_,_,_],_=>rfl
def yN:sW:=fun ds Q=> ∃ k c f i:Int,ds= [.int k,.int c,.int f,.int i]∧Att.A8 c∧∀ p:Pl,p.Ok 136→Q p.d
theorem v8 (T:Txt K mg t):bP P w K mg base dZ 2 t.mh t.jW ["_law_kind","_law_cell_here","_law_frame","_law_k"] (rY K yN):=by
 refine wW T.mL vW (fun ds Q h=>by (first | (obtain ⟨_,rfl,_⟩:=h;rfl) | (obtain ⟨_,_,rfl,_⟩:=h;rfl) | (obtain ⟨_,_,_,rfl,_⟩:=h;rfl) | (obtain ⟨_,_,_,_,rfl,_⟩:=h;rfl) | (obtain ⟨_,_,_,_,_,rfl,_⟩:=h;rfl) | (obtain ⟨_,_,_,_,_,_,rfl,_⟩:=h;rfl) | (obtain ⟨_,_,_,_,_,_,_,rfl,_⟩:=h;rfl))) (fun cdv A outer s H hr=>?_)
 have hu:=hr.units
 refine ⟨_,(ao (aZ (aD (dj hu) (aa 0) aj (az _)) (ay (aC (aY (af (aq cC (aq pI aj aj) (aq aW (aa 1) aj)) (af (aq cO (aq aW (aq cD (aa 1) aj) aj) (aq cZ aj (aq pI aj aj))) ak))))) aN)
  (ao (aZ (aD (dj hu) (aa 0) aj (az _)) (ay (aC (aE (oJ T) (hr.mono (by decide)) (by rfl) T.pM T.gI.kp (oH T) (af (aa 1) (af (aq cC aj (aq aW (aa 2) (aq pI aj aj))) (af (aq cO (aq aW (aq cD (aa 2) aj) aj) aj) (af (m8 (aq aW (aq cD (aa 2) aj) (aq pI aj aj))) ak))))))) aN)
  (ao (aZ (aD (dj hu) (aa 0) aj (az _)) (ay (aC (aE (v5 T) (hr.mono (by decide)) (by rfl) T.yy T.mJ.kp (vZ T) (af (aa 1) (af (aa 2) ak))))) aN)
  (ao (aZ (aD (dj hu) (aa 0) aj (az _)) (ay (aC (aE (kH T) (hr.mono (by decide)) (by rfl) T.mK T.gc.kp (kG T) (af (aa 1) ak)))) aN)
  (ao (aZ (aD (dj hu) (aa 0) aj (az _)) (ay (aC (aY (af (aq cO (aq aW (aa 1) aj) aj) (af (aq cO (aq aW (aq cD (aa 1) aj) aj) aj) ak))))) aN)
  (ao (aZ (nK.pt (kL (aD (dj hu) (aa 0) aj (az _)) (gU (aD (dj hu) (aq aW (aa 3) aj) aj (az _))))) (ay (aC (aE (oJ T) (hr.mono (by decide)) (by rfl) T.pM T.gI.kp (oH T) (af (aa 1) (af aj (af aj (af (m8 aj) ak))))))) aN)
  (ao (aZ (aD (dj hu) (aa 0) aj (az _)) (ay (aC (aY (af (aq cO (aq aW (aa 1) aj) aj) (af (aq cO (aq aW (aq cD (aa 1) aj) aj) aj) ak))))) aN)
  (ao (aZ (aD (dj hu) (aa 0) aj (az _)) (ay (aC (aY (af (aq cC (aq aW (aa 1) aj) (aJ (bN (af aj (af (aq pI aj aj) ak))) (aq aW (aq cD (aa 1) aj) aj))) (af (aq aW (aq cD (aa 1) aj) aj) ak))))) aN)
  (ay (aC (aY (af (aq aW (aa 1) aj) (af (aq aW (aq cD (aa 1) aj) aj) ak))))))))))))),fun ds Q h=>?_⟩
 obtain ⟨k,c,f,i,rfl,bc,h⟩:=h
 have fin:∀ x y,Sm 136 x→Sm 136 y→Q (.tup [.int x,.int y]):=fun x y a b=>h ⟨x,y⟩ ⟨a,b⟩
 walk_at "rd"
 refine aR (fun _=>?_) (fun _=>?_)
 ·walk_at "rd"
  exact fin _ _ (by walk_at "smle") (by walk_at "smle")
 walk_at "rd"
 refine aR (fun _=>?_) (fun _=>?_)
 ·walk_at "rd"
  have n1:Sm 40 (1+f % 10 ^ 9):=by walk_at "smle"
  have n2:Sm 70 (f / 7 % 2001 - 1000):=by walk_at "smle"
  have n3:Sm 70 (-(f / 11 % 10 ^ 20)):=by walk_at "smle"
  exact ⟨n1,n2,n3,fun p hp=>h p hp⟩
 walk_at "rd"
 refine aR (fun _=>?_) (fun _=>?_)
 ·walk_at "rd"
  exact fun p hp=>h p hp
 walk_at "rd"
 refine aR (fun _=>?_) (fun _=>?_)
 ·walk_at "rd"
  exact ⟨bc,fun p hp=>h p hp⟩
 walk_at "rd"
 refine aR (fun _=>?_) (fun _=>?_)
 ·walk_at "rd"
  exact fin _ _ (by walk_at "smle") (by walk_at "smle")
 walk_at "rd"
 refine aR (fun _=>?_) (fun _=>?_)
 ·walk_at "rd"
  refine aR (fun _=>?_) (fun _=>?_)
  ·walk_at "rd"
   exact fun p hp=>h p hp
  walk_at "rd"
  refine aR (fun _=>?_) (fun _=>?_)
  ·walk_at "rd"
   exact fin _ _ (by walk_at "smle") (by walk_at "smle")
  walk_at "rd"
  refine aR (fun _=>?_) (fun _=>?_)
  ·walk_at "rd"
   intro p hp
   walk_at "rd"
   obtain ⟨z1,m1,e1⟩:=lY (ns:=[0,10 ^ 38]) (k:=c / 9 % 2) (Int.emod_nonneg _ (by decide)) (Int.emod_lt_of_pos _ (by decide))
   have s1:Sm 128 z1:=pX (ns:=[0,10 ^ 38]) (by decide) m1
   refine ⟨_,_,_,.inr (.inr ⟨p,rfl,ah⟩),rfl,e1,?_⟩
   walk_at "rd"
   exact fin _ _ (by walk_at "smle") (by walk_at "smle")
  walk_at "rd"
  exact fin _ _ (by walk_at "smle") (by walk_at "smle")
 ·walk_at "rd"
  refine aR (fun _=>?_) (fun _=>?_)
  ·walk_at "rd"
   exact fin _ _ (by walk_at "smle") (by walk_at "smle")
  walk_at "rd"
  refine aR (fun _=>?_) (fun _=>?_)
  ·walk_at "rd"
   intro p hp
   walk_at "rd"
   obtain ⟨z1,m1,e1⟩:=lY (ns:=[0,10 ^ 38]) (k:=c / 9 % 2) (Int.emod_nonneg _ (by decide)) (Int.emod_lt_of_pos _ (by decide))
   have s1:Sm 128 z1:=pX (ns:=[0,10 ^ 38]) (by decide) m1
   refine ⟨_,_,_,.inr (.inr ⟨p,rfl,ah⟩),rfl,e1,?_⟩
   walk_at "rd"
   exact fin _ _ (by walk_at "smle") (by walk_at "smle")
  walk_at "rd"
  exact fin _ _ (by walk_at "smle") (by walk_at "smle")
theorem uP (T:Txt K mg t):Binds K t.i6 ["_law_script","_law_most"] []:=T.kj.binds fun _ _ _ _ _ _ us hl=>match us,hl with | [_,_],_=>rfl
def v9:m9:=fun ds M Q=> ∃ (ns:List Int) (m:Int),ds= [.tF (ns.map L3.D.int),.int m]∧(∀ z∈ns,Att.A8 z)∧ns.length≤63∧0≤m∧m≤40∧∀ (p:Addr) (ps:List Pl),M p=none→ps.Nodup→(∀ q∈ps,q.Ok 136)→(ps.length:Int)≤m→Q (.ref p) (aA M p (.lst (ps.map Pl.d)))
theorem uQ (T:Txt K mg t):bP P w K mg base dZ 3 t.jX t.i6 ["_law_script","_law_most"] (nv K v9):=by
 refine pJ T.kj c9 (fun ds M Q h=>by (first | (obtain ⟨_,rfl,_⟩:=h;rfl) | (obtain ⟨_,_,rfl,_⟩:=h;rfl) | (obtain ⟨_,_,_,rfl,_⟩:=h;rfl) | (obtain ⟨_,_,_,_,rfl,_⟩:=h;rfl) | (obtain ⟨_,_,_,_,_,rfl,_⟩:=h;rfl) | (obtain ⟨_,_,_,_,_,_,rfl,_⟩:=h;rfl) | (obtain ⟨_,_,_,_,_,_,_,rfl,_⟩:=h;rfl))) (fun cdv A outer s H hr=>?_)
 have hu:=hr.units
 refine ⟨_,(ao (aM (i:=2) c9.nd rfl (Or.inl rfl) (aE (bJ T) (hr.mono (by decide)) (by rfl) T.bV T.bC.kp (bI T) (af (aa 0) (af aj ak))))
  (ao (aM (i:=3) c9.nd rfl (Or.inl rfl) (aE (bJ T) (hr.mono (by decide)) (by rfl) T.bV T.bC.kp (bI T) (af (aa 0) (af aj ak))))
  (ao (aM (i:=4) c9.nd rfl (Or.inl rfl) (bN ak))
  (ao (iV PassesOwn.never rfl (by rfl) T.dH (af (aK (Ea rfl) (by rfl) T.gE c6 (af (aa 1) (af (aq aW (aq cD (aa 2) aj) (aq cC (aa 1) aj)) ak))) ak) (bg (i:=5) c9.nd rfl (Or.inl rfl)) (ao (aM (i:=6) c9.nd rfl (Or.inl rfl) (aE (v8 T) (hr.mono (by decide)) (by rfl) T.yz T.mL.kp (v7 T) (af (aq aW (aa 2) aj) (af (aE (bJ T) (hr.mono (by decide)) (by rfl) T.bV T.bC.kp (bI T) (af (aa 0) (af (aq cC (aa 5) aj) ak))) (af (aa 3) (af (aa 5) ak))))))
  (ay (aZ (aD (ff hu) (aa 6) (aa 4) (by with_unfolding_all rfl)) (ay (pT (Eg (aa 4) (aa 6) (rO PySem.F.plainAttrs_list PySem.F.slot_list_append PySem.F.type_list_append kI (cE.dn (aa 4)) (iF (cE.dn (aa 6)) lP))))) aN))))
  (ay (aC (aa 4))))))),fun ds M Q h=>?_⟩
 obtain ⟨ns,m,rfl,hb,hlen,hm0,hm1,h⟩:=h
 walk_at "rd"
 refine ⟨hb,hlen,by decide,by decide,fun hd _=>?_⟩
 walk_at "rd"
 refine ⟨hb,hlen,by decide,by decide,fun fr _=>?_⟩
 walk_at "rd"
 intro p hp
 walk_at "rd"
 have e0:0≤hd / 8 % (m+3):=Int.emod_nonneg _ (by omega)
 refine ⟨by dsimp only;omega,by dsimp only;omega,?_⟩
 refine aF (fun i ρ M'=> ∃ (ps:List Pl) (y1 y2:Option L3.D),ρ= [some (.tF (ns.map L3.D.int)),some (.int m),some (.int hd),some (.int fr),some (.ref p),y1,y2]∧ps.length≤i∧ps.Nodup∧(∀ q∈ps,q.Ok 136)∧M'=aA M p (.lst (ps.map Pl.d))) _ ?_ ?_ ⟨[],_,_,rfl,Nat.le_refl _,List.nodup_nil,(fun q hq=>by cases hq),rfl⟩
 ·rintro i x ρ M' N hx ⟨ps,y1,y2,rfl,hl,nd,ho,rfl⟩ hN
  obtain ⟨hi,rfl⟩:=bQ hx
  have hi:i < 41:=by dsimp only at hi;omega
  refine ⟨trivial,?_⟩
  walk_at "rd"
  refine ⟨hb,hlen,by dsimp only;omega,by dsimp only;omega,fun z1 bz=>?_⟩
  walk_at "rd"
  refine ⟨bz,fun q hq=>?_⟩
  walk_at "rd"
  refine ⟨_,.inr ⟨p,rfl,ah⟩,rfl,bH ps,?_⟩
  walk_at "rd"
  rw [if_pos rfl,iJ]
  refine aR (fun k=>?_) (fun k=>?_)
  ·have k:q∉ps:=fun z=>by rw [decide_eq_true z] at k;cases k
   walk_at "rd"
   refine ⟨⟨p,_,rfl,ah⟩,?_⟩
   walk_at "rd"
   refine ⟨p,_,rfl,ah,?_,?_⟩
   ·rw [List.length_map]
    have:(1000:Nat) < sizeLine:=by decide
    omega
   ·rw [iT]
    refine hN _ _ ⟨ps ++ [q],_,_,rfl,by simp;omega,?_,?_,by simp⟩
    ·rw [List.nodup_append]
     exact ⟨nd,by simp,fun a ha b hb e=>by rw [List.mem_singleton.mp hb] at e;subst e;exact k ha⟩
    ·intro z hz
     rcases List.mem_append.mp hz with hz | hz
     ·exact ho z hz
     ·rw [List.mem_singleton.mp hz];exact hq
  ·exact hN _ _ ⟨ps,_,_,rfl,by omega,nd,ho,rfl⟩
 ·rintro ρ M' ⟨ps,y1,y2,rfl,hl,nd,ho,rfl⟩
  refine ⟨trivial,?_⟩
  walk_at "rd"
  refine aI.mk ⟨_,Le.refl _,h p ps hp nd ho ?_⟩
  simp at hl
  omega
theorem rS (T:Txt K mg t):Binds K t.n8 ["_law_cover_here","_law_a","_law_b"] []:=T.mO.binds fun _ _ _ _ _ _ us hl=>match us,hl with | [_,_,_],_=>rfl
def Nk (ts:List (List Pl)) (a b:Pl):Option Pl→Prop
 | none=>True
 | some c=> ∃ t∈ts,t= [c,a,b]∨t= [b,c,a]∨t= [a,b,c]
def BI:m9:=fun ds M Q=> ∃ (l:Addr) (a b:Pl),ds= [.ref l,a.d,b.d]∧∃ ts:List (List Pl),M l=some (.lst (ts.map tD))∧(∀ t∈ts,Tr t)∧∀ r:Option Pl,Nk ts a b r→Q (oP r) M
theorem rT (T:Txt K mg t):bP P w K mg base dZ 1 t.pZ t.n8 ["_law_cover_here","_law_a","_law_b"] (nv K BI):=by
 refine pJ T.mO oE (fun ds M Q h=>by (first | (obtain ⟨_,rfl,_⟩:=h;rfl) | (obtain ⟨_,_,rfl,_⟩:=h;rfl) | (obtain ⟨_,_,_,rfl,_⟩:=h;rfl) | (obtain ⟨_,_,_,_,rfl,_⟩:=h;rfl) | (obtain ⟨_,_,_,_,_,rfl,_⟩:=h;rfl) | (obtain ⟨_,_,_,_,_,_,rfl,_⟩:=h;rfl) | (obtain ⟨_,_,_,_,_,_,_,rfl,_⟩:=h;rfl))) (fun cdv A outer s H hr=>?_)
 have hu:=hr.units
 refine ⟨_,(ao (eS PassesOwn.never rfl (aa 0) (bg (i:=3) oE.nd rfl (Or.inl rfl)) (ay (iV PassesOwn.never rfl (by rfl) T.dH (af aj ak) (bg (i:=4) oE.nd rfl (Or.inl rfl)) (ay (aZ (nK.pt (kL (aD (dj hu) (aJ (aa 3) (aq cO (aa 4) aj)) (aa 1) (az _)) (gU (aD (dj hu) (aJ (aa 3) (aq cO (aa 4) aj)) (aa 2) (az _))))) (ay (aC (aJ (aa 3) (aa 4)))) aN)))))
  (ay (aC cG))),fun ds M Q h=>?_⟩
 obtain ⟨l,a,b,rfl,ts,hM,hts,h⟩:=h
 walk_at "rd"
 refine ⟨l,_,rfl,hM,?_⟩
 refine aF (fun i ρ M'=>M'=M∧∃ y1 y2:Option L3.D,ρ= [some (.ref l),some a.d,some b.d,y1,y2]) _ ?_ ?_ ⟨rfl,_,_,rfl⟩
 ·rintro i x ρ M' N hx ⟨rfl,y1,y2,rfl⟩ hN
  obtain ⟨t,ht,rfl⟩:=c8 hx
  have mt:=List.mem_of_getElem? ht
  obtain ⟨u,v,w',rfl,_⟩:=hts t mt
  refine ⟨hM,?_⟩
  walk_at "rd"
  rw [cL]
  refine aR (fun k1=>?_) (fun k1=>?_)
  ·walk_at "rd"
   rw [cL]
   refine aR (fun k2=>?_) (fun k2=>?_)
   ·have k1:=of_decide_eq_true k1
    have k2:=of_decide_eq_true k2
    subst k1 k2
    walk_at "rd"
    exact aI.mk ⟨_,Le.refl _,h (some u) ⟨_,mt,.inl rfl⟩⟩
   ·walk_at "rd"
    rw [cL]
    refine aR (fun k1=>?_) (fun k1=>?_)
    ·walk_at "rd"
     rw [cL]
     refine aR (fun k2=>?_) (fun k2=>?_)
     ·have k1:=of_decide_eq_true k1
      have k2:=of_decide_eq_true k2
      subst k1 k2
      walk_at "rd"
      exact aI.mk ⟨_,Le.refl _,h (some v) ⟨_,mt,.inr (.inl rfl)⟩⟩
     ·walk_at "rd"
      rw [cL]
      refine aR (fun k1=>?_) (fun k1=>?_)
      ·walk_at "rd"
       rw [cL]
       refine aR (fun k2=>?_) (fun k2=>?_)
       ·have k1:=of_decide_eq_true k1
        have k2:=of_decide_eq_true k2
        subst k1 k2
        walk_at "rd"
        exact aI.mk ⟨_,Le.refl _,h (some w') ⟨_,mt,.inr (.inr rfl)⟩⟩
       ·walk_at "rd"
        exact hN _ _ ⟨rfl,_,_,rfl⟩
      ·walk_at "rd"
       exact hN _ _ ⟨rfl,_,_,rfl⟩
    ·walk_at "rd"
     rw [cL]
     refine aR (fun k1=>?_) (fun k1=>?_)
     ·walk_at "rd"
      rw [cL]
      refine aR (fun k2=>?_) (fun k2=>?_)
      ·have k1:=of_decide_eq_true k1
       have k2:=of_decide_eq_true k2
       subst k1 k2
       walk_at "rd"
       exact aI.mk ⟨_,Le.refl _,h (some w') ⟨_,mt,.inr (.inr rfl)⟩⟩
      ·walk_at "rd"
       exact hN _ _ ⟨rfl,_,_,rfl⟩
     ·walk_at "rd"
      exact hN _ _ ⟨rfl,_,_,rfl⟩
  ·walk_at "rd"
   rw [cL]
   refine aR (fun k1=>?_) (fun k1=>?_)
   ·walk_at "rd"
    rw [cL]
    refine aR (fun k2=>?_) (fun k2=>?_)
    ·have k1:=of_decide_eq_true k1
     have k2:=of_decide_eq_true k2
     subst k1 k2
     walk_at "rd"
     exact aI.mk ⟨_,Le.refl _,h (some v) ⟨_,mt,.inr (.inl rfl)⟩⟩
    ·walk_at "rd"
     rw [cL]
     refine aR (fun k1=>?_) (fun k1=>?_)
     ·walk_at "rd"
      rw [cL]
      refine aR (fun k2=>?_) (fun k2=>?_)
      ·have k1:=of_decide_eq_true k1
       have k2:=of_decide_eq_true k2
       subst k1 k2
       walk_at "rd"
       exact aI.mk ⟨_,Le.refl _,h (some w') ⟨_,mt,.inr (.inr rfl)⟩⟩
      ·walk_at "rd"
       exact hN _ _ ⟨rfl,_,_,rfl⟩
     ·walk_at "rd"
      exact hN _ _ ⟨rfl,_,_,rfl⟩
   ·walk_at "rd"
    rw [cL]
    refine aR (fun k1=>?_) (fun k1=>?_)
    ·walk_at "rd"
     rw [cL]
     refine aR (fun k2=>?_) (fun k2=>?_)
     ·have k1:=of_decide_eq_true k1
      have k2:=of_decide_eq_true k2
      subst k1 k2
      walk_at "rd"
      exact aI.mk ⟨_,Le.refl _,h (some w') ⟨_,mt,.inr (.inr rfl)⟩⟩
     ·walk_at "rd"
      exact hN _ _ ⟨rfl,_,_,rfl⟩
    ·walk_at "rd"
     exact hN _ _ ⟨rfl,_,_,rfl⟩
 ·rintro ρ M' ⟨rfl,y1,y2,rfl⟩
  refine ⟨hM,?_⟩
  walk_at "rd"
  exact aI.mk ⟨_,Le.refl _,h none trivial⟩
theorem iM (T:Txt K mg t):Binds K t.mj ["_law_a","_law_b","_law_c"] []:=T.fL.binds fun _ _ _ _ _ _ us hl=>match us,hl with | [_,_,_],_=>rfl
def laid (a b c:Pl):List Pl:=if aT b a∧aT b c then [b,c,a] else if aT c a∧aT c b then [c,a,b] else [a,b,c]
def Am:sW:=fun ds Q=> ∃ a b c:Pl,ds= [a.d,b.d,c.d]∧Q (tD (laid a b c))
theorem iN (T:Txt K mg t):bP P w K mg base dZ 1 t.n9 t.mj ["_law_a","_law_b","_law_c"] (rY K Am):=by
 refine wW T.fL yJ (fun ds Q h=>by (first | (obtain ⟨_,rfl,_⟩:=h;rfl) | (obtain ⟨_,_,rfl,_⟩:=h;rfl) | (obtain ⟨_,_,_,rfl,_⟩:=h;rfl) | (obtain ⟨_,_,_,_,rfl,_⟩:=h;rfl) | (obtain ⟨_,_,_,_,_,rfl,_⟩:=h;rfl) | (obtain ⟨_,_,_,_,_,_,rfl,_⟩:=h;rfl) | (obtain ⟨_,_,_,_,_,_,_,rfl,_⟩:=h;rfl))) (fun cdv A outer s H hr=>?_)
 have hu:=hr.units
 refine ⟨_,(ao (aZ (nK.pt (kL (aD (jy hu) (aa 1) (aa 0) (az _)) (gU (aD (jy hu) (aa 1) (aa 2) (az _))))) (ay (aC (aY (af (aa 1) (af (aa 2) (af (aa 0) ak)))))) aN)
  (ao (aZ (nK.pt (kL (aD (jy hu) (aa 2) (aa 0) (az _)) (gU (aD (jy hu) (aa 2) (aa 1) (az _))))) (ay (aC (aY (af (aa 2) (af (aa 0) (af (aa 1) ak)))))) aN)
  (ay (aC (aY (af (aa 0) (af (aa 1) (af (aa 2) ak)))))))),fun ds Q h=>?_⟩
 obtain ⟨a,b,c,rfl,h⟩:=h
 unfold laid at h
 walk_at "rd"
 rw [cM]
 refine aR (fun k1=>?_) (fun k1=>?_)
 ·walk_at "rd"
  rw [cM]
  refine aR (fun k2=>?_) (fun k2=>?_)
  ·rw [if_pos ⟨of_decide_eq_true k1,of_decide_eq_true k2⟩] at h
   walk_at "rd"
   exact h
  ·rw [if_neg (fun z=>k2 (decide_eq_true z.2))] at h
   walk_at "rd"
   rw [cM]
   refine aR (fun k3=>?_) (fun k3=>?_)
   ·walk_at "rd"
    rw [cM]
    refine aR (fun k4=>?_) (fun k4=>?_)
    ·rw [if_pos ⟨of_decide_eq_true k3,of_decide_eq_true k4⟩] at h
     walk_at "rd"
     exact h
    ·rw [if_neg (fun z=>k4 (decide_eq_true z.2))] at h
     walk_at "rd"
     exact h
   ·rw [if_neg (fun z=>k3 (decide_eq_true z.1))] at h
    walk_at "rd"
    exact h
 ·rw [if_neg (fun z=>k1 (decide_eq_true z.1))] at h
  walk_at "rd"
  rw [cM]
  refine aR (fun k3=>?_) (fun k3=>?_)
  ·walk_at "rd"
   rw [cM]
   refine aR (fun k4=>?_) (fun k4=>?_)
   ·rw [if_pos ⟨of_decide_eq_true k3,of_decide_eq_true k4⟩] at h
    walk_at "rd"
    exact h
   ·rw [if_neg (fun z=>k4 (decide_eq_true z.2))] at h
    walk_at "rd"
    exact h
  ·rw [if_neg (fun z=>k3 (decide_eq_true z.1))] at h
   walk_at "rd"
   exact h
theorem bD (T:Txt K mg t):Binds K t.jY ["_law_a","_law_b","_law_c"] []:=T.bu.binds fun _ _ _ _ _ _ us hl=>match us,hl with | [_,_,_],_=>rfl
def yP:sW:=fun ds Q=> ∃ a b c:Pl,ds= [a.d,b.d,c.d]∧a.Ok 140∧b.Ok 140∧c.Ok 140∧Q (.int (tw a b c))
theorem bE (T:Txt K mg t):bP P w K mg base dZ 1 t.mw t.jY ["_law_a","_law_b","_law_c"] (rY K yP):=by
 refine wW T.bu vX (fun ds Q h=>by (first | (obtain ⟨_,rfl,_⟩:=h;rfl) | (obtain ⟨_,_,rfl,_⟩:=h;rfl) | (obtain ⟨_,_,_,rfl,_⟩:=h;rfl) | (obtain ⟨_,_,_,_,rfl,_⟩:=h;rfl) | (obtain ⟨_,_,_,_,_,rfl,_⟩:=h;rfl) | (obtain ⟨_,_,_,_,_,_,rfl,_⟩:=h;rfl) | (obtain ⟨_,_,_,_,_,_,_,rfl,_⟩:=h;rfl))) (fun cdv A outer s H hr=>?_)
 have hu:=hr.units
 refine ⟨_,(ay (aC (aq cO (aq cZ (aq cO (aJ (aa 1) aj) (aJ (aa 0) aj)) (aq cO (aJ (aa 2) aj) (aJ (aa 0) aj))) (aq cZ (aq cO (aJ (aa 1) aj) (aJ (aa 0) aj)) (aq cO (aJ (aa 2) aj) (aJ (aa 0) aj)))))),fun ds Q h=>?_⟩
 obtain ⟨a,b,c,rfl,⟨a1,a2⟩,⟨b1,b2⟩,⟨c1,c2⟩,h⟩:=h
 unfold tw at h
 walk_at "rd"
 exact h
theorem sj (T:Txt K mg t):Binds K t.gX ["_law_cover_here","_law_a","_law_b"] []:=T.jl.binds fun _ _ _ _ _ _ us hl=>match us,hl with | [_,_,_],_=>rfl
theorem mX {a b c:Pl} (h:0 < tw a b c):qz (laid a b c)∧(laid a b c).Perm [a,b,c]:=by
 obtain ⟨n1,n2,n3⟩:=Ck (show tw a b c≠0 by omega)
 unfold laid
 by_cases k:aT b a∧aT b c
 ·rw [if_pos k]
  exact ⟨⟨b,c,a,rfl,k.2,k.1,by rw [gu];exact h⟩,(List.perm_append_comm (l₁:=[b,c]) (l₂:=[a]))⟩
 ·rw [if_neg k]
  by_cases k2:aT c a∧aT c b
  ·rw [if_pos k2]
   exact ⟨⟨c,a,b,rfl,k2.1,k2.2,by rw [← gu c a b];exact h⟩,(List.perm_append_comm (l₁:=[c]) (l₂:=[a,b]))⟩
  ·rw [if_neg k2]
   have ab:aT a b:=by
    rcases gW n1 with z | z
    ·exact z
    ·rcases gW n3 with y | y
     ·exact absurd ⟨z,y⟩ k
     ·exact absurd ⟨b9 y z,y⟩ k2
   have ac:aT a c:=by
    rcases gW n2 with z | z
    ·exact z
    ·exact absurd ⟨z,b9 z ab⟩ k2
   exact ⟨⟨a,b,c,rfl,ab,ac,h⟩,.refl _⟩
theorem yQ {a b c:Pl} (h:qz [a,b,c]):0 < tw a b c:=by
 obtain ⟨u,v,w,e,_,_,p⟩:=h
 injection e with e1 e
 injection e with e2 e
 injection e with e3 e
 rw [e1,e2,e3]
 exact p
theorem An {ps:List Pl} {ts:List (List Pl)} {a b c:Pl} (h:Nk ts a b (some c)) (hT:∀ t∈ts,Ae ps t):0 < tw a b c∧laid a b c∈ts∧a∈ps∧b∈ps∧c∈ps:=by
 obtain ⟨t,ht,e⟩:=h
 obtain ⟨h1,h2⟩:=hT t ht
 have r1:=gu a b c
 have r2:=gu b c a
 rcases e with rfl | rfl | rfl
 ·have p:0 < tw a b c:=by have:=yQ h1;omega
  obtain ⟨k1,k2⟩:=mX p
  refine ⟨p,?_,h2 a (by simp),h2 b (by simp),h2 c (by simp)⟩
  rw [k1.uniq h1 (k2.trans (List.perm_append_comm (l₁:=[a,b]) (l₂:=[c])))]
  exact ht
 ·have p:0 < tw a b c:=by have:=yQ h1;omega
  obtain ⟨k1,k2⟩:=mX p
  refine ⟨p,?_,h2 a (by simp),h2 b (by simp),h2 c (by simp)⟩
  rw [k1.uniq h1 (k2.trans (List.perm_append_comm (l₁:=[a]) (l₂:=[b,c])))]
  exact ht
 ·have p:0 < tw a b c:=yQ h1
  obtain ⟨k1,k2⟩:=mX p
  refine ⟨p,?_,h2 a (by simp),h2 b (by simp),h2 c (by simp)⟩
  rw [k1.uniq h1 k2]
  exact ht
theorem Fq {a b c d:Pl} (h1:0 < tw a b c) (h2:0 < tw b a d):laid a b c≠laid b a d:=fun e=>by
 obtain ⟨_,k1⟩:=mX h1
 obtain ⟨_,k2⟩:=mX h2
 rw [e] at k1
 have k:=k1.symm.trans k2
 have m:c∈[b,a,d]:=k.mem_iff.mp (by simp)
 obtain ⟨_,n2,n3⟩:=Ck (show tw a b c≠0 by omega)
 simp only [List.mem_cons,List.not_mem_nil,or_false] at m
 rcases m with m | m | m
 ·exact n3 m.symm
 ·exact n2 m.symm
 ·rw [m] at h1
  have:=dN a b d
  omega
theorem Ft {a b c d:Pl} (h1:0 < tw a b c) (h2:0 < tw b a d) (h:tw c d a*tw c d b < 0):0 < tw a d c∧0 < tw b c d:=by
 have e1:tw a d c= - tw c d a:=by unfold tw;grind
 have e2:tw b c d=tw c d b:=by unfold tw;grind
 have e3:tw c d b - tw c d a=tw a b c+tw b a d:=by unfold tw;grind
 rw [e1,e2]
 generalize tw c d a=A at *
 generalize tw c d b=B at *
 rcases Int.lt_trichotomy A 0 with z | z | z
 ·refine ⟨by omega,?_⟩
  apply Classical.byContradiction
  intro w
  have:=Int.mul_nonneg_of_nonpos_of_nonpos (a:=A) (b:=B) (by omega) (by omega)
  omega
 ·rw [z,Int.zero_mul] at h;omega
 ·have:=Int.mul_nonneg (a:=A) (b:=B) (by omega) (by omega)
  omega
theorem oY {f:List Pl→Bool} {g:List Pl}:∀ {ts:List (List Pl)},g∈ts→f g=false→(ts.filter f).length+1≤ts.length
 | [],h,_=>by cases h
 | t :: ts,h,hf=>by
   rw [List.filter_cons,List.length_cons]
   have l:=List.length_filter_le f ts
   by_cases e:t=g
   ·rw [e,if_neg (by rw [hf];simp)]
    omega
   ·rcases List.mem_cons.mp h with h | h
    ·exact absurd h.symm e
    ·have:=oY h hf
     split
     ·rw [List.length_cons];omega
     ·omega
theorem Ir {f:List Pl→Bool} {g1 g2:List Pl} (n:g1≠g2) (f1:f g1=false) (f2:f g2=false):∀ {ts:List (List Pl)},g1∈ts→g2∈ts→(ts.filter f).length+2≤ts.length
 | [],h,_=>by cases h
 | t :: ts,h1,h2=>by
   rw [List.filter_cons,List.length_cons]
   by_cases e:t=g1
   ·rw [e,if_neg (by rw [f1];simp)]
    rcases List.mem_cons.mp h2 with h | h
    ·rw [e] at h;exact absurd h.symm n
    ·have:=oY h f2;omega
   ·by_cases e2:t=g2
    ·rw [e2,if_neg (by rw [f2];simp)]
     rcases List.mem_cons.mp h1 with h | h
     ·exact absurd h.symm e
     ·have:=oY h f1;omega
    ·rcases List.mem_cons.mp h1 with h | h
     ·exact absurd h.symm e
     ·rcases List.mem_cons.mp h2 with h' | h'
      ·exact absurd h'.symm e2
      ·have:=Ir n f1 f2 h h'
       split
       ·rw [List.length_cons];omega
       ·omega
def uR:m9:=fun ds M Q=> ∃ (l:Addr) (a b:Pl),ds= [.ref l,a.d,b.d]∧∃ (ps:List Pl) (ts:List (List Pl)),M l=some (.lst (ts.map tD))∧(∀ t∈ts,Ae ps t)∧ts.length≤15∧(∀ q∈ps,q.Ok 140)∧∀ (p:Addr) (us:List (List Pl)) (M':Mp),Le M M'→M' p=some (.lst (us.map tD))→(∀ t∈us,Ae ps t)→us.length≤15→Q (.ref p) M'
theorem sA (T:Txt K mg t):bP P w K mg base dZ 2 t.i7 t.gX ["_law_cover_here","_law_a","_law_b"] (nv K uR):=by
 refine pJ T.jl fk (fun ds M Q h=>by (first | (obtain ⟨_,rfl,_⟩:=h;rfl) | (obtain ⟨_,_,rfl,_⟩:=h;rfl) | (obtain ⟨_,_,_,rfl,_⟩:=h;rfl) | (obtain ⟨_,_,_,_,rfl,_⟩:=h;rfl) | (obtain ⟨_,_,_,_,_,rfl,_⟩:=h;rfl) | (obtain ⟨_,_,_,_,_,_,rfl,_⟩:=h;rfl) | (obtain ⟨_,_,_,_,_,_,_,rfl,_⟩:=h;rfl))) (fun cdv A outer s H hr=>?_)
 have hu:=hr.units
 refine ⟨_,(ao (aM (i:=3) fk.nd rfl (Or.inl rfl) (bf (rT T) (hr.mono (by decide)) (by rfl) T.uF T.mO.kp (rS T) (af (aa 0) (af (aa 1) (af (aa 2) ak)))))
  (ao (aM (i:=4) fk.nd rfl (Or.inl rfl) (bf (rT T) (hr.mono (by decide)) (by rfl) T.uF T.mO.kp (rS T) (af (aa 0) (af (aa 2) (af (aa 1) ak)))))
  (ao (aZ (nK.pt (qg (aD iD (aa 3) cG (az _)) (qg (aD iD (aa 4) cG (az _)) (kK (aD OQ (aq cZ (aE (bE T) (hr.mono (by decide)) (by rfl) T.bT T.bu.kp (bD T) (af (aa 3) (af (aa 4) (af (aa 1) ak)))) (aE (bE T) (hr.mono (by decide)) (by rfl) T.bT T.bu.kp (bD T) (af (aa 3) (af (aa 4) (af (aa 2) ak))))) aj (az _)))))) (ay (aC (aa 0))) aN)
  (ao (aM (i:=5) fk.nd rfl (Or.inr rfl) (bN (af (aE (iN T) (hr.mono (by decide)) (by rfl) T.jB T.fL.kp (iM T) (af (aa 1) (af (aa 2) (af (aa 3) ak)))) (af (aE (iN T) (hr.mono (by decide)) (by rfl) T.jB T.fL.kp (iM T) (af (aa 2) (af (aa 1) (af (aa 4) ak)))) ak))))
  (ay (aC (aK (ri (n:=3) (.inr rfl) hu) (by rfl) T.dI cy (af (aq fJ (rZ (iB (ys:=["_law_gone"]) (fs:=[5]) rfl (by show b8 (au fM) ["_law_cover_here","_law_a","_law_b","_law_c","_law_d","_law_gone"] _ _ _ _=true;decide +kernel) (aa 0) (fun cl C s0 H0 ex=>nc (aD (ff hu) (aa 0) (aa 1) (by with_unfolding_all rfl))) (fun cl C s0 H0 ex=>(aa 0)))) (bN (af (aE (iN T) (hr.mono (by decide)) (by rfl) T.jB T.fL.kp (iM T) (af (aa 1) (af (aa 4) (af (aa 3) ak)))) (af (aE (iN T) (hr.mono (by decide)) (by rfl) T.jB T.fL.kp (iM T) (af (aa 2) (af (aa 3) (af (aa 4) ak)))) ak)))) ak)))))))),fun ds M Q h=>?_⟩
 obtain ⟨l,a,b,rfl,ps,ts,hM,hT,lt,ho,h⟩:=h
 have sl:(1000:Nat) < sizeLine:=by decide
 have FZ:∀ t∈ts,Tr t:=fun t ht=>(hT t ht).tr ho
 have same:aI (∃ M0,Le M0 M∧Q (.ref l) M0):=aI.mk ⟨M,Le.refl _,h l ts M (Le.refl _) hM hT lt⟩
 walk_at "rd"
 refine ⟨ts,hM,FZ,fun r1 hr1=>?_⟩
 walk_at "rd"
 refine ⟨ts,hM,FZ,fun r2 hr2=>?_⟩
 cases r1 with
 | none=>
   walk_at "rd"
   exact same
 | some c=>
   cases r2 with
   | none=>
     walk_at "rd"
     exact same
   | some d=>
     obtain ⟨p1,m1,ma,mb,mc⟩:=An hr1 hT
     obtain ⟨p2,m2,_,_,md⟩:=An hr2 hT
     have t1:=nQ (ho c mc) (ho d md) (ho a ma)
     have t2:=nQ (ho c mc) (ho d md) (ho b mb)
     walk_at "rd"
     refine ⟨ho c mc,ho d md,ho a ma,?_⟩
     walk_at "rd"
     refine ⟨ho c mc,ho d md,ho b mb,?_⟩
     walk_at "rd"
     refine aR (fun k=>?_) (fun k=>?_)
     ·walk_at "rd"
      exact same
     have k:tw c d a*tw c d b < 0:=by
      apply Classical.byContradiction
      intro z
      exact k (decide_eq_true (Int.not_lt.mp z))
     obtain ⟨q1,q2⟩:=Ft p1 p2 k
     have R9:=Fq p1 p2
     obtain ⟨i1,j1⟩:=mX q1
     obtain ⟨i2,j2⟩:=mX q2
     have in1:Ae ps (laid a d c):=⟨i1,fun q hq=>by
      have:=j1.mem_iff.mp hq
      simp only [List.mem_cons,List.not_mem_nil,or_false] at this
      rcases this with rfl | rfl | rfl <;> assumption⟩
     have Sa:Ae ps (laid b c d):=⟨i2,fun q hq=>by
      have:=j2.mem_iff.mp hq
      simp only [List.mem_cons,List.not_mem_nil,or_false] at this
      rcases this with rfl | rfl | rfl <;> assumption⟩
     walk_at "rd"
     intro g hg
     have eG: [tD (laid a b c),tD (laid b a d)]= [laid a b c,laid b a d].map tD:=rfl
     have eN: [tD (laid a d c),tD (laid b c d)]= [laid a d c,laid b c d].map tD:=rfl
     have hfe:∀ f:List Pl→Bool,(∀ t,f t=decide (t∉[laid a b c,laid b a d]))→(ts.filter f).length+2≤ts.length:=fun f hf=>Ir R9 (by rw [hf];simp) (by rw [hf];simp) m1 m2
     have hfe:=hfe (fun t=>decide (t∉[laid a b c,laid b a d])) fun t=>rfl
     try rw [eG]
     generalize [laid a b c,laid b a d]=gs at hfe ⊢
     have hM:=ai (u:=MO.lst (gs.map tD)) hM hg
     have le:=Le.new (o:=MO.lst (gs.map tD)) hg
     have hG:aA M g (.lst (gs.map tD)) g=some (.lst (gs.map tD)):=ah
     generalize aA M g (.lst (gs.map tD))=M1 at hM hG le ⊢
     walk_at "rd"
     refine ⟨l,_,rfl,hM,by rw [List.length_map];omega,aI.mk (bR (fun j acc M5=>M5=M1∧acc=((ts.take j).filter (fun t=>decide (t∉gs))).map tD) _ ?_ ?_ ⟨rfl,rfl⟩)⟩
     ·rintro j v acc M5 N2 mY ⟨rfl,rfl⟩ pP
      obtain ⟨t',ht,rfl⟩:=c8 mY
      refine ⟨hM,?_⟩
      walk_at "rd"
      refine ⟨_,.inr ⟨g,rfl,hG⟩,o8 t',bq gs,?_⟩
      walk_at "rd"
      rw [qG,if_pos rfl]
      refine aR (fun k=>?_) (fun k=>?_)
      ·have k:t'∉gs:=fun z=>by rw [decide_eq_true z] at k;cases k
       walk_at "rd"
       refine pP _ _ ⟨rfl,?_⟩
       rw [bO ht,if_pos (decide_eq_true k),List.map_append]
       rfl
      ·have k:t'∈gs:=Classical.byContradiction fun z=>k (by rw [decide_eq_false z];rfl)
       refine pP _ _ ⟨rfl,?_⟩
       rw [bO ht,if_neg (fun z=>of_decide_eq_true (p:=t'∉gs) z k),List.append_nil]
     ·rintro acc M5 ⟨rfl,rfl⟩
      refine ⟨hM,fun f hf=>?_⟩
      rw [List.length_map,List.take_length]
      have hT2:∀ t∈ts.filter (fun t=>decide (t∉gs)),Ae ps t:=fun t ht=>hT t (List.mem_filter.mp ht).1
      generalize ts.filter (fun t=>decide (t∉gs))=fs at hfe hT2 ⊢
      have le:=le.trans (Le.new (o:=MO.lst (fs.map tD)) hf)
      have hF:aA M5 f (.lst (fs.map tD)) f=some (.lst (fs.map tD)):=ah
      generalize aA M5 f (.lst (fs.map tD))=M6 at hF le ⊢
      walk_at "rd"
      intro e he
      have lf:([laid a d c,laid b c d]:List (List Pl)).length=2:=rfl
      have NR:∀ t∈[laid a d c,laid b c d],Ae ps t:=fun t ht=>by
       simp only [List.mem_cons,List.not_mem_nil,or_false] at ht
       rcases ht with rfl | rfl
       ·exact in1
       ·exact Sa
      try rw [eN]
      clear eN eG
      generalize [laid a d c,laid b c d]=ns at *
      have hF:=ai (u:=MO.lst (ns.map tD)) hF he
      have le:=le.trans (Le.new (o:=MO.lst (ns.map tD)) he)
      have hE:aA M6 e (.lst (ns.map tD)) e=some (.lst (ns.map tD)):=ah
      generalize aA M6 e (.lst (ns.map tD))=M7 at hF hE le ⊢
      refine ⟨f,e,_,_,rfl,rfl,hF,hE,by rw [List.length_map,List.length_map];omega,fun u eL=>?_⟩
      rw [← List.map_append]
      have P5:∀ t∈fs ++ ns,Ae ps t:=fun t ht=>by
       rcases List.mem_append.mp ht with ht | ht
       ·exact hT2 t ht
       ·exact NR t ht
      have l4:(fs ++ ns).length≤15:=by rw [List.length_append];omega
      generalize fs ++ ns=rs at P5 l4 ⊢
      have le:=le.trans (Le.new (o:=MO.lst (rs.map tD)) eL)
      have hU:aA M7 u (.lst (rs.map tD)) u=some (.lst (rs.map tD)):=ah
      generalize aA M7 u (.lst (rs.map tD))=M8 at hU le ⊢
      walk_at "rd"
      refine ⟨u,rs,rfl,hU,fun t ht=>?_,by omega,fun x vs hx bF _=>?_⟩
      ·obtain ⟨⟨u,v,w,e,_⟩,_⟩:=P5 t ht
       rw [e]
       rfl
      exact aI.mk ⟨_,Le.refl _,h x vs _ (le.trans (Le.new hx)) ah (fun t ht=>P5 t (bF.mem_iff.mp ht)) (by rw [bF.length_eq];exact l4)⟩
theorem wc (T:Txt K mg t):Binds K t.jZ ["_law_script","_law_start","_law_cover_here"] []:=T.mP.binds fun _ _ _ _ _ _ us hl=>match us,hl with | [_,_,_],_=>rfl
theorem QS (x y w:Pl) {i:Int} (h0:0≤i) (h3:i < 3):∃ p:Pl,pR [x.d,y.d,w.d] i=some p.d:=by
 have:i=0∨i=1∨i=2:=by omega
 rcases this with rfl | rfl | rfl
 ·exact ⟨x,rfl⟩
 ·exact ⟨y,rfl⟩
 ·exact ⟨w,rfl⟩
def yR:m9:=fun ds M Q=> ∃ (ns:List Int) (k:Int) (l:Addr),ds= [.tF (ns.map L3.D.int),.int k,.ref l]∧(∀ z∈ns,Att.A8 z)∧ns.length≤63∧0≤k∧k≤900∧∃ (ps:List Pl) (ts:List (List Pl)),M l=some (.lst (ts.map tD))∧(∀ t∈ts,Ae ps t)∧ts.length≤15∧(∀ q∈ps,q.Ok 140)∧∀ (p:Addr) (us:List (List Pl)) (M':Mp),Le M M'→M' p=some (.lst (us.map tD))→(∀ t∈us,Ae ps t)→us.length≤15→Q (.ref p) M'
theorem we (T:Txt K mg t):bP P w K mg base dZ 3 t.mC t.jZ ["_law_script","_law_start","_law_cover_here"] (nv K yR):=by
 refine pJ T.mP eY (fun ds M Q h=>by (first | (obtain ⟨_,rfl,_⟩:=h;rfl) | (obtain ⟨_,_,rfl,_⟩:=h;rfl) | (obtain ⟨_,_,_,rfl,_⟩:=h;rfl) | (obtain ⟨_,_,_,_,rfl,_⟩:=h;rfl) | (obtain ⟨_,_,_,_,_,rfl,_⟩:=h;rfl) | (obtain ⟨_,_,_,_,_,_,rfl,_⟩:=h;rfl) | (obtain ⟨_,_,_,_,_,_,_,rfl,_⟩:=h;rfl))) (fun cdv A outer s H hr=>?_)
 have hu:=hr.units
 refine ⟨_,(ao (iV PassesOwn.never rfl (by rfl) T.dH (af aj ak) (bg (i:=3) eY.nd rfl (Or.inl rfl)) (ao (aM (i:=4) eY.nd rfl (Or.inl rfl) (aE (bJ T) (hr.mono (by decide)) (by rfl) T.bV T.bC.kp (bI T) (af (aa 0) (af (aq cC (aa 1) (aa 3)) ak))))
  (ay (aZ (aD (qZ hu) (aa 2) (bN ak) (az _)) (ao (aM (i:=5) eY.nd rfl (Or.inl rfl) (aJ (aa 2) (aq aW (aq cD (aa 4) aj) (aK cU (by rfl) T.cj aQ (af (aa 2) ak)))))
  (ay (aM (i:=2) eY.nd rfl (Or.inl rfl) (bf (sA T) (hr.mono (by decide)) (by rfl) T.uG T.jl.kp (sj T) (af (aa 2) (af (aJ (aa 5) (aq aW (aa 4) aj)) (af (aJ (aa 5) (aq aW (aq cC (aa 4) aj) aj)) ak))))))) aN))))
  (ay (aC (aa 2)))),fun ds M Q h=>?_⟩
 obtain ⟨ns,k,l,rfl,hb,hlen,k0,k1,ps,ts,hM,hT,lt,ho,h⟩:=h
 generalize h6:(6:Int)=n6
 walk_at "rd"
 refine ⟨by omega,by omega,?_⟩
 refine aF (fun i ρ M'=> ∃ (q:Addr) (us:List (List Pl)) (y1 y2 y3:Option L3.D),ρ= [some (.tF (ns.map L3.D.int)),some (.int k),some (.ref q),y1,y2,y3]∧Le M M'∧M' q=some (.lst (us.map tD))∧(∀ t∈us,Ae ps t)∧us.length≤15) _ ?_ ?_ ⟨l,ts,_,_,_,rfl,Le.refl _,hM,hT,lt⟩
 ·rintro i v ρ M' N qO ⟨q,us,y1,y2,y3,rfl,le,hU,hT,lt⟩ hN
  obtain ⟨hi,rfl⟩:=bQ qO
  have hi:i < 6:=by omega
  refine ⟨trivial,?_⟩
  walk_at "rd"
  refine ⟨hb,hlen,by dsimp only;omega,by dsimp only;omega,fun z bz=>?_⟩
  walk_at "rd"
  intro e he
  refine ⟨_,_,.of (ai hU he),.of ah,bq _,rfl,?_⟩
  rw [fY]
  have le:=le.trans (Le.new (o:=MO.lst []) he)
  have hU:=ai (u:=MO.lst []) hU he
  generalize aA M' e (.lst [])=M1 at hU le ⊢
  cases es:us with
  | nil=>
    subst es
    walk_at "rd"
    exact hN _ _ ⟨q,[],_,_,_,rfl,le,hU,hT,lt⟩
  | cons u0 ur=>
    rw [← es]
    have en:(us.map tD).isEmpty=false:=by rw [es];rfl
    have lu:0 < us.length:=by rw [es];simp
    rw [en]
    walk_at "rd"
    refine ⟨_,_,rfl,.inr (.inr ⟨q,rfl,hU⟩),?_⟩
    rw [List.length_map]
    walk_at "rd"
    have j0:0≤z / 3 % (us.length:Int):=Int.emod_nonneg _ (by omega)
    have j1:z / 3 % (us.length:Int) < (us.length:Int):=Int.emod_lt_of_pos _ (by omega)
    obtain ⟨j,hj⟩:∃ j:Nat,z / 3 % (us.length:Int)=(j:Int):=⟨(z / 3 % (us.length:Int)).toNat,by omega⟩
    have lj:j < us.length:=by omega
    obtain ⟨t',ht⟩:∃ t',us[j]?=some t':=⟨us[j],List.getElem?_eq_getElem lj⟩
    obtain ⟨⟨x,y,v,et,_⟩,_⟩:=hT t' (List.mem_of_getElem? ht)
    subst et
    refine ⟨_,_,_,.inr (.inr ⟨q,rfl,hU⟩),rfl,(show pR (us.map tD) (z / 3 % (us.length:Int))=some (tD [x,y,v]) from by rw [hj];exact br (by rw [List.getElem?_map,ht];rfl)),?_⟩
    obtain ⟨a,ha⟩:=QS x y v (i:=z % 3) (by omega) (by omega)
    obtain ⟨b,hb'⟩:=QS x y v (i:=(z+1) % 3) (by omega) (by omega)
    walk_at "rd"
    refine ⟨_,_,_,Or.inl rfl,rfl,ha,?_⟩
    walk_at "rd"
    refine ⟨_,_,_,Or.inl rfl,rfl,hb',?_⟩
    walk_at "rd"
    refine ⟨ps,us,hU,hT,lt,ho,fun p' us' M2 KJ hU' Sb lt'=>?_⟩
    walk_at "rd"
    exact hN _ _ ⟨p',us',_,_,_,rfl,le.trans KJ,hU',Sb,lt'⟩
 ·rintro ρ M' ⟨q,us,y1,y2,y3,rfl,le,hU,hT,lt⟩
  refine ⟨trivial,?_⟩
  walk_at "rd"
  exact aI.mk ⟨_,Le.refl _,h q us M' le hU hT lt⟩
theorem yS (T:Txt K mg t):Binds K t.mD ["_law_script","_law_places_here","_law_triples"] []:=T.oj.binds fun _ _ _ _ _ _ us hl=>match us,hl with | [_,_,_],_=>rfl
theorem yT {a b c:Int} (ha:Sm 139 a) (hb:Sm 139 b) (hc:Sm 139 c):Sm 140 ((a+b+c) / 3):=by
 unfold Sm at *
 have:(2:Nat) ^ 140=2*2 ^ 139:=by rw [Nat.pow_succ,Nat.mul_comm]
 rw [this]
 generalize (2:Nat) ^ 139=n at *
 omega
def Ao:m9:=fun ds M Q=> ∃ (ns:List Int) (l c:Addr),ds= [.tF (ns.map L3.D.int),.ref l,.ref c]∧(∀ z∈ns,Att.A8 z)∧ns.length≤63∧∃ (ps:List Pl) (ts:List (List Pl)),M l=some (.lst (ps.map Pl.d))∧M c=some (.lst (ts.map tD))∧ps.Nodup∧(∀ q∈ps,q.Ok 139)∧ps.length≤7∧(∀ t∈ts,Ae ps t)∧ts.length≤15∧∀ (p:Addr) (qs:List Pl) (M':Mp),Le M M'→M' p=some (.lst (qs.map Pl.d))→qs.Nodup→(∀ q∈ps,q∈qs)→(∀ q∈qs,q.Ok 140)→qs.length≤12→Q (.ref p) M'
theorem yU (T:Txt K mg t):bP P w K mg base dZ 2 t.oh t.mD ["_law_script","_law_places_here","_law_triples"] (nv K Ao):=by
 refine pJ T.oj cT (fun ds M Q h=>by (first | (obtain ⟨_,rfl,_⟩:=h;rfl) | (obtain ⟨_,_,rfl,_⟩:=h;rfl) | (obtain ⟨_,_,_,rfl,_⟩:=h;rfl) | (obtain ⟨_,_,_,_,rfl,_⟩:=h;rfl) | (obtain ⟨_,_,_,_,_,rfl,_⟩:=h;rfl) | (obtain ⟨_,_,_,_,_,_,rfl,_⟩:=h;rfl) | (obtain ⟨_,_,_,_,_,_,_,rfl,_⟩:=h;rfl))) (fun cdv A outer s H hr=>?_)
 have hu:=hr.units
 refine ⟨_,(ao (aM (i:=3) cT.nd rfl (Or.inl rfl) (aE (bJ T) (hr.mono (by decide)) (by rfl) T.bV T.bC.kp (bI T) (af (aa 0) (af aj ak))))
  (ao (aM (i:=4) cT.nd rfl (Or.inl rfl) (aE (kH T) (hr.mono (by decide)) (by rfl) T.mK T.gc.kp (kG T) (af (aa 3) ak)))
  (ao (aZ (nK.pt (kL (aD (dj hu) (aq aW (aa 3) aj) aj (az _)) (gU (aD (ff hu) (aa 4) (aa 1) (by with_unfolding_all rfl))))) (ay (aC (aq fJ (bN (af (aa 4) ak)) (aa 1)))) aN)
  (ao (iV PassesOwn.never rfl (by rfl) T.dH (af (aK (Ea rfl) (by rfl) T.gE c6 (af (aK cU (by rfl) T.cj aQ (af (aa 2) ak)) (af (aq cZ (aq aW (aa 3) aj) (aq aW (aq cD (aa 3) aj) aj)) ak))) ak) (bg (i:=5) cT.nd rfl (Or.inl rfl)) (ao (aM (i:=6) cT.nd rfl (Or.inr rfl) (aJ (aa 2) (aq aW (aE (bJ T) (hr.mono (by decide)) (by rfl) T.bV T.bC.kp (bI T) (af (aa 0) (af (aq cC aj (aa 5)) ak))) (aK cU (by rfl) T.cj aQ (af (aa 2) ak)))))
  (ao (aM (i:=7) cT.nd rfl (Or.inr rfl) (aY (af (aq cD (aq cC (aq cC (aJ (aJ (aa 6) aj) aj) (aJ (aJ (aa 6) aj) aj)) (aJ (aJ (aa 6) aj) aj)) aj) (af (aq cD (aq cC (aq cC (aJ (aJ (aa 6) aj) aj) (aJ (aJ (aa 6) aj) aj)) (aJ (aJ (aa 6) aj) aj)) aj) ak))))
  (ay (aZ (nK.pt (kL (aD AO (aK (Kp rfl) (by rfl) T.gE c6 (af (rZ (MK (ys:=["_law_p","_law_t"]) (fs:=[7,6]) rfl (by show b8 (au jw) ["_law_script","_law_places_here","_law_triples","_law_number","_law_stranger","_law_k","_law_t","_law_p","_law_spot"] _ _ _ _=true;decide +kernel) (by rfl) T.dH (af aj ak) (fun cl C s0 H0 ex=>t6) (fun cl C s0 H0 ex=>(aE (bE T) (hr.mono (by decide)) (by rfl) T.bT T.bu.kp (bD T) (af (aJ (aa 2) (aq cO (aa 0) aj)) (af (aJ (aa 2) (aa 0)) (af (aa 1) ak))))))) ak)) aj (az _)) (gU (aD (ff hu) (aa 7) (aa 1) (by with_unfolding_all rfl))))) (ao (aM (i:=8) cT.nd rfl (Or.inl rfl) (aq aW (aq cD (aE (bJ T) (hr.mono (by decide)) (by rfl) T.bV T.bC.kp (bI T) (af (aa 0) (af (aq cC aj (aa 5)) ak))) aj) (aq cC (aK cU (by rfl) T.cj aQ (af (aa 1) ak)) aj)))
  (ay (aM (i:=1) cT.nd rfl (Or.inl rfl) (aq fJ (aq fJ (c7 (aa 1) qY (gw (aa 8))) (bN (af (aa 7) ak))) (c7 (aa 1) (gw (aa 8)) qY))))) aN)))))
  (ay (aC (aa 1))))))),fun ds M Q h=>?_⟩
 obtain ⟨ns,l,c,rfl,hb,hlen,ps,ts,hM,hC,nd,ho,l7,hT,lt,h⟩:=h
 have sl:(1000:Nat) < sizeLine:=by decide
 walk_at "rd"
 refine ⟨hb,hlen,by decide,by decide,fun z bz=>?_⟩
 walk_at "rd"
 refine ⟨bz,fun q hq=>?_⟩
 have uS:∀ q∈ps,q.Ok 140:=fun q hq=>⟨(ho q hq).1.le (by decide),(ho q hq).2.le (by decide)⟩
 walk_at "rd"
 rw [bM]
 refine aR (fun k=>?_) (fun k=>?_)
 ·walk_at "rd"
  refine ⟨_,.inr ⟨l,rfl,hM⟩,rfl,bH ps,?_⟩
  walk_at "rd"
  rw [iJ,if_pos rfl]
  refine aR (fun k2=>?_) (fun k2=>?_)
  ·have k2:q∉ps:=fun z=>by rw [decide_eq_true z] at k2;cases k2
   walk_at "rd"
   intro e he
   walk_at "rd"
   refine ⟨e,l,_,_,rfl,rfl,ah,ai hM he,by rw [List.length_map];show 1+_≤sizeLine;omega,fun x hx=>?_⟩
   refine aI.mk ⟨_,Le.refl _,h x (q :: ps) _ ((Le.new he).trans (Le.new hx)) (by rw [ah];rfl) (List.nodup_cons.mpr ⟨k2,nd⟩) (fun y hy=>List.mem_cons_of_mem _ hy) (fun y hy=>?_) (by rw [List.length_cons];omega)⟩
   rcases List.mem_cons.mp hy with e | hy
   ·rw [e];exact ⟨hq.1.le (by decide),hq.2.le (by decide)⟩
   ·exact uS y hy
  ·walk_at "rd"
   refine ⟨_,_,rfl,.inr (.inr ⟨c,rfl,hC⟩),?_⟩
   rw [List.length_map]
   have s1:Sm 2 (z % 3):=Sm.of_bounds (by have:=Int.emod_nonneg z (show (3:Int)≠0 by decide);show -(4:Int) < _;omega) (by show _ < (4:Int);omega)
   have s2:Sm 2 (z / 3 % 3):=Sm.of_bounds (by show -(4:Int) < _;omega) (by show _ < (4:Int);omega)
   have g4:0≤z % 3*(z / 3 % 3)∧z % 3*(z / 3 % 3)≤4:=by
    have h1:z % 3=0∨z % 3=1∨z % 3=2:=by omega
    rcases h1 with e | e | e <;> rw [e] <;> omega
   walk_at "rd"
   obtain ⟨w3,P6,w0,w4⟩:∃ w3,(fun i j:Int=>i*j) ((fun i j:Int=>i % j) z 3) ((fun i j:Int=>i % j) ((fun i j:Int=>i / j) z 3) 3)=w3∧0≤w3∧w3≤4:=⟨_,rfl,g4⟩
   rw [P6]
   refine ⟨by omega,by omega,?_⟩
   refine aF (fun i ρ M'=> ∃ (a:Addr) (qs:List Pl) (y1 y2 y3 y4:Option L3.D),ρ= [some (.tF (ns.map L3.D.int)),some (.ref a),some (.ref c),some (.int z),some q.d,y1,y2,y3,y4]∧Le M M'∧M' a=some (.lst (qs.map Pl.d))∧qs.Nodup∧(∀ q∈ps,q∈qs)∧(∀ q∈qs,q.Ok 140)∧qs.length≤7+i) _ ?_ ?_ ⟨l,ps,_,_,_,_,rfl,Le.refl _,hM,nd,(fun q hq=>hq),uS,by omega⟩
   ·rintro i v ρ M' N qO ⟨a,qs,y1,y2,y3,y4,rfl,le,hA,zk,sub,oq,lq⟩ hN
    obtain ⟨hi,rfl⟩:=bQ qO
    have Sd:i < 4∧i < ts.length:=by omega
    have hC:=le _ _ hC
    refine ⟨trivial,?_⟩
    walk_at "rd"
    refine ⟨hb,hlen,by dsimp only;omega,by dsimp only;omega,fun z1 Nl=>?_⟩
    walk_at "rd"
    refine ⟨_,_,rfl,.inr (.inr ⟨c,rfl,hC⟩),?_⟩
    rw [List.length_map]
    walk_at "rd"
    have j0:0≤z1 % (ts.length:Int):=Int.emod_nonneg _ (by omega)
    have j1:z1 % (ts.length:Int) < (ts.length:Int):=Int.emod_lt_of_pos _ (by omega)
    obtain ⟨j,hj⟩:∃ j:Nat,z1 % (ts.length:Int)=(j:Int):=⟨(z1 % (ts.length:Int)).toNat,by omega⟩
    have lj:j < ts.length:=by omega
    obtain ⟨t',ht⟩:∃ t',ts[j]?=some t':=⟨ts[j],List.getElem?_eq_getElem lj⟩
    obtain ⟨⟨x,y,v,et,_⟩,it⟩:=hT t' (List.mem_of_getElem? ht)
    subst et
    have ox:=ho x (it x (by simp))
    have oy:=ho y (it y (by simp))
    have ov:=ho v (it v (by simp))
    refine ⟨_,_,_,.inr (.inr ⟨c,rfl,hC⟩),rfl,(show pR (ts.map tD) (z1 % (ts.length:Int))=some (tD [x,y,v]) from by rw [hj];exact br (by rw [List.getElem?_map,ht];rfl)),?_⟩
    walk_at "rd"
    obtain ⟨pp,hpp,HN⟩:∃ pp:Pl,L3.D.tup [L3.D.int ((fun i j:Int=>i / j) ((fun i j:Int=>i+j) ((fun i j:Int=>i+j) x.x y.x) v.x) 3),L3.D.int ((fun i j:Int=>i / j) ((fun i j:Int=>i+j) ((fun i j:Int=>i+j) x.y y.y) v.y) 3)]=pp.d∧pp.Ok 140:=⟨⟨(x.x+y.x+v.x) / 3,(x.y+y.y+v.y) / 3⟩,rfl,yT ox.1 oy.1 ov.1,yT ox.2 oy.2 ov.2⟩
    rw [hpp]
    have gx:x.Ok 140:=⟨ox.1.le (by decide),ox.2.le (by decide)⟩
    have gy:y.Ok 140:=⟨oy.1.le (by decide),oy.2.le (by decide)⟩
    have gv:v.Ok 140:=⟨ov.1.le (by decide),ov.2.le (by decide)⟩
    refine aI.mk (bR (fun j acc M5=>M5=M'∧∃ ms:List Int,acc=ms.map L3.D.int∧ms.length=j) _ ?_ ?_ ⟨rfl,[],rfl,rfl⟩)
    ·rintro j d acc M5 N2 mY ⟨rfl,ms,rfl,HP⟩ pP
     obtain ⟨Nm,rfl⟩:=bQ mY
     have Nm:j=0∨j=1∨j=2:=by omega
     have fin:∀ m:Int,N2 (ms.map L3.D.int ++ [L3.D.int m]) M5:=fun m=>pP _ _ ⟨rfl,ms ++ [m],by rw [List.map_append];rfl,by rw [List.length_append,HP];rfl⟩
     refine ⟨trivial,?_⟩
     rcases Nm with rfl | rfl | rfl
     ·walk_at "rd"
      exact ⟨gv,gx,HN,fin _⟩
     ·walk_at "rd"
      exact ⟨gx,gy,HN,fin _⟩
     ·walk_at "rd"
      exact ⟨gy,gv,HN,fin _⟩
    ·rintro acc M5 ⟨rfl,ms,rfl,HP⟩
     refine ⟨trivial,fun e he=>?_⟩
     have le:=le.trans (Le.new (o:=MO.lst (ms.map L3.D.int)) he)
     have hA:=ai (u:=MO.lst (ms.map L3.D.int)) hA he
     have hE:aA M5 e (.lst (ms.map L3.D.int)) e=some (.lst (ms.map L3.D.int)):=ah
     generalize aA M5 e (.lst (ms.map L3.D.int))=M6 at hA hE le ⊢
     have nms:ms≠[]:=fun z=>by rw [z] at HP;exact absurd HP (by decide)
     have next:∀ (o:Option L3.D) (a':Addr) (BJ:List Pl) (M7:Mp),Le M M7→M7 a'=some (.lst (BJ.map Pl.d))→BJ.Nodup→(∀ q∈ps,q∈BJ)→(∀ q∈BJ,q.Ok 140)→BJ.length≤7+i+1→N [some (.tF (ns.map L3.D.int)),some (.ref a'),some (.ref c),some (.int z),some q.d,some (.int (i:Int)),some (tD [x,y,v]),some pp.d,o] M7:=fun o a' BJ M7 h1 h2 h3 h4 h5 h6=>hN _ _ ⟨a',BJ,_,_,_,_,rfl,h1,h2,h3,h4,h5,by omega⟩
     walk_at "rd"
     refine ⟨e,ms,rfl,hE,nms,fun m _ _=>?_⟩
     walk_at "rd"
     refine aR (fun k=>?_) (fun k=>?_)
     ·walk_at "rd"
      refine ⟨_,.inr ⟨a,rfl,hA⟩,rfl,bH qs,?_⟩
      walk_at "rd"
      rw [iJ,if_pos rfl]
      refine aR (fun k2=>?_) (fun k2=>?_)
      ·have k2:pp∉qs:=fun z=>by rw [decide_eq_true z] at k2;cases k2
       walk_at "rd"
       refine ⟨hb,hlen,by dsimp only;omega,by dsimp only;omega,fun z2 P7=>?_⟩
       walk_at "rd"
       refine ⟨_,_,rfl,.inr (.inr ⟨a,rfl,hA⟩),?_⟩
       rw [List.length_map]
       walk_at "rd"
       have c0:0≤z2 / 16 % ((qs.length:Int)+1):=Int.emod_nonneg _ (by omega)
       have c1:z2 / 16 % ((qs.length:Int)+1) < (qs.length:Int)+1:=Int.emod_lt_of_pos _ (by omega)
       obtain ⟨m',hm⟩:∃ m':Nat,z2 / 16 % ((qs.length:Int)+1)=(m':Int):=⟨(z2 / 16 % ((qs.length:Int)+1)).toNat,by omega⟩
       have lm:m'≤qs.length:=by omega
       have f1:cutD (qs.map Pl.d) none (some (z2 / 16 % ((qs.length:Int)+1)))=(qs.take m').map Pl.d:=by rw [hm];exact gP Pl.d qs m' lm
       have f2:cutD (qs.map Pl.d) (some (z2 / 16 % ((qs.length:Int)+1))) none=(qs.drop m').map Pl.d:=by rw [hm];exact iY Pl.d qs m' lm
       refine ⟨_,.of hA,fun g1 Ay=>?_⟩
       rw [show cutD (qs.map Pl.d) none (some ((fun i j=>i % j) ((fun i j=>i / j) z2 16) ((fun i j=>i+j) (qs.length:Int) 1)))=(qs.take m').map Pl.d from f1]
       have hQ:(qs.take m' ++ [pp] ++ qs.drop m').Perm (pp :: qs):=by
        have:=List.perm_middle (a:=pp) (l₁:=qs.take m') (l₂:=qs.drop m')
        rw [List.take_append_drop] at this
        rw [List.append_assoc]
        exact this
       have lA:(qs.take m').length+(qs.drop m').length=qs.length:=by rw [List.length_take,List.length_drop];omega
       generalize qs.take m'=As at *
       generalize qs.drop m'=Bs at *
       have hA:=ai (u:=MO.lst (As.map Pl.d)) hA Ay
       have Fv:aA M6 g1 (.lst (As.map Pl.d)) g1=some (.lst (As.map Pl.d)):=ah
       have le:=le.trans (Le.new (o:=MO.lst (As.map Pl.d)) Ay)
       generalize aA M6 g1 (.lst (As.map Pl.d))=M7 at hA Fv le ⊢
       walk_at "rd"
       intro g2 yV
       have hA:=ai (u:=MO.lst [pp.d]) hA yV
       have Fv:=ai (u:=MO.lst [pp.d]) Fv yV
       have hB:aA M7 g2 (.lst [pp.d]) g2=some (.lst [pp.d]):=ah
       have le:=le.trans (Le.new (o:=MO.lst [pp.d]) yV)
       generalize aA M7 g2 (.lst [pp.d])=M8 at hA Fv hB le ⊢
       refine ⟨g1,g2,_,_,rfl,rfl,Fv,hB,by rw [List.length_map];show _+1≤sizeLine;omega,fun g3 CC=>?_⟩
       rw [show As.map Pl.d ++ [pp.d]=(As ++ [pp]).map Pl.d by rw [List.map_append];rfl]
       have hA:=ai (u:=MO.lst ((As ++ [pp]).map Pl.d)) hA CC
       have Nn:aA M8 g3 (.lst ((As ++ [pp]).map Pl.d)) g3=some (.lst ((As ++ [pp]).map Pl.d)):=ah
       have le:=le.trans (Le.new (o:=MO.lst ((As ++ [pp]).map Pl.d)) CC)
       generalize aA M8 g3 (.lst ((As ++ [pp]).map Pl.d))=M9 at hA Nn le ⊢
       walk_at "rd"
       refine ⟨_,.of hA,fun g4 II=>?_⟩
       rw [show cutD (qs.map Pl.d) (some ((fun i j=>i % j) ((fun i j=>i / j) z2 16) ((fun i j=>i+j) (qs.length:Int) 1))) none=Bs.map Pl.d from f2]
       walk_at "rd"
       refine ⟨g3,g4,_,_,rfl,rfl,ai Nn II,ah,by rw [List.length_map,List.length_map,List.length_append];show _+1+_≤sizeLine;omega,fun u eL=>?_⟩
       rw [← List.map_append]
       refine next _ u (As ++ [pp] ++ Bs) _ ((le.trans (Le.new II)).trans (Le.new eL)) ah (hQ.nodup_iff.mpr (List.nodup_cons.mpr ⟨k2,zk⟩)) (fun y hy=>hQ.mem_iff.mpr (List.mem_cons_of_mem _ (sub y hy))) (fun y hy=>?_) (by rw [hQ.length_eq,List.length_cons];omega)
       rcases List.mem_cons.mp (hQ.mem_iff.mp hy) with e | hy
       ·rw [e];exact HN
       ·exact oq y hy
      ·exact next _ a qs M6 le hA zk sub oq (by omega)
     ·exact next _ a qs M6 le hA zk sub oq (by omega)
   ·rintro ρ M' ⟨a,qs,y1,y2,y3,y4,rfl,le,hA,zk,sub,oq,lq⟩
    refine ⟨trivial,?_⟩
    rw [List.length_map,List.length_range] at lq
    walk_at "rd"
    exact aI.mk ⟨_,Le.refl _,h a qs M' le hA zk sub oq (by omega)⟩
 ·walk_at "rd"
  refine ⟨_,_,rfl,.inr (.inr ⟨c,rfl,hC⟩),?_⟩
  rw [List.length_map]
  have s1:Sm 2 (z % 3):=Sm.of_bounds (by have:=Int.emod_nonneg z (show (3:Int)≠0 by decide);show -(4:Int) < _;omega) (by show _ < (4:Int);omega)
  have s2:Sm 2 (z / 3 % 3):=Sm.of_bounds (by show -(4:Int) < _;omega) (by show _ < (4:Int);omega)
  have g4:0≤z % 3*(z / 3 % 3)∧z % 3*(z / 3 % 3)≤4:=by
   have h1:z % 3=0∨z % 3=1∨z % 3=2:=by omega
   rcases h1 with e | e | e <;> rw [e] <;> omega
  walk_at "rd"
  obtain ⟨w3,P6,w0,w4⟩:∃ w3,(fun i j:Int=>i*j) ((fun i j:Int=>i % j) z 3) ((fun i j:Int=>i % j) ((fun i j:Int=>i / j) z 3) 3)=w3∧0≤w3∧w3≤4:=⟨_,rfl,g4⟩
  rw [P6]
  refine ⟨by omega,by omega,?_⟩
  refine aF (fun i ρ M'=> ∃ (a:Addr) (qs:List Pl) (y1 y2 y3 y4:Option L3.D),ρ= [some (.tF (ns.map L3.D.int)),some (.ref a),some (.ref c),some (.int z),some q.d,y1,y2,y3,y4]∧Le M M'∧M' a=some (.lst (qs.map Pl.d))∧qs.Nodup∧(∀ q∈ps,q∈qs)∧(∀ q∈qs,q.Ok 140)∧qs.length≤7+i) _ ?_ ?_ ⟨l,ps,_,_,_,_,rfl,Le.refl _,hM,nd,(fun q hq=>hq),uS,by omega⟩
  ·rintro i v ρ M' N qO ⟨a,qs,y1,y2,y3,y4,rfl,le,hA,zk,sub,oq,lq⟩ hN
   obtain ⟨hi,rfl⟩:=bQ qO
   have Sd:i < 4∧i < ts.length:=by omega
   have hC:=le _ _ hC
   refine ⟨trivial,?_⟩
   walk_at "rd"
   refine ⟨hb,hlen,by dsimp only;omega,by dsimp only;omega,fun z1 Nl=>?_⟩
   walk_at "rd"
   refine ⟨_,_,rfl,.inr (.inr ⟨c,rfl,hC⟩),?_⟩
   rw [List.length_map]
   walk_at "rd"
   have j0:0≤z1 % (ts.length:Int):=Int.emod_nonneg _ (by omega)
   have j1:z1 % (ts.length:Int) < (ts.length:Int):=Int.emod_lt_of_pos _ (by omega)
   obtain ⟨j,hj⟩:∃ j:Nat,z1 % (ts.length:Int)=(j:Int):=⟨(z1 % (ts.length:Int)).toNat,by omega⟩
   have lj:j < ts.length:=by omega
   obtain ⟨t',ht⟩:∃ t',ts[j]?=some t':=⟨ts[j],List.getElem?_eq_getElem lj⟩
   obtain ⟨⟨x,y,v,et,_⟩,it⟩:=hT t' (List.mem_of_getElem? ht)
   subst et
   have ox:=ho x (it x (by simp))
   have oy:=ho y (it y (by simp))
   have ov:=ho v (it v (by simp))
   refine ⟨_,_,_,.inr (.inr ⟨c,rfl,hC⟩),rfl,(show pR (ts.map tD) (z1 % (ts.length:Int))=some (tD [x,y,v]) from by rw [hj];exact br (by rw [List.getElem?_map,ht];rfl)),?_⟩
   walk_at "rd"
   obtain ⟨pp,hpp,HN⟩:∃ pp:Pl,L3.D.tup [L3.D.int ((fun i j:Int=>i / j) ((fun i j:Int=>i+j) ((fun i j:Int=>i+j) x.x y.x) v.x) 3),L3.D.int ((fun i j:Int=>i / j) ((fun i j:Int=>i+j) ((fun i j:Int=>i+j) x.y y.y) v.y) 3)]=pp.d∧pp.Ok 140:=⟨⟨(x.x+y.x+v.x) / 3,(x.y+y.y+v.y) / 3⟩,rfl,yT ox.1 oy.1 ov.1,yT ox.2 oy.2 ov.2⟩
   rw [hpp]
   have gx:x.Ok 140:=⟨ox.1.le (by decide),ox.2.le (by decide)⟩
   have gy:y.Ok 140:=⟨oy.1.le (by decide),oy.2.le (by decide)⟩
   have gv:v.Ok 140:=⟨ov.1.le (by decide),ov.2.le (by decide)⟩
   refine aI.mk (bR (fun j acc M5=>M5=M'∧∃ ms:List Int,acc=ms.map L3.D.int∧ms.length=j) _ ?_ ?_ ⟨rfl,[],rfl,rfl⟩)
   ·rintro j d acc M5 N2 mY ⟨rfl,ms,rfl,HP⟩ pP
    obtain ⟨Nm,rfl⟩:=bQ mY
    have Nm:j=0∨j=1∨j=2:=by omega
    have fin:∀ m:Int,N2 (ms.map L3.D.int ++ [L3.D.int m]) M5:=fun m=>pP _ _ ⟨rfl,ms ++ [m],by rw [List.map_append];rfl,by rw [List.length_append,HP];rfl⟩
    refine ⟨trivial,?_⟩
    rcases Nm with rfl | rfl | rfl
    ·walk_at "rd"
     exact ⟨gv,gx,HN,fin _⟩
    ·walk_at "rd"
     exact ⟨gx,gy,HN,fin _⟩
    ·walk_at "rd"
     exact ⟨gy,gv,HN,fin _⟩
   ·rintro acc M5 ⟨rfl,ms,rfl,HP⟩
    refine ⟨trivial,fun e he=>?_⟩
    have le:=le.trans (Le.new (o:=MO.lst (ms.map L3.D.int)) he)
    have hA:=ai (u:=MO.lst (ms.map L3.D.int)) hA he
    have hE:aA M5 e (.lst (ms.map L3.D.int)) e=some (.lst (ms.map L3.D.int)):=ah
    generalize aA M5 e (.lst (ms.map L3.D.int))=M6 at hA hE le ⊢
    have nms:ms≠[]:=fun z=>by rw [z] at HP;exact absurd HP (by decide)
    have next:∀ (o:Option L3.D) (a':Addr) (BJ:List Pl) (M7:Mp),Le M M7→M7 a'=some (.lst (BJ.map Pl.d))→BJ.Nodup→(∀ q∈ps,q∈BJ)→(∀ q∈BJ,q.Ok 140)→BJ.length≤7+i+1→N [some (.tF (ns.map L3.D.int)),some (.ref a'),some (.ref c),some (.int z),some q.d,some (.int (i:Int)),some (tD [x,y,v]),some pp.d,o] M7:=fun o a' BJ M7 h1 h2 h3 h4 h5 h6=>hN _ _ ⟨a',BJ,_,_,_,_,rfl,h1,h2,h3,h4,h5,by omega⟩
    walk_at "rd"
    refine ⟨e,ms,rfl,hE,nms,fun m _ _=>?_⟩
    walk_at "rd"
    refine aR (fun k=>?_) (fun k=>?_)
    ·walk_at "rd"
     refine ⟨_,.inr ⟨a,rfl,hA⟩,rfl,bH qs,?_⟩
     walk_at "rd"
     rw [iJ,if_pos rfl]
     refine aR (fun k2=>?_) (fun k2=>?_)
     ·have k2:pp∉qs:=fun z=>by rw [decide_eq_true z] at k2;cases k2
      walk_at "rd"
      refine ⟨hb,hlen,by dsimp only;omega,by dsimp only;omega,fun z2 P7=>?_⟩
      walk_at "rd"
      refine ⟨_,_,rfl,.inr (.inr ⟨a,rfl,hA⟩),?_⟩
      rw [List.length_map]
      walk_at "rd"
      have c0:0≤z2 / 16 % ((qs.length:Int)+1):=Int.emod_nonneg _ (by omega)
      have c1:z2 / 16 % ((qs.length:Int)+1) < (qs.length:Int)+1:=Int.emod_lt_of_pos _ (by omega)
      obtain ⟨m',hm⟩:∃ m':Nat,z2 / 16 % ((qs.length:Int)+1)=(m':Int):=⟨(z2 / 16 % ((qs.length:Int)+1)).toNat,by omega⟩
      have lm:m'≤qs.length:=by omega
      have f1:cutD (qs.map Pl.d) none (some (z2 / 16 % ((qs.length:Int)+1)))=(qs.take m').map Pl.d:=by rw [hm];exact gP Pl.d qs m' lm
      have f2:cutD (qs.map Pl.d) (some (z2 / 16 % ((qs.length:Int)+1))) none=(qs.drop m').map Pl.d:=by rw [hm];exact iY Pl.d qs m' lm
      refine ⟨_,.of hA,fun g1 Ay=>?_⟩
      rw [show cutD (qs.map Pl.d) none (some ((fun i j=>i % j) ((fun i j=>i / j) z2 16) ((fun i j=>i+j) (qs.length:Int) 1)))=(qs.take m').map Pl.d from f1]
      have hQ:(qs.take m' ++ [pp] ++ qs.drop m').Perm (pp :: qs):=by
       have:=List.perm_middle (a:=pp) (l₁:=qs.take m') (l₂:=qs.drop m')
       rw [List.take_append_drop] at this
       rw [List.append_assoc]
       exact this
      have lA:(qs.take m').length+(qs.drop m').length=qs.length:=by rw [List.length_take,List.length_drop];omega
      generalize qs.take m'=As at *
      generalize qs.drop m'=Bs at *
      have hA:=ai (u:=MO.lst (As.map Pl.d)) hA Ay
      have Fv:aA M6 g1 (.lst (As.map Pl.d)) g1=some (.lst (As.map Pl.d)):=ah
      have le:=le.trans (Le.new (o:=MO.lst (As.map Pl.d)) Ay)
      generalize aA M6 g1 (.lst (As.map Pl.d))=M7 at hA Fv le ⊢
      walk_at "rd"
      intro g2 yV
      have hA:=ai (u:=MO.lst [pp.d]) hA yV
      have Fv:=ai (u:=MO.lst [pp.d]) Fv yV
      have hB:aA M7 g2 (.lst [pp.d]) g2=some (.lst [pp.d]):=ah
      have le:=le.trans (Le.new (o:=MO.lst [pp.d]) yV)
      generalize aA M7 g2 (.lst [pp.d])=M8 at hA Fv hB le ⊢
      refine ⟨g1,g2,_,_,rfl,rfl,Fv,hB,by rw [List.length_map];show _+1≤sizeLine;omega,fun g3 CC=>?_⟩
      rw [show As.map Pl.d ++ [pp.d]=(As ++ [pp]).map Pl.d by rw [List.map_append];rfl]
      have hA:=ai (u:=MO.lst ((As ++ [pp]).map Pl.d)) hA CC
      have Nn:aA M8 g3 (.lst ((As ++ [pp]).map Pl.d)) g3=some (.lst ((As ++ [pp]).map Pl.d)):=ah
      have le:=le.trans (Le.new (o:=MO.lst ((As ++ [pp]).map Pl.d)) CC)
      generalize aA M8 g3 (.lst ((As ++ [pp]).map Pl.d))=M9 at hA Nn le ⊢
      walk_at "rd"
      refine ⟨_,.of hA,fun g4 II=>?_⟩
      rw [show cutD (qs.map Pl.d) (some ((fun i j=>i % j) ((fun i j=>i / j) z2 16) ((fun i j=>i+j) (qs.length:Int) 1))) none=Bs.map Pl.d from f2]
      walk_at "rd"
      refine ⟨g3,g4,_,_,rfl,rfl,ai Nn II,ah,by rw [List.length_map,List.length_map,List.length_append];show _+1+_≤sizeLine;omega,fun u eL=>?_⟩
      rw [← List.map_append]
      refine next _ u (As ++ [pp] ++ Bs) _ ((le.trans (Le.new II)).trans (Le.new eL)) ah (hQ.nodup_iff.mpr (List.nodup_cons.mpr ⟨k2,zk⟩)) (fun y hy=>hQ.mem_iff.mpr (List.mem_cons_of_mem _ (sub y hy))) (fun y hy=>?_) (by rw [hQ.length_eq,List.length_cons];omega)
      rcases List.mem_cons.mp (hQ.mem_iff.mp hy) with e | hy
      ·rw [e];exact HN
      ·exact oq y hy
     ·exact next _ a qs M6 le hA zk sub oq (by omega)
    ·exact next _ a qs M6 le hA zk sub oq (by omega)
  ·rintro ρ M' ⟨a,qs,y1,y2,y3,y4,rfl,le,hA,zk,sub,oq,lq⟩
   refine ⟨trivial,?_⟩
   rw [List.length_map,List.length_range] at lq
   walk_at "rd"
   exact aI.mk ⟨_,Le.refl _,h a qs M' le hA zk sub oq (by omega)⟩
theorem uT (T:Txt K mg t):Binds K t.i8 ["places","triples"] []:=T.ko.binds fun _ _ _ _ _ _ us hl=>match us,hl with | [_,_],_=>rfl
def wg:m9:=fun ds M Q=> ∃ l c:Addr,ds= [.ref l,.ref c]∧∃ (ps:List Pl) (ts:List (List Pl)),M l=some (.lst (ps.map Pl.d))∧M c=some (.lst (ts.map tD))∧(∀ t∈ts,Tr t)∧∀ r:Option (List Pl),Fs ts (fun t=> ∃ q∈t,q∉ps) r→Q (oT r) M
theorem uU (T:Txt K mg t):bP P w K mg base dZ 1 t.j3 t.i8 ["places","triples"] (nv K wg):=by
 refine pJ T.ko jr (fun ds M Q h=>by (first | (obtain ⟨_,rfl,_⟩:=h;rfl) | (obtain ⟨_,_,rfl,_⟩:=h;rfl) | (obtain ⟨_,_,_,rfl,_⟩:=h;rfl) | (obtain ⟨_,_,_,_,rfl,_⟩:=h;rfl) | (obtain ⟨_,_,_,_,_,rfl,_⟩:=h;rfl) | (obtain ⟨_,_,_,_,_,_,rfl,_⟩:=h;rfl) | (obtain ⟨_,_,_,_,_,_,_,rfl,_⟩:=h;rfl))) (fun cdv A outer s H hr=>?_)
 have hu:=hr.units
 refine ⟨_,(ao (eS PassesOwn.never rfl (aa 1) (bg (i:=2) jr.nd rfl (Or.inl rfl)) (ay (JO PassesOwn.never rfl (aa 2) (bg (i:=3) jr.nd rfl (Or.inl rfl)) (ay (aZ (aD (ff hu) (aa 3) (aa 0) (by with_unfolding_all rfl)) (ay (aC (aa 2))) aN)))))
  (ay (aC cG))),fun ds M Q h=>?_⟩
 obtain ⟨l,c,rfl,ps,ts,hM,hC,hts,h⟩:=h
 walk_at "rd"
 refine ⟨c,_,rfl,hC,?_⟩
 refine aF (fun i ρ M'=>M'=M∧(∃ y1 y2:Option L3.D,ρ= [some (.ref l),some (.ref c),y1,y2])∧∀ (j:Nat) (u:List Pl),j < i→ts[j]?=some u→¬ ∃ q∈u,q∉ps) _ ?_ ?_ ⟨rfl,⟨_,_,rfl⟩,fun j u z=>by omega⟩
 ·rintro i x ρ M' N hx ⟨rfl,⟨y1,y2,rfl⟩,hf⟩ hN
  obtain ⟨t,ht,rfl⟩:=c8 hx
  obtain ⟨a,b,d,et,oa,ob,oc⟩:=hts t (List.mem_of_getElem? ht)
  refine ⟨hC,?_⟩
  refine ⟨_,rfl,?_⟩
  refine ⟨_,rfl,?_⟩
  refine aF (fun j ρ M2=>M2=M'∧(∃ y2:Option L3.D,ρ= [some (.ref l),some (.ref c),some (tD t),y2])∧∀ q∈t.take j,q∈ps) _ ?_ ?_ ⟨rfl,⟨_,rfl⟩,fun q hq=>by cases hq⟩
  ·rintro j x ρ M2 N2 mY ⟨rfl,⟨y2,rfl⟩,hg⟩ pP
   obtain ⟨q,hq,rfl⟩:=fq mY
   refine ⟨trivial,?_⟩
   walk_at "rd"
   refine ⟨_,.inr ⟨l,rfl,hM⟩,rfl,bH ps,?_⟩
   walk_at "rd"
   rw [if_pos rfl,iJ]
   refine aR (fun k=>?_) (fun k=>?_)
   ·have k:q∉ps:=fun z=>by rw [decide_eq_true z] at k;cases k
    walk_at "rd"
    exact aI.mk ⟨_,Le.refl _,h (some t) ⟨i,ht,⟨q,List.mem_of_getElem? hq,k⟩,hf⟩⟩
   ·have k:q∈ps:=Classical.byContradiction fun z=>k (by rw [decide_eq_false z];rfl)
    refine pP _ _ ⟨rfl,⟨_,rfl⟩,fun z hz=>?_⟩
    rw [List.take_succ,hq] at hz
    rcases List.mem_append.mp hz with hz | hz
    ·exact hg z hz
    ·rw [List.mem_singleton.mp hz];exact k
  ·rintro ρ M2 ⟨rfl,⟨y2,rfl⟩,hg⟩
   rw [List.length_map,List.take_length] at hg
   refine ⟨trivial,hN _ _ ⟨rfl,⟨_,_,rfl⟩,fun j u hj eL=>?_⟩⟩
   by_cases e:j=i
   ·subst e
    rw [ht] at eL
    cases eL
    rintro ⟨q,mq,nq⟩
    exact nq (hg q mq)
   ·exact hf j u (by omega) eL
 ·rintro ρ M' ⟨rfl,⟨y1,y2,rfl⟩,hf⟩
  refine ⟨hC,?_⟩
  walk_at "rd"
  refine aI.mk ⟨_,Le.refl _,h none fun t ht=>?_⟩
  obtain ⟨j,hj⟩:=List.mem_iff_getElem?.mp ht
  exact hf j t (by rw [List.length_map];exact (List.getElem?_eq_some_iff.mp hj).1) hj
theorem yW (T:Txt K mg t):Binds K t.yp ["number"] []:=T.uH.binds fun _ _ _ _ _ _ us hl=>match us,hl with | [_],_=>rfl
def KL:sW:=fun ds Q=> ∃ i:Int,ds= [.int i]∧Q (.int i.sign)
theorem yX (T:Txt K mg t):bP P w K mg base dZ 1 t.By t.yp ["number"] (rY K KL):=by
 refine wW T.uH HK (fun ds Q h=>by (first | (obtain ⟨_,rfl,_⟩:=h;rfl) | (obtain ⟨_,_,rfl,_⟩:=h;rfl) | (obtain ⟨_,_,_,rfl,_⟩:=h;rfl) | (obtain ⟨_,_,_,_,rfl,_⟩:=h;rfl) | (obtain ⟨_,_,_,_,_,rfl,_⟩:=h;rfl) | (obtain ⟨_,_,_,_,_,_,rfl,_⟩:=h;rfl) | (obtain ⟨_,_,_,_,_,_,_,rfl,_⟩:=h;rfl))) (fun cdv A outer s H hr=>?_)
 have hu:=hr.units
 refine ⟨_,(ao (aZ (aD AO (aa 0) aj (az _)) (ay (aC aj)) aN)
  (ao (aZ (aD (jy hu) (aa 0) aj (az _)) (ay (aC (m8 aj))) aN)
  (ay (aC aj)))),fun ds Q h=>?_⟩
 obtain ⟨i,rfl,h⟩:=h
 walk_at "rd"
 refine aR (fun c=>?_) (fun c=>?_)
 ·have c:0 < i:=of_decide_eq_true c
  rw [Int.sign_eq_one_of_pos c] at h
  exact h
 ·have c:¬ 0 < i:=fun z=>c (decide_eq_true z)
  walk_at "rd"
  refine aR (fun e=>?_) (fun e=>?_)
  ·have e:i < 0:=of_decide_eq_true e
   rw [Int.sign_eq_neg_one_of_neg e] at h
   walk_at "rd"
   exact h
  ·have e:¬ i < 0:=fun z=>e (decide_eq_true z)
   have z:i=0:=by omega
   subst z
   exact h
theorem oK (T:Txt K mg t):Binds K t.uz ["a","b","c"] []:=T.mQ.binds fun _ _ _ _ _ _ us hl=>match us,hl with | [_,_,_],_=>rfl
def HQ:sW:=fun ds Q=> ∃ a b c:Pl,ds= [a.d,b.d,c.d]∧a.Ok 140∧b.Ok 140∧c.Ok 140∧Q (.int (tw a b c))
theorem oM (T:Txt K mg t):bP P w K mg base dZ 1 t.yq t.uz ["a","b","c"] (rY K HQ):=by
 refine wW T.mQ Fp (fun ds Q h=>by (first | (obtain ⟨_,rfl,_⟩:=h;rfl) | (obtain ⟨_,_,rfl,_⟩:=h;rfl) | (obtain ⟨_,_,_,rfl,_⟩:=h;rfl) | (obtain ⟨_,_,_,_,rfl,_⟩:=h;rfl) | (obtain ⟨_,_,_,_,_,rfl,_⟩:=h;rfl) | (obtain ⟨_,_,_,_,_,_,rfl,_⟩:=h;rfl) | (obtain ⟨_,_,_,_,_,_,_,rfl,_⟩:=h;rfl))) (fun cdv A outer s H hr=>?_)
 have hu:=hr.units
 refine ⟨_,(ay (aC (aq cO (aq cZ (aq cO (aJ (aa 1) aj) (aJ (aa 0) aj)) (aq cO (aJ (aa 2) aj) (aJ (aa 0) aj))) (aq cZ (aq cO (aJ (aa 1) aj) (aJ (aa 0) aj)) (aq cO (aJ (aa 2) aj) (aJ (aa 0) aj)))))),fun ds Q h=>?_⟩
 obtain ⟨a,b,c,rfl,⟨a1,a2⟩,⟨b1,b2⟩,⟨c1,c2⟩,h⟩:=h
 unfold tw at h
 walk_at "rd"
 exact h
theorem mZ (T:Txt K mg t):Binds K t.yr ["a","b","c"] []:=T.mR.binds fun _ _ _ _ _ _ us hl=>match us,hl with | [_,_,_],_=>rfl
def KN:sW:=fun ds Q=> ∃ a b c:Pl,ds= [a.d,b.d,c.d]∧a.Ok 140∧b.Ok 140∧c.Ok 140∧Q (.int (tw a b c).sign)
theorem m5 (T:Txt K mg t):bP P w K mg base dZ 2 t.BA t.yr ["a","b","c"] (rY K KN):=by
 refine wW T.mR HL (fun ds Q h=>by (first | (obtain ⟨_,rfl,_⟩:=h;rfl) | (obtain ⟨_,_,rfl,_⟩:=h;rfl) | (obtain ⟨_,_,_,rfl,_⟩:=h;rfl) | (obtain ⟨_,_,_,_,rfl,_⟩:=h;rfl) | (obtain ⟨_,_,_,_,_,rfl,_⟩:=h;rfl) | (obtain ⟨_,_,_,_,_,_,rfl,_⟩:=h;rfl) | (obtain ⟨_,_,_,_,_,_,_,rfl,_⟩:=h;rfl))) (fun cdv A outer s H hr=>?_)
 have hu:=hr.units
 refine ⟨_,(ay (aC (aE (yX T) (hr.mono (by decide)) (by rfl) T.BF T.uH.kp (yW T) (af (aE (oM T) (hr.mono (by decide)) (by rfl) T.qH T.mQ.kp (oK T) (af (aa 0) (af (aa 1) (af (aa 2) ak)))) ak)))),fun ds Q h=>?_⟩
 obtain ⟨a,b,c,rfl,ha,hb,hc,h⟩:=h
 walk_at "rd"
 refine ⟨ha,hb,hc,?_⟩
 walk_at "rd"
 exact h
theorem uV (T:Txt K mg t):Binds K t.i9 ["t"] []:=T.kq.binds fun _ _ _ _ _ _ us hl=>match us,hl with | [_],_=>rfl
def wj:sW:=fun ds Q=> ∃ a b c:Pl,ds= [tD [a,b,c]]∧a.Ok 140∧b.Ok 140∧c.Ok 140∧∀ r:Bool,(r=true↔kT [a,b,c])→Q (.bl r)
theorem uW (T:Txt K mg t):bP P w K mg base dZ 3 t.j4 t.i9 ["t"] (rY K wj):=by
 refine wW T.kq uN (fun ds Q h=>by (first | (obtain ⟨_,rfl,_⟩:=h;rfl) | (obtain ⟨_,_,rfl,_⟩:=h;rfl) | (obtain ⟨_,_,_,rfl,_⟩:=h;rfl) | (obtain ⟨_,_,_,_,rfl,_⟩:=h;rfl) | (obtain ⟨_,_,_,_,_,rfl,_⟩:=h;rfl) | (obtain ⟨_,_,_,_,_,_,rfl,_⟩:=h;rfl) | (obtain ⟨_,_,_,_,_,_,_,rfl,_⟩:=h;rfl))) (fun cdv A outer s H hr=>?_)
 have hu:=hr.units
 refine ⟨_,(ay (aC (iU (dG (dj hu) (aJ (aa 0) aj) (aK (Cs hu rfl) (by rfl) T.gE c6 (af (aa 0) ak)) (az _)) (m7 (dG (dj hu) (aE (m5 T) (hr.mono (by decide)) (by rfl) T.p8 T.mR.kp (mZ T) (af (aJ (aa 0) aj) (af (aJ (aa 0) aj) (af (aJ (aa 0) aj) ak)))) aj (az _)))))),fun ds Q h=>?_⟩
 obtain ⟨a,b,c,rfl,ha,hb,hc,h⟩:=h
 refine ⟨_,rfl,?_⟩
 refine ⟨_,_,_,Or.inl rfl,rfl,rfl,?_⟩
 refine ⟨_,rfl,?_⟩
 refine ⟨[a,b,c],rfl,by simp,fun m mm lm=>?_⟩
 have key:=Fd mm lm
 walk_at "rd"
 rw [cL]
 cases c1:decide (a=m) with
 | false=>
   walk_at "rd"
   exact h false ⟨(fun z=>by cases z),fun z=>absurd (key.mpr z.1) (of_decide_eq_false c1)⟩
 | true=>
   have e:=key.mp (of_decide_eq_true c1)
   refine ⟨_,rfl,?_⟩
   refine ⟨_,_,_,Or.inl rfl,rfl,rfl,?_⟩
   refine ⟨_,rfl,?_⟩
   refine ⟨_,_,_,Or.inl rfl,rfl,rfl,?_⟩
   refine ⟨_,rfl,?_⟩
   refine ⟨_,_,_,Or.inl rfl,rfl,rfl,?_⟩
   refine ⟨a,b,c,rfl,ha,hb,hc,?_⟩
   walk_at "rd"
   rw [bM]
   refine h _ ?_
   rw [beq_iff_eq,Int.sign_eq_one_iff_pos]
   exact ⟨fun z=>⟨e,z⟩,fun z=>z.2⟩
theorem wk (T:Txt K mg t):Binds K t.j5 ["triples"] []:=T.mS.binds fun _ _ _ _ _ _ us hl=>match us,hl with | [_],_=>rfl
def yY:m9:=fun ds M Q=> ∃ c:Addr,ds= [.ref c]∧∃ ts:List (List Pl),M c=some (.lst (ts.map tD))∧(∀ t∈ts,Tr t)∧∀ r:Option (List Pl),Fs ts (fun t=> ¬ kT t) r→Q (oT r) M
theorem wm (T:Txt K mg t):bP P w K mg base dZ 4 t.mE t.j5 ["triples"] (nv K yY):=by
 refine pJ T.mS pO (fun ds M Q h=>by (first | (obtain ⟨_,rfl,_⟩:=h;rfl) | (obtain ⟨_,_,rfl,_⟩:=h;rfl) | (obtain ⟨_,_,_,rfl,_⟩:=h;rfl) | (obtain ⟨_,_,_,_,rfl,_⟩:=h;rfl) | (obtain ⟨_,_,_,_,_,rfl,_⟩:=h;rfl) | (obtain ⟨_,_,_,_,_,_,rfl,_⟩:=h;rfl) | (obtain ⟨_,_,_,_,_,_,_,rfl,_⟩:=h;rfl))) (fun cdv A outer s H hr=>?_)
 have hu:=hr.units
 refine ⟨_,(ao (eS PassesOwn.never rfl (aa 0) (bg (i:=1) pO.nd rfl (Or.inl rfl)) (ay (aZ (k_not (fW (aE (uW T) (hr.mono (by decide)) (by rfl) T.vP T.kq.kp (uV T) (af (aa 1) ak)))) (ay (aC (aa 1))) aN)))
  (ay (aC cG))),fun ds M Q h=>?_⟩
 obtain ⟨c,rfl,ts,hC,hts,h⟩:=h
 walk_at "rd"
 refine ⟨c,_,rfl,hC,?_⟩
 refine aF (fun i ρ M'=>M'=M∧(∃ y1:Option L3.D,ρ= [some (.ref c),y1])∧∀ (j:Nat) (u:List Pl),j < i→ts[j]?=some u→¬ ¬ kT u) _ ?_ ?_ ⟨rfl,⟨_,rfl⟩,fun j u z=>by omega⟩
 ·rintro i x ρ M' N hx ⟨rfl,⟨y1,rfl⟩,hf⟩ hN
  obtain ⟨t,ht,rfl⟩:=c8 hx
  obtain ⟨a,b,d,rfl,oa,ob,oc⟩:=hts t (List.mem_of_getElem? ht)
  refine ⟨hC,?_⟩
  refine ⟨_,rfl,?_⟩
  refine ⟨a,b,d,rfl,oa,ob,oc,fun r hr'=>?_⟩
  walk_at "rd"
  cases r with
  | false=>
    walk_at "rd"
    exact aI.mk ⟨_,Le.refl _,h (some [a,b,d]) ⟨i,ht,fun z=>absurd (hr'.mpr z) (by decide),hf⟩⟩
  | true=>
    walk_at "rd"
    refine hN _ _ ⟨rfl,⟨_,rfl⟩,fun j u hj eL=>?_⟩
    by_cases e:j=i
    ·subst e
     rw [ht] at eL
     cases eL
     exact fun z=>z (hr'.mp rfl)
    ·exact hf j u (by omega) eL
 ·rintro ρ M' ⟨rfl,⟨y1,rfl⟩,hf⟩
  refine ⟨hC,?_⟩
  walk_at "rd"
  refine aI.mk ⟨_,Le.refl _,h none fun t ht=>?_⟩
  obtain ⟨j,hj⟩:=List.mem_iff_getElem?.mp ht
  exact hf j t (by rw [List.length_map];exact (List.getElem?_eq_some_iff.mp hj).1) hj
theorem uX (T:Txt K mg t):Binds K t.ja ["places"] []:=T.kr.binds fun _ _ _ _ _ _ us hl=>match us,hl with | [_],_=>rfl
def wo:m9:=fun ds M Q=> ∃ l:Addr,ds= [.ref l]∧∃ ps:List Pl,M l=some (.lst (ps.map Pl.d))∧(∀ q∈ps,q.Ok 140)∧∀ r:Bool,(r=true↔Flat ps)→Q (.bl r) M
theorem P8 (i:Int):dQ (.int i.sign) (.int 0)=decide (i=0):=by
 rw [bM,Bool.eq_iff_iff]
 simp [Int.sign_eq_zero_iff_zero]
theorem Fw {ps:List Pl} {m n:Pl} (h1:∀ z∈ps,¬ aT z m) (h2:∀ z∈ps,¬ aT n z) (h:∀ q∈ps,tw m n q=0):Flat ps:=fun p hp q hq r hr=>by
 by_cases e:m=n
 ·have all:∀ z∈ps,z=m:=fun z hz=>by
   rcases er z m with k | k | k
   ·exact absurd k (h1 z hz)
   ·exact k
   ·rw [e] at k;exact absurd k (h2 z hz)
  rw [all p hp,all q hq,all r hr,nN]
 ·exact uo e (h p hp) (h q hq) (h r hr)
theorem Fx {ps:List Pl} {m m':Pl} (a:m∈ps) (b:m'∈ps) (h1:∀ z∈ps,¬ aT z m) (h2:∀ z∈ps,¬ aT z m'):m=m':=by
 rcases er m m' with k | k | k
 ·exact absurd k (h2 m a)
 ·exact k
 ·exact absurd k (h1 m' b)
theorem Dp {ps:List Pl} {m m':Pl} (a:m∈ps) (b:m'∈ps) (h1:∀ z∈ps,¬ aT m z) (h2:∀ z∈ps,¬ aT m' z):m=m':=by
 rcases er m m' with k | k | k
 ·exact absurd k (h1 m' b)
 ·exact k
 ·exact absurd k (h2 m a)
theorem uY (T:Txt K mg t):bP P w K mg base dZ 3 t.j6 t.ja ["places"] (nv K wo):=by
 refine pJ T.kr oF (fun ds M Q h=>by (first | (obtain ⟨_,rfl,_⟩:=h;rfl) | (obtain ⟨_,_,rfl,_⟩:=h;rfl) | (obtain ⟨_,_,_,rfl,_⟩:=h;rfl) | (obtain ⟨_,_,_,_,rfl,_⟩:=h;rfl) | (obtain ⟨_,_,_,_,_,rfl,_⟩:=h;rfl) | (obtain ⟨_,_,_,_,_,_,rfl,_⟩:=h;rfl) | (obtain ⟨_,_,_,_,_,_,_,rfl,_⟩:=h;rfl))) (fun cdv A outer s H hr=>?_)
 have hu:=hr.units
 refine ⟨_,(ao (eS PassesOwn.never rfl (aa 0) (bg (i:=1) oF.nd rfl (Or.inl rfl)) (ay (aZ (aD (kP hu) (aE (m5 T) (hr.mono (by decide)) (by rfl) T.p8 T.mR.kp (mZ T) (af (aK (Be hu rfl) (by rfl) T.gE c6 (af (aa 0) ak)) (af (aK (Kq hu rfl) (by rfl) T.Fo wX (af (aa 0) ak)) (af (aa 1) ak)))) aj (az _)) (ay (aC jQ)) aN)))
  (ay (aC jQ))),fun ds M Q h=>?_⟩
 obtain ⟨l,rfl,ps,hM,ho,h⟩:=h
 walk_at "rd"
 refine ⟨l,_,rfl,hM,?_⟩
 refine aF (fun i ρ M'=>M'=M∧(∃ y1:Option L3.D,ρ= [some (.ref l),y1])∧∀ q∈ps.take i,∀ m n:Pl,m∈ps→n∈ps→(∀ z∈ps,¬ aT z m)→(∀ z∈ps,¬ aT n z)→tw m n q=0) _ ?_ ?_ ⟨rfl,⟨_,rfl⟩,fun q hq=>by cases hq⟩
 ·rintro i x ρ M' N hx ⟨rfl,⟨y1,rfl⟩,hf⟩ hN
  obtain ⟨p,hp,rfl⟩:=fq hx
  have mp:=List.mem_of_getElem? hp
  have hne:ps≠[]:=fun z=>by rw [z] at mp;cases mp
  refine ⟨hM,?_⟩
  walk_at "rd"
  refine ⟨l,ps,rfl,hM,hne,fun m mm lm=>?_⟩
  walk_at "rd"
  refine ⟨l,ps,rfl,hM,hne,fun n mn ln=>?_⟩
  walk_at "rd"
  refine ⟨ho m mm,ho n mn,ho p mp,?_⟩
  walk_at "rd"
  rw [P8]
  refine aR (fun k=>?_) (fun k=>?_)
  ·have k:tw m n p≠0:=fun z=>by rw [decide_eq_true z] at k;cases k
   walk_at "rd"
   exact aI.mk ⟨_,Le.refl _,h false ⟨(fun z=>by cases z),fun z=>absurd (z m mm n mn p mp) k⟩⟩
  ·have k:tw m n p=0:=Classical.byContradiction fun z=>k (by rw [decide_eq_false z];rfl)
   refine hN _ _ ⟨rfl,⟨_,rfl⟩,fun q hq m' n' a b c d=>?_⟩
   rw [List.take_succ,hp] at hq
   rcases List.mem_append.mp hq with hq | hq
   ·exact hf q hq m' n' a b c d
   ·rw [List.mem_singleton.mp hq,Fx a mm c lm,Dp b mn d ln]
    exact k
 ·rintro ρ M' ⟨rfl,⟨y1,rfl⟩,hf⟩
  refine ⟨hM,?_⟩
  walk_at "rd"
  rw [List.length_map,List.take_length] at hf
  refine aI.mk ⟨_,Le.refl _,h true ⟨fun _=>?_,fun _=>rfl⟩⟩
  by_cases e:ps= []
  ·rw [e]
   exact fun p hp=>by cases hp
  ·obtain ⟨m,mm,lm⟩:=yk ps e
   obtain ⟨n,mn,ln⟩:=Cu ps e
   exact Fw lm ln fun q hq=>hf q hq m n mm mn lm ln
theorem xG (T:Txt K mg t):Binds K t.rD ["t"] []:=T.qI.binds fun _ _ _ _ _ _ us hl=>match us,hl with | [_],_=>rfl
def Fy:m9:=fun ds M Q=> ∃ a b c:Pl,ds= [tD [a,b,c]]∧∀ p,M p=none→Q (.ref p) (aA M p (.lst ([[a,b,c],[b,c,a],[c,a,b]].map tD)))
theorem xH (T:Txt K mg t):bP P w K mg base dZ 1 t.uA t.rD ["t"] (nv K Fy):=by
 refine pJ T.qI Dn (fun ds M Q h=>by (first | (obtain ⟨_,rfl,_⟩:=h;rfl) | (obtain ⟨_,_,rfl,_⟩:=h;rfl) | (obtain ⟨_,_,_,rfl,_⟩:=h;rfl) | (obtain ⟨_,_,_,_,rfl,_⟩:=h;rfl) | (obtain ⟨_,_,_,_,_,rfl,_⟩:=h;rfl) | (obtain ⟨_,_,_,_,_,_,rfl,_⟩:=h;rfl) | (obtain ⟨_,_,_,_,_,_,_,rfl,_⟩:=h;rfl))) (fun cdv A outer s H hr=>?_)
 have hu:=hr.units
 refine ⟨_,(ay (aC (bN (af (aY (af (aJ (aa 0) aj) (af (aJ (aa 0) aj) (af (aJ (aa 0) aj) ak)))) (af (aY (af (aJ (aa 0) aj) (af (aJ (aa 0) aj) (af (aJ (aa 0) aj) ak)))) (af (aY (af (aJ (aa 0) aj) (af (aJ (aa 0) aj) (af (aJ (aa 0) aj) ak)))) ak)))))),fun ds M Q h=>?_⟩
 obtain ⟨a,b,c,rfl,h⟩:=h
 walk_at "rd"
 intro p hp
 exact aI.mk ⟨_,Le.refl _,h p hp⟩
theorem jC (T:Txt K mg t):Binds K t.fZ ["cover"] []:=T.eF.binds fun _ _ _ _ _ _ us hl=>match us,hl with | [_],_=>rfl
def rJ:m9:=fun ds M Q=> ∃ l:Addr,ds= [.ref l]∧∃ ts:List (List Pl),M l=some (.lst (ts.map tD))∧(∀ t∈ts,Tr t)∧ts.length≤200∧∀ p,M p=none→Q (.ref p) (aA M p (.lst ((dc ts).map tD)))
theorem jD (T:Txt K mg t):bP P w K mg base dZ 2 t.gA t.fZ ["cover"] (nv K rJ):=by
 refine pJ T.eF gj (fun ds M Q h=>by (first | (obtain ⟨_,rfl,_⟩:=h;rfl) | (obtain ⟨_,_,rfl,_⟩:=h;rfl) | (obtain ⟨_,_,_,rfl,_⟩:=h;rfl) | (obtain ⟨_,_,_,_,rfl,_⟩:=h;rfl) | (obtain ⟨_,_,_,_,_,rfl,_⟩:=h;rfl) | (obtain ⟨_,_,_,_,_,_,rfl,_⟩:=h;rfl) | (obtain ⟨_,_,_,_,_,_,_,rfl,_⟩:=h;rfl))) (fun cdv A outer s H hr=>?_)
 have hu:=hr.units
 refine ⟨_,(ao (aM (i:=1) gj.nd rfl (Or.inl rfl) (bN ak))
  (ao (eS PassesOwn.never rfl (aa 0) (bg (i:=2) gj.nd rfl (Or.inl rfl)) (ay (pT (IC (aa 1) (rZ (iB (ys:=[]) (fs:=[]) rfl (by show b8 (au cX) ["cover","ways","t"] _ _ _ _=true;decide +kernel) (bf (xH T) (hr.mono (by decide)) (by rfl) T.Ai T.qI.kp (xG T) (af (aa 2) ak)) (fun cl C s0 H0 ex=>t6) (fun cl C s0 H0 ex=>(aY (af (aJ (aa 0) aj) (af (aJ (aa 0) aj) ak)))))) (rO PySem.F.plainAttrs_list PySem.F.slot_list_extend PySem.F.type_list_extend wQ (cE.dn (aa 1)) (iF (cE.dn (rZ (iB (ys:=[]) (fs:=[]) rfl (by show b8 (au cX) ["cover","ways","t"] _ _ _ _=true;decide +kernel) (bf (xH T) (hr.mono (by decide)) (by rfl) T.Ai T.qI.kp (xG T) (af (aa 2) ak)) (fun cl C s0 H0 ex=>t6) (fun cl C s0 H0 ex=>(aY (af (aJ (aa 0) aj) (af (aJ (aa 0) aj) ak))))))) lP))))))
  (ay (aC (aa 1))))),fun ds M Q h=>?_⟩
 obtain ⟨l,rfl,ts,hM,hts,Az,h⟩:=h
 have sl:(1000:Nat) < sizeLine:=by decide
 walk_at "rd"
 intro p hp
 have P9:l≠p:=fun z=>by rw [← z,hM] at hp;cases hp
 walk_at "rd"
 refine ⟨l,_,rfl,ai hM hp,?_⟩
 refine aF (fun i ρ M'=>(∃ y:Option L3.D,ρ= [some (.ref l),some (.ref p),y])∧M' l=some (.lst (ts.map tD))∧M' p=some (.lst ((dc (ts.take i)).map tD))∧Le M M') _ ?_ ?_ ⟨⟨_,rfl⟩,ai hM hp,ah,Le.new hp⟩
 ·rintro i x ρ M' N hx ⟨⟨y,rfl⟩,hM,hP,le⟩ hN
  obtain ⟨t,ht,rfl⟩:=c8 hx
  obtain ⟨a,b,c,rfl,oa,ob,oc⟩:=hts t (List.mem_of_getElem? ht)
  refine ⟨hM,?_⟩
  walk_at "rd"
  refine ⟨⟨p,_,rfl,hP⟩,?_⟩
  refine ⟨_,rfl,?_⟩
  refine ⟨a,b,c,rfl,fun q hq=>?_⟩
  have hM:=ai (u:=MO.lst ([[a,b,c],[b,c,a],[c,a,b]].map tD)) hM hq
  have hP:=ai (u:=MO.lst ([[a,b,c],[b,c,a],[c,a,b]].map tD)) hP hq
  have le:=le.trans (Le.new (o:=MO.lst ([[a,b,c],[b,c,a],[c,a,b]].map tD)) hq)
  have hQ:aA M' q (.lst ([[a,b,c],[b,c,a],[c,a,b]].map tD)) q=some (.lst ([[a,b,c],[b,c,a],[c,a,b]].map tD)):=ah
  generalize aA M' q (.lst ([[a,b,c],[b,c,a],[c,a,b]].map tD))=M2 at hM hP hQ le ⊢
  refine ⟨q,_,rfl,hQ,by show 3 < sizeLine;omega,aI.mk (bR (fun j acc M4=>M4=M2∧acc=(([[a,b],[b,c],[c,a]].take j)).map tD) _ ?_ ?_ ⟨rfl,rfl⟩)⟩
  ·rintro j d acc M4 N2 mY ⟨rfl,rfl⟩ pP
   obtain ⟨u,eL,rfl⟩:=c8 mY
   have hj:j < 3:=(List.getElem?_eq_some_iff.mp eL).1
   have hj:j=0∨j=1∨j=2:=by omega
   refine ⟨hQ,?_⟩
   rcases hj with rfl | rfl | rfl
   ·cases eL
    walk_at "rd"
    exact pP _ _ ⟨rfl,rfl⟩
   ·cases eL
    walk_at "rd"
    exact pP _ _ ⟨rfl,rfl⟩
   ·cases eL
    walk_at "rd"
    exact pP _ _ ⟨rfl,rfl⟩
  ·rintro acc M4 ⟨rfl,hacc⟩
   have hacc:acc= [[a,b],[b,c],[c,a]].map tD:=hacc
   subst hacc
   refine ⟨hQ,fun u eL=>?_⟩
   have ld:=kU (ts.take i)
   rw [List.length_take] at ld
   have Ur:u≠p:=fun z=>by rw [z,hP] at eL;cases eL
   refine ⟨p,u,_,_,rfl,rfl,ai hP eL,ah,by rw [List.length_map];show _+3≤sizeLine;omega,?_⟩
   refine hN _ _ ⟨⟨_,rfl⟩,?_,?_,fun x o e=>?_⟩
   ·rw [bG P9]
    exact ai hM eL
   ·rw [ah,xD ht,List.map_append]
    rfl
   ·rw [bG (fun z=>by rw [z,hp] at e;cases e)]
    exact ai (le _ _ e) eL
 ·rintro ρ M' ⟨⟨y,rfl⟩,hM,hP,le⟩
  refine ⟨hM,?_⟩
  walk_at "rd"
  rw [List.length_map,List.take_length] at hP
  refine aI.mk ⟨aA M p (.lst ((dc ts).map tD)),fun b o e=>?_,h p hp⟩
  by_cases hb:b=p
  ·subst hb
   rw [ah] at e
   rw [hP]
   exact e
  ·rw [bG hb] at e
   exact le _ _ e
theorem sC (T:Txt K mg t):Binds K t.gY ["triples"] []:=T.jm.binds fun _ _ _ _ _ _ us hl=>match us,hl with | [_],_=>rfl
def uZ:m9:=fun ds M Q=> ∃ c:Addr,ds= [.ref c]∧∃ ts:List (List Pl),M c=some (.lst (ts.map tD))∧(∀ t∈ts,Tr t)∧ts.length≤200∧∀ r:Option (List Pl),pB (FY (dc ts)) r→Q (oT r) M
theorem sD (T:Txt K mg t):bP P w K mg base dZ 3 t.jb t.gY ["triples"] (nv K uZ):=by
 refine pJ T.jm nk (fun ds M Q h=>by (first | (obtain ⟨_,rfl,_⟩:=h;rfl) | (obtain ⟨_,_,rfl,_⟩:=h;rfl) | (obtain ⟨_,_,_,rfl,_⟩:=h;rfl) | (obtain ⟨_,_,_,_,rfl,_⟩:=h;rfl) | (obtain ⟨_,_,_,_,_,rfl,_⟩:=h;rfl) | (obtain ⟨_,_,_,_,_,_,rfl,_⟩:=h;rfl) | (obtain ⟨_,_,_,_,_,_,_,rfl,_⟩:=h;rfl))) (fun cdv A outer s H hr=>?_)
 have hu:=hr.units
 refine ⟨_,(ao (aM (i:=1) nk.nd rfl (Or.inr rfl) (bf (jD T) (hr.mono (by decide)) (by rfl) T.kW T.eF.kp (jC T) (af (aa 0) ak)))
  (ay (aC (Bg (Ct (n:=2) hu rfl) (by rfl) T.gE (rZ (iB (ys:=["ways"]) (fs:=[1]) rfl (by show b8 (au fN) ["triples","ways"] _ _ _ _=true;decide +kernel) (aa 1) (fun cl C s0 H0 ex=>nc (aD AO (Cr (aa 1) (aa 0) (rO PySem.F.plainAttrs_list PySem.F.slot_list_count PySem.F.type_list_count (zZ hu) (cE.dn (aa 1)) (iF (cE.dn (aa 0)) lP))) aj (az _))) (fun cl C s0 H0 ex=>(aa 0)))))))),fun ds M Q h=>?_⟩
 obtain ⟨c,rfl,ts,hC,hts,Az,h⟩:=h
 have sl:(1000:Nat) < sizeLine:=by decide
 have ld:=kU ts
 walk_at "rd"
 refine ⟨ts,hC,hts,Az,fun p hp=>?_⟩
 have le:=Le.new (o:=MO.lst ((dc ts).map tD)) hp
 have hP:aA M p (.lst ((dc ts).map tD)) p=some (.lst ((dc ts).map tD)):=ah
 generalize aA M p (.lst ((dc ts).map tD))=M1 at hP le ⊢
 have two:=nX (ts:=ts)
 generalize dc ts=ws at hP ld two h ⊢
 walk_at "rd"
 refine ⟨p,_,rfl,hP,by rw [List.length_map];omega,aI.mk (bR (fun i acc M4=>M4=M1∧acc=((ws.take i).filter (fun w=>decide (1 < ws.count w))).map tD) _ ?_ ?_ ⟨rfl,rfl⟩)⟩
 ·rintro i d acc M4 N hx ⟨rfl,rfl⟩ hN
  obtain ⟨w,hw,rfl⟩:=c8 hx
  refine ⟨hP,?_⟩
  walk_at "rd"
  refine ⟨⟨p,_,rfl,hP⟩,?_⟩
  walk_at "rd"
  refine ⟨p,_,rfl,hP,(List.all_eq_true.mp (bq [w])) _ (by simp),bq ws,?_⟩
  rw [xE]
  walk_at "rd"
  refine aR (fun k=>?_) (fun k=>?_)
  ·have k:(1:Int) < (ws.count w:Int):=of_decide_eq_true k
   walk_at "rd"
   refine hN _ _ ⟨rfl,?_⟩
   rw [bO hw,if_pos (decide_eq_true (by omega)),List.map_append]
   rfl
  ·have k:¬ (1:Int) < (ws.count w:Int):=fun z=>k (decide_eq_true z)
   refine hN _ _ ⟨rfl,?_⟩
   rw [bO hw,if_neg (fun z=>k (by have:=of_decide_eq_true z;omega)),List.append_nil]
 rintro acc M4 ⟨rfl,rfl⟩
 refine ⟨hP,fun q hq=>?_⟩
 rw [List.length_map,List.take_length]
 obtain ⟨m0,m1⟩:=ym (ws:=ws.filter (fun w=>decide (1 < ws.count w))) (W:=FY ws) (fun w=>by unfold FY;rw [List.mem_filter];simp)
 refine ⟨q,_,rfl,ah,fun t ht=>?_,fun e0=>aI.mk ⟨M,le.trans (Le.new hq),h none (m0 e0)⟩,fun m mm lm=>aI.mk ⟨M,le.trans (Le.new hq),h (some m) (m1 m mm lm)⟩⟩
 obtain ⟨a,b,e,_⟩:=two t (List.mem_filter.mp ht).1
 rw [e]
 rfl
theorem nt (T:Txt K mg t):Binds K t.gZ ["line"] []:=T.gf.binds fun _ _ _ _ _ _ us hl=>match us,hl with | [_],_=>rfl
def u5:m9:=fun ds M Q=> ∃ (l:Addr) (ps:List Pl),ds= [.ref l]∧M l=some (.lst (ps.map Pl.d))∧ps.length≤1000∧(∀ q∈ps,q.Ok 140)∧∀ p,M p=none→Q (.ref p) (aA M p (.lst ((ps.foldl aV []).reverse.map Pl.d)))
theorem nu (T:Txt K mg t):bP P w K mg base dZ 3 t.jc t.gZ ["line"] (nv K u5):=by
 refine pJ T.gf iy (fun ds M Q h=>by (first | (obtain ⟨_,rfl,_⟩:=h;rfl) | (obtain ⟨_,_,rfl,_⟩:=h;rfl) | (obtain ⟨_,_,_,rfl,_⟩:=h;rfl) | (obtain ⟨_,_,_,_,rfl,_⟩:=h;rfl) | (obtain ⟨_,_,_,_,_,rfl,_⟩:=h;rfl) | (obtain ⟨_,_,_,_,_,_,rfl,_⟩:=h;rfl) | (obtain ⟨_,_,_,_,_,_,_,rfl,_⟩:=h;rfl))) (fun cdv A outer s H hr=>?_)
 have hu:=hr.units
 refine ⟨_,(ao (aM (i:=1) iy.nd rfl (Or.inl rfl) (bN ak))
  (ao (eS PassesOwn.never rfl (aa 0) (bg (i:=2) iy.nd rfl (Or.inl rfl)) (ao (GN PassesOwn.never (nK.pt (kL (aD AO (aK cU (by rfl) T.cj aQ (af (aa 1) ak)) aj (az _)) (gU (aD (dj hu) (aE (m5 T) (hr.mono (by decide)) (by rfl) T.p8 T.mR.kp (mZ T) (af (aJ (aa 1) (m8 aj)) (af (aJ (aa 1) (m8 aj)) (af (aa 2) ak)))) (m8 aj) (az _))))) (ay (pT (MU (aa 1) (Jx PySem.F.plainAttrs_list PySem.F.slot_list_pop PySem.F.type_list_pop Jy (cE.dn (aa 1)))))))
  (ay (pT (Eg (aa 1) (aa 2) (rO PySem.F.plainAttrs_list PySem.F.slot_list_append PySem.F.type_list_append kI (cE.dn (aa 1)) (iF (cE.dn (aa 2)) lP)))))))
  (ay (aC (aa 1))))),fun ds M Q h=>?_⟩
 obtain ⟨l,ps,rfl,hM,hlen,ho,h⟩:=h
 walk_at "rd"
 intro p hp
 have hl:∀ o,aA M p o l=some (.lst (ps.map Pl.d)):=fun o=>ai hM hp
 walk_at "rd"
 refine ⟨l,_,rfl,hl _,?_⟩
 refine aF (fun i ρ M'=>M'=aA M p (.lst (((ps.take i).foldl aV []).reverse.map Pl.d))∧∃ y:Option L3.D,ρ= [some (.ref l),some (.ref p),y]) _ ?_ ?_ ⟨rfl,_,rfl⟩
 ·rintro i x ρ M' N hx ⟨rfl,y,rfl⟩ hN
  obtain ⟨d,hd,rfl⟩:=fq hx
  have od:=ho d (List.mem_of_getElem? hd)
  have Se:∀ q∈(ps.take i).foldl aV [],q.Ok 140:=fun q hq=>ho q (List.mem_of_mem_take (rq _ q hq))
  have lst:=eE (ps.take i)
  have eN:=Bd hd
  have lt:(ps.take i).length≤1000:=by rw [List.length_take];omega
  generalize hst:(ps.take i).foldl aV []=st at *
  refine ⟨hl _,?_⟩
  walk_at "rd"
  refine ⟨fun m ρ M'=> ∃ st':List Pl,M'=aA M p (.lst (st'.reverse.map Pl.d))∧ρ= [some (.ref l),some (.ref p),some d.d]∧m=st'.length∧kR st' d=kR st d∧(∀ q∈st',q.Ok 140)∧st'.length≤1000,⟨_,st,rfl,rfl,rfl,rfl,Se,by omega⟩,?_⟩
  rintro m ρ M' ⟨st',rfl,rfl,rfl,ep,os,ls⟩
  walk_at "rd"
  refine ⟨_,_,rfl,.inr (.inr ⟨p,rfl,ah⟩),?_⟩
  walk_at "rd"
  rw [List.length_map,List.length_reverse]
  refine aR (fun c=>?_) (fun c=>?_)
  ·have c:(1:Int) < (st'.length:Int):=of_decide_eq_true c
   obtain ⟨b,a,r,rfl⟩:∃ b a r,st'=b :: a :: r:=by
    match st',c with
    | b :: a :: r,_=>exact ⟨b,a,r,rfl⟩
    | [x],c=>exact absurd c (by show ¬ (1:Int) < 1;decide)
    | [],c=>exact absurd c (by decide)
   walk_at "rd"
   refine ⟨_,_,a.d,.inr (.inr ⟨p,rfl,ah⟩),rfl,Dc b a r,?_⟩
   walk_at "rd"
   refine ⟨_,_,b.d,.inr (.inr ⟨p,rfl,ah⟩),rfl,C9 b _,?_⟩
   walk_at "rd"
   refine ⟨os a (by simp),os b (by simp),od,?_⟩
   walk_at "rd"
   rw [bM]
   refine aR (fun k=>?_) (fun k=>?_)
   ·have k:=eq_of_beq k
    have k:tw a b d < 0:=Int.sign_eq_neg_one_iff_neg.mp k
    walk_at "rd"
    refine ⟨p,_,b.d,rfl,by rw [List.reverse_cons,List.map_append];exact ah,?_⟩
    rw [iT]
    exact aI.mk ⟨_,Nat.lt_succ_self _,a :: r,rfl,rfl,rfl,by rw [← ep,EW k],fun q hq=>os q (List.mem_cons_of_mem _ hq),by simp only [List.length_cons] at ls ⊢;omega⟩
   ·have k:¬ tw a b d < 0:=fun z=>k (by rw [Int.sign_eq_neg_one_of_neg z];rfl)
    have ez:=EX (r:=r) k
    generalize b :: a :: r=st' at *
    walk_at "rd"
    refine ⟨⟨p,_,rfl,ah⟩,?_⟩
    walk_at "rd"
    refine ⟨p,_,rfl,ah,?_,?_⟩
    ·rw [List.length_map,List.length_reverse]
     have:(1000:Nat) < sizeLine:=by decide
     omega
    ·rw [iT]
     refine hN _ _ ⟨?_,_,rfl⟩
     have e:aV st d=d :: st':=by
      show d :: kR st d=_
      rw [← ep,ez]
     rw [eN,e,List.reverse_cons,List.map_append]
     rfl
  ·have c:¬ (1:Int) < (st'.length:Int):=fun z=>c (decide_eq_true z)
   have ez:kR st' d=st':=by
    match st',c with
    | [],_=>rfl
    | [_],_=>rfl
    | b :: a :: r,c=>exact absurd (show (1:Int) < ((b :: a :: r).length:Int) by simp only [List.length_cons];omega) c
   walk_at "rd"
   refine ⟨⟨p,_,rfl,ah⟩,?_⟩
   walk_at "rd"
   refine ⟨p,_,rfl,ah,?_,?_⟩
   ·rw [List.length_map,List.length_reverse]
    have:(1000:Nat) < sizeLine:=by decide
    omega
   ·rw [iT]
    refine hN _ _ ⟨?_,_,rfl⟩
    have e:aV st d=d :: st':=by
     show d :: kR st d=_
     rw [← ep,ez]
    rw [eN,e,List.reverse_cons,List.map_append]
    rfl
 ·rintro ρ M' ⟨rfl,y,rfl⟩
  refine ⟨hl _,?_⟩
  walk_at "rd"
  refine aI.mk ⟨_,Le.refl _,?_⟩
  rw [List.length_map,List.take_length]
  exact h p hp
theorem BK (T:Txt K mg t):Binds K t.p7 ["places"] []:=T.rG.binds fun _ _ _ _ _ _ us hl=>match us,hl with | [_],_=>rfl
def Dq:m9:=fun ds M Q=> ∃ (l:Addr) (ps:List Pl),ds= [.ref l]∧M l=some (.lst (ps.map Pl.d))∧ps.length < 64∧(∀ q∈ps,q.Ok 140)∧∀ (p:Addr) (qs:List Pl),M p=none→qs.Perm ps→qs.Pairwise (fun p q=> ¬ aT q p)→Q (.ref p) (aA M p (.lst ((dm qs).map Pl.d)))
theorem BL (T:Txt K mg t):bP P w K mg base dZ 4 t.rE t.p7 ["places"] (nv K Dq):=by
 refine pJ T.rG mW (fun ds M Q h=>by (first | (obtain ⟨_,rfl,_⟩:=h;rfl) | (obtain ⟨_,_,rfl,_⟩:=h;rfl) | (obtain ⟨_,_,_,rfl,_⟩:=h;rfl) | (obtain ⟨_,_,_,_,rfl,_⟩:=h;rfl) | (obtain ⟨_,_,_,_,_,rfl,_⟩:=h;rfl) | (obtain ⟨_,_,_,_,_,_,rfl,_⟩:=h;rfl) | (obtain ⟨_,_,_,_,_,_,_,rfl,_⟩:=h;rfl))) (fun cdv A outer s H hr=>?_)
 have hu:=hr.units
 refine ⟨_,(ao (aM (i:=1) mW.nd rfl (Or.inl rfl) (aK kQ (by rfl) T.dI cy (af (aa 0) ak)))
  (ao (aZ (aD (jy hu) (aK cU (by rfl) T.cj aQ (af (aa 1) ak)) aj (az _)) (ay (aC (aa 1))) aN)
  (ao (aM (i:=2) mW.nd rfl (Or.inl rfl) (bf (nu T) (hr.mono (by decide)) (by rfl) T.om T.gf.kp (nt T) (af (aa 1) ak)))
  (ao (aM (i:=3) mW.nd rfl (Or.inl rfl) (bf (nu T) (hr.mono (by decide)) (by rfl) T.om T.gf.kp (nt T) (af (C4 (by rfl) (by rfl) T.dO (by rfl) T.Ak (aa 1)) ak)))
  (ay (aC (aq fJ (c7 (aa 2) qY (gw (m8 aj))) (c7 (aa 3) qY (gw (m8 aj)))))))))),fun ds M Q h=>?_⟩
 obtain ⟨l,ps,rfl,hM,h64,ho,h⟩:=h
 walk_at "rd"
 refine ⟨l,ps,rfl,hM,h64,fun p qs hp bF dP=>?_⟩
 have oq:∀ q∈qs,q.Ok 140:=fun q hq=>ho q (bF.mem_iff.mp hq)
 have lq:qs.length < 64:=by rw [bF.length_eq];exact h64
 walk_at "rd"
 refine ⟨_,_,rfl,.inr (.inr ⟨p,rfl,ah⟩),?_⟩
 walk_at "rd"
 rw [List.length_map]
 refine aR (fun c=>?_) (fun c=>?_)
 ·have c:(qs.length:Int) < 2:=of_decide_eq_true c
  have e:dm qs=qs:=by unfold dm;rw [if_pos (by omega)]
  have q:=h p qs hp bF dP
  rw [e] at q
  walk_at "rd"
  exact aI.mk ⟨_,Le.refl _,q⟩
 ·have c:¬ (qs.length:Int) < 2:=fun z=>c (decide_eq_true z)
  have h':∀ r,M r=none→Q (.ref r) (aA M r (.lst ((dm qs).map Pl.d))):=fun r hr=>h r qs hr bF dP
  walk_at "rd"
  refine ⟨p,qs,rfl,ah,by omega,oq,fun p1 hp1=>?_⟩
  walk_at "rd"
  have e:dm qs=(qs.foldl aV []).reverse.dropLast ++ (qs.reverse.foldl aV []).reverse.dropLast:=by unfold dm;rw [if_neg (by omega)]
  rw [e] at h'
  have lt:(qs.foldl aV []).reverse.length≤64:=by
   have:=eE qs
   rw [List.length_reverse];omega
  have lh:(qs.reverse.foldl aV []).reverse.length≤64:=by
   have:=eE qs.reverse
   rw [List.length_reverse] at this ⊢;omega
  generalize (qs.foldl aV []).reverse=th at *
  have hQ:aA (aA M p (.lst (qs.map Pl.d))) p1 (.lst (th.map Pl.d)) p=some (.lst (qs.map Pl.d)):=ai ah hp1
  have hT:aA (aA M p (.lst (qs.map Pl.d))) p1 (.lst (th.map Pl.d)) p1=some (.lst (th.map Pl.d)):=ah
  have le:=(Le.new (o:= .lst (qs.map Pl.d)) hp).trans (Le.new (o:= .lst (th.map Pl.d)) hp1)
  generalize aA (aA M p (.lst (qs.map Pl.d))) p1 (.lst (th.map Pl.d))=M2 at hQ hT le ⊢
  refine ⟨_,.of hQ,fun p2 hp2=>?_⟩
  rw [← List.map_reverse]
  have hT2:=ai (u:=MO.lst (qs.reverse.map Pl.d)) hT hp2
  have KJ:=le.trans (Le.new (o:= .lst (qs.reverse.map Pl.d)) hp2)
  have hR:aA M2 p2 (.lst (qs.reverse.map Pl.d)) p2=some (.lst (qs.reverse.map Pl.d)):=ah
  generalize aA M2 p2 (.lst (qs.reverse.map Pl.d))=M3 at hT2 KJ hR ⊢
  refine ⟨p2,qs.reverse,rfl,hR,by rw [List.length_reverse];omega,fun q hq=>oq q (List.mem_reverse.mp hq),fun p3 hp3=>?_⟩
  have Us:th.length≤64:=by omega
  generalize (qs.reverse.foldl aV []).reverse=hm at *
  have NR:=ai (u:=MO.lst (hm.map Pl.d)) hT2 hp3
  have Lc:=KJ.trans (Le.new (o:= .lst (hm.map Pl.d)) hp3)
  have hH:aA M3 p3 (.lst (hm.map Pl.d)) p3=some (.lst (hm.map Pl.d)):=ah
  generalize aA M3 p3 (.lst (hm.map Pl.d))=M4 at NR Lc hH ⊢
  walk_at "rd"
  refine ⟨_,.of NR,fun p4 NS=>?_⟩
  rw [zX]
  have QT:=ai (u:=MO.lst (th.dropLast.map Pl.d)) hH NS
  have QU:=Lc.trans (Le.new (o:= .lst (th.dropLast.map Pl.d)) NS)
  have hA:aA M4 p4 (.lst (th.dropLast.map Pl.d)) p4=some (.lst (th.dropLast.map Pl.d)):=ah
  generalize aA M4 p4 (.lst (th.dropLast.map Pl.d))=M5 at QT QU hA ⊢
  walk_at "rd"
  refine ⟨_,.of QT,fun p5 QV=>?_⟩
  rw [zX]
  have QW:=ai (u:=MO.lst (hm.dropLast.map Pl.d)) hA QV
  have HR:=QU.trans (Le.new (o:= .lst (hm.dropLast.map Pl.d)) QV)
  have hB:aA M5 p5 (.lst (hm.dropLast.map Pl.d)) p5=some (.lst (hm.dropLast.map Pl.d)):=ah
  generalize aA M5 p5 (.lst (hm.dropLast.map Pl.d))=M6 at QW HR hB ⊢
  refine ⟨p4,p5,_,_,rfl,rfl,QW,hB,?_,fun p6 Sf=>?_⟩
  ·rw [List.length_map,List.length_map,List.length_dropLast,List.length_dropLast]
   have:(1000:Nat) < sizeLine:=by decide
   omega
  ·rw [← List.map_append]
   exact aI.mk ⟨_,HR.put,h' p6 (HR.free Sf)⟩
theorem k7 (T:Txt K mg t):Binds K t.gB ["places"] []:=T.fh.binds fun _ _ _ _ _ _ us hl=>match us,hl with | [_],_=>rfl
def sE:m9:=fun ds M Q=> ∃ (l:Addr) (ps:List Pl),ds= [.ref l]∧M l=some (.lst (ps.map Pl.d))∧ps.length < 64∧(∀ q∈ps,q.Ok 140)∧∀ (p:Addr) (qs:List Pl),M p=none→qs.Perm ps→qs.Pairwise (fun p q=> ¬ aT q p)→Q (.ref p) (aA M p (.lst ((aX (dm qs)).map tD)))
theorem k8 (T:Txt K mg t):bP P w K mg base dZ 5 t.g9 t.gB ["places"] (nv K sE):=by
 refine pJ T.fh kX (fun ds M Q h=>by (first | (obtain ⟨_,rfl,_⟩:=h;rfl) | (obtain ⟨_,_,rfl,_⟩:=h;rfl) | (obtain ⟨_,_,_,rfl,_⟩:=h;rfl) | (obtain ⟨_,_,_,_,rfl,_⟩:=h;rfl) | (obtain ⟨_,_,_,_,_,rfl,_⟩:=h;rfl) | (obtain ⟨_,_,_,_,_,_,rfl,_⟩:=h;rfl) | (obtain ⟨_,_,_,_,_,_,_,rfl,_⟩:=h;rfl))) (fun cdv A outer s H hr=>?_)
 have hu:=hr.units
 refine ⟨_,(ao (aM (i:=1) kX.nd rfl (Or.inl rfl) (bf (BL T) (hr.mono (by decide)) (by rfl) T.Dm T.rG.kp (BK T) (af (aa 0) ak)))
  (ao (aZ (aD (jy hu) (aK cU (by rfl) T.cj aQ (af (aa 1) ak)) aj (az _)) (ay (aC (bN ak))) aN)
  (ay (aC (C7 (by rfl) (by rfl) T.dO (by rfl) T.KI (af (aa 1) (af (aq fJ (c7 (aa 1) (gw aj) qY) (c7 (aa 1) qY (gw aj))) ak))))))),fun ds M Q h=>?_⟩
 obtain ⟨l,ps,rfl,hM,h64,ho,h⟩:=h
 walk_at "rd"
 refine ⟨l,ps,rfl,hM,h64,ho,fun p qs hp bF dP=>?_⟩
 have h':∀ r,M r=none→Q (.ref r) (aA M r (.lst ((aX (dm qs)).map tD))):=fun r hr=>h r qs hr bF dP
 have lo:(dm qs).length≤200:=by
  have l1:=eE qs
  have l2:=eE qs.reverse
  have l3:=bF.length_eq
  rw [List.length_reverse] at l2
  unfold dm
  split
  ·omega
  ·rw [List.length_append,List.length_dropLast,List.length_dropLast,List.length_reverse,List.length_reverse]
   omega
 generalize dm qs=bd at *
 walk_at "rd"
 refine ⟨_,_,rfl,.inr (.inr ⟨p,rfl,ah⟩),?_⟩
 walk_at "rd"
 rw [List.length_map]
 refine aR (fun c=>?_) (fun c=>?_)
 ·have c:(bd.length:Int) < 2:=of_decide_eq_true c
  walk_at "rd"
  intro r hr
  have q:=h' r ((Le.new hp).free hr)
  unfold aX at q
  rw [if_pos (by omega)] at q
  exact aI.mk ⟨_,(Le.new hp).put,q⟩
 ·have c:¬ (bd.length:Int) < 2:=fun z=>c (decide_eq_true z)
  walk_at "rd"
  have le:=Le.new (o:= .lst (bd.map Pl.d)) hp
  have hB:aA M p (.lst (bd.map Pl.d)) p=some (.lst (bd.map Pl.d)):=ah
  generalize aA M p (.lst (bd.map Pl.d))=M1 at hB le ⊢
  refine ⟨_,.of hB,fun p1 hp1=>?_⟩
  have Qa:cutD (bd.map Pl.d) (some 1) none=(bd.drop 1).map Pl.d:=iY Pl.d bd 1 (by omega)
  have Qc:cutD (bd.map Pl.d) none (some 1)=(bd.take 1).map Pl.d:=gP Pl.d bd 1 (by omega)
  rw [Qa]
  have Qd:=ai (u:=MO.lst ((bd.drop 1).map Pl.d)) hB hp1
  have QX:=le.trans (Le.new (o:= .lst ((bd.drop 1).map Pl.d)) hp1)
  have hA:aA M1 p1 (.lst ((bd.drop 1).map Pl.d)) p1=some (.lst ((bd.drop 1).map Pl.d)):=ah
  generalize aA M1 p1 (.lst ((bd.drop 1).map Pl.d))=M2 at Qd QX hA ⊢
  walk_at "rd"
  refine ⟨_,.of Qd,fun p2 hp2=>?_⟩
  rw [Qc]
  have hB2:=ai (u:=MO.lst ((bd.take 1).map Pl.d)) Qd hp2
  have QY:=ai (u:=MO.lst ((bd.take 1).map Pl.d)) hA hp2
  have KJ:=QX.trans (Le.new (o:= .lst ((bd.take 1).map Pl.d)) hp2)
  have hC:aA M2 p2 (.lst ((bd.take 1).map Pl.d)) p2=some (.lst ((bd.take 1).map Pl.d)):=ah
  generalize aA M2 p2 (.lst ((bd.take 1).map Pl.d))=M3 at hB2 QY KJ hC ⊢
  refine ⟨p1,p2,_,_,rfl,rfl,QY,hC,?_,fun p3 hp3=>?_⟩
  ·rw [List.length_map,List.length_map,List.length_drop,List.length_take]
   have:(1000:Nat) < sizeLine:=by decide
   omega
  rw [← List.map_append]
  have QZ:=ai (u:=MO.lst ((bd.drop 1 ++ bd.take 1).map Pl.d)) hB2 hp3
  have Lc:=KJ.trans (Le.new (o:= .lst ((bd.drop 1 ++ bd.take 1).map Pl.d)) hp3)
  have hE:aA M3 p3 (.lst ((bd.drop 1 ++ bd.take 1).map Pl.d)) p3=some (.lst ((bd.drop 1 ++ bd.take 1).map Pl.d)):=ah
  generalize aA M3 p3 (.lst ((bd.drop 1 ++ bd.take 1).map Pl.d))=M4 at QZ Lc hE ⊢
  refine ⟨p,p3,_,_,rfl,QZ,hE,fun p4 NS=>?_⟩
  have q:=h' p4 (Lc.free NS)
  unfold aX at q
  rw [if_neg (by omega)] at q
  have ez:=xu bd (bd.drop 1 ++ bd.take 1)
  rw [show ((List.zipWith (fun p q=>[p,q]) bd (bd.drop 1 ++ bd.take 1)).map tD)=_ from ez] at q
  exact aI.mk ⟨_,Lc.put,q⟩
theorem HS (T:Txt K mg t):Binds K t.yt ["way"] []:=T.BG.binds fun _ _ _ _ _ _ us hl=>match us,hl with | [_],_=>rfl
def KO:sW:=fun ds Q=> ∃ a b:Pl,ds= [tD [a,b]]∧Q (tD [b,a])
theorem HU (T:Txt K mg t):bP P w K mg base dZ 1 t.BC t.yt ["way"] (rY K KO):=by
 refine wW T.BG HM (fun ds Q h=>by (first | (obtain ⟨_,rfl,_⟩:=h;rfl) | (obtain ⟨_,_,rfl,_⟩:=h;rfl) | (obtain ⟨_,_,_,rfl,_⟩:=h;rfl) | (obtain ⟨_,_,_,_,rfl,_⟩:=h;rfl) | (obtain ⟨_,_,_,_,_,rfl,_⟩:=h;rfl) | (obtain ⟨_,_,_,_,_,_,rfl,_⟩:=h;rfl) | (obtain ⟨_,_,_,_,_,_,_,rfl,_⟩:=h;rfl))) (fun cdv A outer s H hr=>?_)
 have hu:=hr.units
 refine ⟨_,(ay (aC (aY (af (aJ (aa 0) aj) (af (aJ (aa 0) aj) ak))))),fun ds Q h=>?_⟩
 obtain ⟨a,b,rfl,h⟩:=h
 walk_at "rd"
 exact h
theorem wu (T:Txt K mg t):Binds K t.j7 ["places","triples"] []:=T.mU.binds fun _ _ _ _ _ _ us hl=>match us,hl with | [_,_],_=>rfl
def yZ:m9:=fun ds M Q=> ∃ l c:Addr,ds= [.ref l,.ref c]∧∃ (ps:List Pl) (ts:List (List Pl)),M l=some (.lst (ps.map Pl.d))∧M c=some (.lst (ts.map tD))∧(∀ t∈ts,Tr t)∧ts.length≤200∧ps.length < 64∧(∀ q∈ps,q.Ok 140)∧∀ (qs:List Pl) (r:Option (List Pl)),qs.Perm ps→qs.Pairwise (fun p q=> ¬ aT q p)→pB (HB (dc ts) (aX (dm qs))) r→Q (oT r) M
theorem rC (bd:List Pl):∀ w∈aX bd,∃ a b,w= [a,b]:=by
 intro w hw
 unfold aX at hw
 split at hw
 ·cases hw
 ·exact o7 _ _ w hw
theorem FA (qs:List Pl):(dm qs).length≤2*qs.length:=by
 have l1:=eE qs
 have l2:=eE qs.reverse
 rw [List.length_reverse] at l2
 unfold dm
 split
 ·omega
 ·rw [List.length_append,List.length_dropLast,List.length_dropLast,List.length_reverse,List.length_reverse]
  omega
theorem Dr (bd:List Pl):(aX bd).length≤bd.length:=by
 unfold aX
 split
 ·simp
 ·rw [List.length_zipWith]
  omega
theorem wz (T:Txt K mg t):bP P w K mg base dZ 6 t.mF t.j7 ["places","triples"] (nv K yZ):=by
 refine pJ T.mU eZ (fun ds M Q h=>by (first | (obtain ⟨_,rfl,_⟩:=h;rfl) | (obtain ⟨_,_,rfl,_⟩:=h;rfl) | (obtain ⟨_,_,_,rfl,_⟩:=h;rfl) | (obtain ⟨_,_,_,_,rfl,_⟩:=h;rfl) | (obtain ⟨_,_,_,_,_,rfl,_⟩:=h;rfl) | (obtain ⟨_,_,_,_,_,_,rfl,_⟩:=h;rfl) | (obtain ⟨_,_,_,_,_,_,_,rfl,_⟩:=h;rfl))) (fun cdv A outer s H hr=>?_)
 have hu:=hr.units
 refine ⟨_,(ao (aM (i:=2) eZ.nd rfl (Or.inr rfl) (bf (jD T) (hr.mono (by decide)) (by rfl) T.kW T.eF.kp (jC T) (af (aa 1) ak)))
  (ao (aM (i:=3) eZ.nd rfl (Or.inr rfl) (bf (k8 T) (hr.mono (by decide)) (by rfl) T.ni T.fh.kp (k7 T) (af (aa 0) ak)))
  (ao (A0 (j:=4) (iB (ys:=["ways","border"]) (fs:=[2,3]) rfl (by show b8 (au fO) ["places","triples","ways","border","ragged","missing"] _ _ _ _=true;decide +kernel) (aa 2) (fun cl C s0 H0 ex=>nc (nK.pt (kL (aD (ff hu) (aE (HU T) (hr.mono (by decide)) (by rfl) T.KG T.BG.kp (HS T) (af (aa 0) ak)) (aa 1) (by with_unfolding_all rfl)) (gU (aD (ff hu) (aa 0) (aa 2) (by with_unfolding_all rfl)))))) (fun cl C s0 H0 ex=>(aa 0))) eZ.nd rfl (Or.inl rfl))
  (ao (A0 (j:=5) (iB (ys:=["ways"]) (fs:=[2]) rfl (by show b8 (au fO) ["places","triples","ways","border","ragged","missing"] _ _ _ _=true;decide +kernel) (aa 3) (fun cl C s0 H0 ex=>nc (aD (ff hu) (aa 0) (aa 1) (by with_unfolding_all rfl))) (fun cl C s0 H0 ex=>(aa 0))) eZ.nd rfl (Or.inl rfl))
  (ay (aC (Bg (Ct (n:=2) hu rfl) (by rfl) T.gE (aq fJ (aa 4) (aa 5))))))))),fun ds M Q h=>?_⟩
 obtain ⟨l,c,rfl,ps,ts,hM,hC,hts,Az,h64,ho,h⟩:=h
 have sl:(1000:Nat) < sizeLine:=by decide
 have ld:=kU ts
 walk_at "rd"
 refine ⟨ts,hC,hts,Az,fun p hp=>?_⟩
 have le:=Le.new (o:=MO.lst ((dc ts).map tD)) hp
 have hM:=ai (u:=MO.lst ((dc ts).map tD)) hM hp
 have hP:aA M p (.lst ((dc ts).map tD)) p=some (.lst ((dc ts).map tD)):=ah
 generalize aA M p (.lst ((dc ts).map tD))=M1 at hP hM le ⊢
 have two:=nX (ts:=ts)
 walk_at "rd"
 refine ⟨l,ps,rfl,hM,h64,ho,fun b qs hb bF dP=>?_⟩
 have h:=fun r=>h qs r bF dP
 have lb:(aX (dm qs)).length≤200:=by
  have:=Dr (dm qs)
  have:=FA qs
  have:=bF.length_eq
  omega
 have HE:=rC (dm qs)
 generalize aX (dm qs)=bs at lb HE h ⊢
 generalize dc ts=ws at hP ld two h ⊢
 have le:=le.trans (Le.new (o:=MO.lst (bs.map tD)) hb)
 have hP:=ai (u:=MO.lst (bs.map tD)) hP hb
 have hB:aA M1 b (.lst (bs.map tD)) b=some (.lst (bs.map tD)):=ah
 generalize aA M1 b (.lst (bs.map tD))=M2 at hP hB le ⊢
 walk_at "rd"
 refine ⟨p,_,rfl,hP,by rw [List.length_map];omega,aI.mk (bR (fun i acc M4=>M4=M2∧acc=((ws.take i).filter (fun w=>decide (w.reverse∉ws∧w∉bs))).map tD) _ ?_ ?_ ⟨rfl,rfl⟩)⟩
 ·rintro i d acc M4 N hx ⟨rfl,rfl⟩ hN
  obtain ⟨w,hw,rfl⟩:=c8 hx
  obtain ⟨a,b',e,_⟩:=two w (List.mem_of_getElem? hw)
  subst e
  have yes:([a,b'].reverse∉ws∧[a,b']∉bs)→N (((ws.take i).filter (fun w=>decide (w.reverse∉ws∧w∉bs))).map tD ++ [tD [a,b']]) M4:=fun k=>hN _ _ ⟨rfl,by rw [bO hw,if_pos (decide_eq_true k),List.map_append];rfl⟩
  have no:¬ ([a,b'].reverse∉ws∧[a,b']∉bs)→N (((ws.take i).filter (fun w=>decide (w.reverse∉ws∧w∉bs))).map tD) M4:=fun k=>hN _ _ ⟨rfl,by rw [bO hw,if_neg (fun z=>k (of_decide_eq_true z)),List.append_nil]⟩
  refine ⟨hP,?_⟩
  refine ⟨_,rfl,?_⟩
  refine ⟨a,b',rfl,?_⟩
  walk_at "rd"
  refine ⟨_,.inr ⟨p,rfl,hP⟩,rfl,bq ws,?_⟩
  walk_at "rd"
  rw [if_pos rfl,qG]
  refine aR (fun k=>?_) (fun k=>?_)
  ·have k: [b',a]∉ws:=fun z=>by rw [decide_eq_true z] at k;cases k
   walk_at "rd"
   refine ⟨_,.inr ⟨b,rfl,hB⟩,rfl,bq bs,?_⟩
   walk_at "rd"
   rw [if_pos rfl,qG]
   refine aR (fun k2=>?_) (fun k2=>?_)
   ·have k2: [a,b']∉bs:=fun z=>by rw [decide_eq_true z] at k2;cases k2
    walk_at "rd"
    exact yes ⟨k,k2⟩
   ·have k2: [a,b']∈bs:=Classical.byContradiction fun z=>k2 (by rw [decide_eq_false z];rfl)
    exact no fun z=>z.2 k2
  ·have k: [b',a]∈ws:=Classical.byContradiction fun z=>k (by rw [decide_eq_false z];rfl)
   exact no fun z=>z.1 k
 rintro acc M4 ⟨rfl,rfl⟩
 refine ⟨hP,fun q hq=>?_⟩
 rw [List.length_map,List.take_length]
 have lf:=List.length_filter_le (fun w=>decide (w.reverse∉ws∧w∉bs)) ws
 have mf:∀ w,w∈ws.filter (fun w=>decide (w.reverse∉ws∧w∉bs))↔(w∈ws∧w.reverse∉ws∧w∉bs):=fun w=>by rw [List.mem_filter];simp
 generalize ws.filter (fun w=>decide (w.reverse∉ws∧w∉bs))=rg at lf mf ⊢
 have le:=le.trans (Le.new (o:=MO.lst (rg.map tD)) hq)
 have hP:=ai (u:=MO.lst (rg.map tD)) hP hq
 have hB:=ai (u:=MO.lst (rg.map tD)) hB hq
 have hQ:aA M4 q (.lst (rg.map tD)) q=some (.lst (rg.map tD)):=ah
 generalize aA M4 q (.lst (rg.map tD))=M5 at hP hB hQ le ⊢
 walk_at "rd"
 refine ⟨b,_,rfl,hB,by rw [List.length_map];omega,aI.mk (bR (fun i acc M6=>M6=M5∧acc=((bs.take i).filter (fun w=>decide (w∉ws))).map tD) _ ?_ ?_ ⟨rfl,rfl⟩)⟩
 ·rintro i d acc M6 N hx ⟨rfl,rfl⟩ hN
  obtain ⟨w,hw,rfl⟩:=c8 hx
  refine ⟨hB,?_⟩
  walk_at "rd"
  refine ⟨_,.inr ⟨p,rfl,hP⟩,o8 w,bq ws,?_⟩
  walk_at "rd"
  rw [if_pos rfl,qG]
  refine aR (fun k=>?_) (fun k=>?_)
  ·have k:w∉ws:=fun z=>by rw [decide_eq_true z] at k;cases k
   walk_at "rd"
   refine hN _ _ ⟨rfl,?_⟩
   rw [bO hw,if_pos (decide_eq_true k),List.map_append]
   rfl
  ·have k:w∈ws:=Classical.byContradiction fun z=>k (by rw [decide_eq_false z];rfl)
   refine hN _ _ ⟨rfl,?_⟩
   rw [bO hw,if_neg (fun z=>absurd k (of_decide_eq_true z)),List.append_nil]
 rintro acc M6 ⟨rfl,rfl⟩
 refine ⟨hB,fun u eL=>?_⟩
 rw [List.length_map,List.take_length]
 have lg:=List.length_filter_le (fun w=>decide (w∉ws)) bs
 have mg':∀ w,w∈bs.filter (fun w=>decide (w∉ws))↔(w∈bs∧w∉ws):=fun w=>by rw [List.mem_filter];simp
 generalize bs.filter (fun w=>decide (w∉ws))=ms at lg mg' ⊢
 have le:=le.trans (Le.new (o:=MO.lst (ms.map tD)) eL)
 have hQ:=ai (u:=MO.lst (ms.map tD)) hQ eL
 have hU:aA M6 u (.lst (ms.map tD)) u=some (.lst (ms.map tD)):=ah
 generalize aA M6 u (.lst (ms.map tD))=M7 at hQ hU le ⊢
 walk_at "rd"
 refine ⟨q,u,_,_,rfl,rfl,hQ,hU,by rw [List.length_map,List.length_map];omega,fun v hv=>?_⟩
 rw [← List.map_append]
 obtain ⟨m0,m1⟩:=ym (ws:=rg ++ ms) (W:=HB ws bs) (fun w=>by unfold HB;rw [List.mem_append,mf,mg'])
 have le:=le.trans (Le.new (o:=MO.lst ((rg ++ ms).map tD)) hv)
 refine ⟨v,_,rfl,ah,fun t ht=>?_,fun e0=>aI.mk ⟨M,le,h none (m0 e0)⟩,fun m mm lm=>aI.mk ⟨M,le,h (some m) (m1 m mm lm)⟩⟩
 rcases List.mem_append.mp ht with ht | ht
 ·obtain ⟨a,b',e,_⟩:=two t ((mf t).mp ht).1
  rw [e]
  rfl
 ·obtain ⟨a,b',e⟩:=HE t ((mg' t).mp ht).1
  rw [e]
  rfl
theorem sF (T:Txt K mg t):Binds K t.ia ["places","triples"] []:=T.jn.binds fun _ _ _ _ _ _ us hl=>match us,hl with | [_,_],_=>rfl
def u6:m9:=fun ds M Q=> ∃ l c:Addr,ds= [.ref l,.ref c]∧∃ (ps:List Pl) (ts:List (List Pl)),M l=some (.lst (ps.map Pl.d))∧M c=some (.lst (ts.map tD))∧(∀ t∈ts,Tr t)∧ts.length≤200∧ps.length < 64∧∀ r:Option Pl,rA (HC ps ts) r→Q (oP r) M
theorem sG (T:Txt K mg t):bP P w K mg base dZ 1 t.jd t.ia ["places","triples"] (nv K u6):=by
 refine pJ T.jn iz (fun ds M Q h=>by (first | (obtain ⟨_,rfl,_⟩:=h;rfl) | (obtain ⟨_,_,rfl,_⟩:=h;rfl) | (obtain ⟨_,_,_,rfl,_⟩:=h;rfl) | (obtain ⟨_,_,_,_,rfl,_⟩:=h;rfl) | (obtain ⟨_,_,_,_,_,rfl,_⟩:=h;rfl) | (obtain ⟨_,_,_,_,_,_,rfl,_⟩:=h;rfl) | (obtain ⟨_,_,_,_,_,_,_,rfl,_⟩:=h;rfl))) (fun cdv A outer s H hr=>?_)
 have hu:=hr.units
 refine ⟨_,(ao (aM (i:=2) iz.nd rfl (Or.inr rfl) (bN ak))
  (ao (eS PassesOwn.never rfl (aa 1) (bg (i:=3) iz.nd rfl (Or.inl rfl)) (ay (pT (Ks (aa 2) (aa 3) (rO PySem.F.plainAttrs_list PySem.F.slot_list_extend PySem.F.type_list_extend Hw (cE.dn (aa 2)) (iF (cE.dn (aa 3)) lP))))))
  (ay (aC (Bg (HA hu rfl) (by rfl) T.gE (rZ (iB (ys:=["corners"]) (fs:=[2]) rfl (by show b8 (au fR) ["places","triples","corners","t"] _ _ _ _=true;decide +kernel) (aa 0) (fun cl C s0 H0 ex=>nc (aD (ff hu) (aa 0) (aa 1) (by with_unfolding_all rfl))) (fun cl C s0 H0 ex=>(aa 0))))))))),fun ds M Q h=>?_⟩
 obtain ⟨l,c,rfl,ps,ts,hM,hC,hts,Az,h64,h⟩:=h
 have sl:(1000:Nat) < sizeLine:=by decide
 have h3:∀ t∈ts,t.length=3:=fun t ht=>by obtain ⟨a,b,d,rfl,_⟩:=hts t ht;rfl
 walk_at "rd"
 intro p hp
 have P9:l≠p:=fun z=>by rw [← z,hM] at hp;cases hp
 have Sg:c≠p:=fun z=>by rw [← z,hC] at hp;cases hp
 walk_at "rd"
 refine ⟨c,_,rfl,ai hC hp,?_⟩
 refine aF (fun i ρ M'=>(∃ y:Option L3.D,ρ= [some (.ref l),some (.ref c),some (.ref p),y])∧M' l=some (.lst (ps.map Pl.d))∧M' c=some (.lst (ts.map tD))∧M' p=some (.lst ((ts.take i).flatten.map Pl.d))∧Le M M') _ ?_ ?_ ⟨⟨_,rfl⟩,ai hM hp,ai hC hp,ah,Le.new hp⟩
 ·rintro i x ρ M' N hx ⟨⟨y,rfl⟩,hM,hC,hP,le⟩ hN
  obtain ⟨t,ht,rfl⟩:=c8 hx
  refine ⟨hC,?_⟩
  walk_at "rd"
  refine ⟨⟨p,_,rfl,hP⟩,?_⟩
  refine ⟨_,rfl,?_⟩
  refine ⟨p,_,t.map Pl.d,rfl,rfl,hP,by rw [List.length_map,List.length_map,h3 t (List.mem_of_getElem? ht)];have:=Fb h3 i;omega,?_⟩
  rw [← List.map_append,← Di ht]
  refine hN _ _ ⟨⟨_,rfl⟩,by rw [bG P9];exact hM,by rw [bG Sg];exact hC,ah,fun x o e=>?_⟩
  rw [bG (fun z=>by rw [z,hp] at e;cases e)]
  exact le _ _ e
 ·rintro ρ M' ⟨⟨y,rfl⟩,hM,hC,hP,le⟩
  refine ⟨hC,?_⟩
  rw [List.length_map,List.take_length] at hP
  walk_at "rd"
  refine ⟨l,_,rfl,hM,by rw [List.length_map];omega,aI.mk (bR (fun i acc M4=>M4=M'∧acc=((ps.take i).filter (fun q=>decide (q∉ts.flatten))).map Pl.d) _ ?_ ?_ ⟨rfl,rfl⟩)⟩
  ·rintro i d acc M4 N hx ⟨rfl,rfl⟩ hN
   obtain ⟨q,hq,rfl⟩:=fq hx
   refine ⟨hM,?_⟩
   walk_at "rd"
   refine ⟨_,.inr ⟨p,rfl,hP⟩,rfl,bH _,?_⟩
   walk_at "rd"
   rw [if_pos rfl,iJ]
   refine aR (fun k=>?_) (fun k=>?_)
   ·have k:q∉ts.flatten:=fun z=>by rw [decide_eq_true z] at k;cases k
    walk_at "rd"
    refine hN _ _ ⟨rfl,?_⟩
    rw [cz hq,if_pos (decide_eq_true k),List.map_append]
    rfl
   ·have k:q∈ts.flatten:=Classical.byContradiction fun z=>k (by rw [decide_eq_false z];rfl)
    refine hN _ _ ⟨rfl,?_⟩
    rw [cz hq,if_neg (fun z=>absurd k (of_decide_eq_true z)),List.append_nil]
  ·rintro acc M4 ⟨rfl,rfl⟩
   refine ⟨hM,fun u eL=>?_⟩
   rw [List.length_map,List.take_length]
   obtain ⟨m0,m1⟩:=Cv (ws:=ps.filter (fun q=>decide (q∉ts.flatten))) (W:=HC ps ts) (fun w=>by
    unfold HC
    rw [List.mem_filter,decide_eq_true_iff,List.mem_flatten]
    exact ⟨fun z=>⟨z.1,fun t ht hw=>z.2 ⟨t,ht,hw⟩⟩,fun z=>⟨z.1,fun ⟨t,ht,hw⟩=>z.2 t ht hw⟩⟩)
   exact ⟨u,_,rfl,ah,fun e0=>aI.mk ⟨M,le.trans (Le.new eL),h none (m0 e0)⟩,fun m mm lm=>aI.mk ⟨M,le.trans (Le.new eL),h (some m) (m1 m mm lm)⟩⟩
theorem u7 (T:Txt K mg t):Binds K t.je ["places","triples"] []:=T.ku.binds fun _ _ _ _ _ _ us hl=>match us,hl with | [_,_],_=>rfl
def wA:m9:=fun ds M Q=> ∃ l c:Addr,ds= [.ref l,.ref c]∧∃ (ps:List Pl) (ts:List (List Pl)),M l=some (.lst (ps.map Pl.d))∧M c=some (.lst (ts.map tD))∧(∀ t∈ts,Tr t)∧ts.length≤200∧ps.length < 64∧(∀ q∈ps,q.Ok 140)∧∀ (qs:List Pl) (r:Option Flt),qs.Perm ps→qs.Pairwise (fun p q=> ¬ aT q p)→Ng ps ts (aX (dm qs)) r→Q (fD r) M
theorem xJ (ps:List Pl):∃ qs:List Pl,qs.Perm ps∧qs.Pairwise (fun p q=> ¬ aT q p):=by
 have tot:∀ a b:Pl,(!decide (aT b a) || !decide (aT a b))=true:=fun a b=>by
  by_cases h:aT b a
  ·simp [h,eg h]
  ·simp [h]
 have Sh:∀ a b c:Pl,(!decide (aT b a))=true→(!decide (aT c b))=true→(!decide (aT c a))=true:=fun a b c h1 h2=>by
  simp only [Bool.not_eq_true',decide_eq_false_iff_not] at *
  intro h3
  rcases er b c with k | k | k
  ·exact h1 (b9 k h3)
  ·subst k;exact h1 h3
  ·exact h2 k
 refine ⟨ps.mergeSort (fun a b=>!decide (aT b a)),List.mergeSort_perm _ _,?_⟩
 refine (List.pairwise_mergeSort Sh tot ps).imp fun h=>?_
 simpa using h
theorem u9 (T:Txt K mg t):bP P w K mg base dZ 7 t.j8 t.je ["places","triples"] (nv K wA):=by
 refine pJ T.ku gm (fun ds M Q h=>by (first | (obtain ⟨_,rfl,_⟩:=h;rfl) | (obtain ⟨_,_,rfl,_⟩:=h;rfl) | (obtain ⟨_,_,_,rfl,_⟩:=h;rfl) | (obtain ⟨_,_,_,_,rfl,_⟩:=h;rfl) | (obtain ⟨_,_,_,_,_,rfl,_⟩:=h;rfl) | (obtain ⟨_,_,_,_,_,_,rfl,_⟩:=h;rfl) | (obtain ⟨_,_,_,_,_,_,_,rfl,_⟩:=h;rfl))) (fun cdv A outer s H hr=>?_)
 have hu:=hr.units
 refine ⟨_,(ao (aM (i:=2) gm.nd rfl (Or.inl rfl) (bf (sD T) (hr.mono (by decide)) (by rfl) T.uI T.jm.kp (sC T) (af (aa 1) ak)))
  (ao (aZ (aD q8 (aa 2) cG (az _)) (ay (aC (aY (af m6 (af (aa 2) ak))))) aN)
  (ao (aM (i:=3) gm.nd rfl (Or.inl rfl) (bf (wz T) (hr.mono (by decide)) (by rfl) T.yE T.mU.kp (wu T) (af (aa 0) (af (aa 1) ak))))
  (ao (aZ (aD q8 (aa 3) cG (az _)) (ay (aC (aY (af m6 (af (aa 3) ak))))) aN)
  (ao (aM (i:=4) gm.nd rfl (Or.inl rfl) (bf (sG T) (hr.mono (by decide)) (by rfl) T.uJ T.jn.kp (sF T) (af (aa 0) (af (aa 1) ak))))
  (ao (aZ (aD q8 (aa 4) cG (az _)) (ay (aC (aY (af m6 (af (aa 4) ak))))) aN)
  (ay (aC cG)))))))),fun ds M Q h=>?_⟩
 obtain ⟨l,c,rfl,ps,ts,hM,hC,hts,Az,h64,ho,h⟩:=h
 walk_at "rd"
 refine ⟨ts,hC,hts,Az,fun d hd=>?_⟩
 cases d with
 | some w=>
   obtain ⟨qs,q1,q2⟩:=xJ ps
   walk_at "rd"
   exact aI.mk ⟨M,Le.refl _,h qs _ q1 q2 ⟨some w,none,none,hd,(fun z=>by cases z),(fun z=>by cases z),rfl⟩⟩
 | none=>
   walk_at "rd"
   refine ⟨ps,ts,hM,hC,hts,Az,h64,ho,fun qs b q1 q2 hb=>?_⟩
   cases b with
   | some w=>
     walk_at "rd"
     exact aI.mk ⟨M,Le.refl _,h qs _ q1 q2 ⟨none,some w,none,hd,fun _=>hb,(fun _ z=>by cases z),rfl⟩⟩
   | none=>
     walk_at "rd"
     refine ⟨ps,ts,hM,hC,hts,Az,h64,fun p hp=>?_⟩
     cases p with
     | some p=>
       walk_at "rd"
       exact aI.mk ⟨M,Le.refl _,h qs _ q1 q2 ⟨none,none,some p,hd,fun _=>hb,fun _ _=>hp,rfl⟩⟩
     | none=>
       walk_at "rd"
       exact aI.mk ⟨M,Le.refl _,h qs _ q1 q2 ⟨none,none,none,hd,fun _=>hb,fun _ _=>hp,rfl⟩⟩
theorem y9 (T:Txt K mg t):Binds K t.mG ["a","b","c"] []:=T.oz.binds fun _ _ _ _ _ _ us hl=>match us,hl with | [_,_,_],_=>rfl
def Aq:sW:=fun ds Q=> ∃ a b c:Pl,ds= [a.d,b.d,c.d]∧a.Ok 140∧b.Ok 140∧c.Ok 140∧tw a b c≠0∧Q (.int (tw a b c))
theorem za (T:Txt K mg t):bP P w K mg base dZ 2 t.oi t.mG ["a","b","c"] (rY K Aq):=by
 refine wW T.oz qM (fun ds Q h=>by (first | (obtain ⟨_,rfl,_⟩:=h;rfl) | (obtain ⟨_,_,rfl,_⟩:=h;rfl) | (obtain ⟨_,_,_,rfl,_⟩:=h;rfl) | (obtain ⟨_,_,_,_,rfl,_⟩:=h;rfl) | (obtain ⟨_,_,_,_,_,rfl,_⟩:=h;rfl) | (obtain ⟨_,_,_,_,_,_,rfl,_⟩:=h;rfl) | (obtain ⟨_,_,_,_,_,_,_,rfl,_⟩:=h;rfl))) (fun cdv A outer s H hr=>?_)
 have hu:=hr.units
 refine ⟨_,(ao (aM (i:=3) qM.nd rfl (Or.inl rfl) (aE (oM T) (hr.mono (by decide)) (by rfl) T.qH T.mQ.kp (oK T) (af (aa 0) (af (aa 1) (af (aa 2) ak)))))
  (ao (aZ (aD (dj hu) (aa 3) aj (az _)) (ay GI) aN)
  (ay (aC (aa 3))))),fun ds Q h=>?_⟩
 obtain ⟨a,b,c,rfl,ha,hb,hc,hn,h⟩:=h
 walk_at "rd"
 refine ⟨ha,hb,hc,?_⟩
 walk_at "rd"
 refine aR (fun k=>?_) (fun _=>?_)
 ·exfalso
  rw [bM] at k
  exact hn (eq_of_beq k)
 walk_at "rd"
 exact h
theorem vc (T:Txt K mg t):Binds K t.uB ["p","q"] []:=T.qJ.binds fun _ _ _ _ _ _ us hl=>match us,hl with | [_,_],_=>rfl
def HV:sW:=fun ds Q=> ∃ p q:Pl,ds= [p.d,q.d]∧p.Ok 140∧q.Ok 140∧Q (.int (qm p q))
theorem vd (T:Txt K mg t):bP P w K mg base dZ 1 t.yu t.uB ["p","q"] (rY K HV):=by
 refine wW T.qJ uO (fun ds Q h=>by (first | (obtain ⟨_,rfl,_⟩:=h;rfl) | (obtain ⟨_,_,rfl,_⟩:=h;rfl) | (obtain ⟨_,_,_,rfl,_⟩:=h;rfl) | (obtain ⟨_,_,_,_,rfl,_⟩:=h;rfl) | (obtain ⟨_,_,_,_,_,rfl,_⟩:=h;rfl) | (obtain ⟨_,_,_,_,_,_,rfl,_⟩:=h;rfl) | (obtain ⟨_,_,_,_,_,_,_,rfl,_⟩:=h;rfl))) (fun cdv A outer s H hr=>?_)
 have hu:=hr.units
 refine ⟨_,(ao (aM (i:=2) uO.nd rfl (Or.inl rfl) (aq cO (aJ (aa 1) aj) (aJ (aa 0) aj)))
  (ao (aM (i:=3) uO.nd rfl (Or.inl rfl) (aq cO (aJ (aa 1) aj) (aJ (aa 0) aj)))
  (ay (aC (aq cC (aq cZ (aa 2) (aa 2)) (aq cZ (aa 3) (aa 3))))))),fun ds Q h=>?_⟩
 obtain ⟨p,q,rfl,⟨p1,p2⟩,⟨q1,q2⟩,h⟩:=h
 unfold qm at h
 walk_at "rd"
 exact h
theorem HW (T:Txt K mg t):Binds K t.yv ["a","b","c","d"] []:=T.BH.binds fun _ _ _ _ _ _ us hl=>match us,hl with | [_,_,_,_],_=>rfl
def KP:sW:=fun ds Q=> ∃ a b c d:Pl,ds= [a.d,b.d,c.d,d.d]∧a.Ok 140∧b.Ok 140∧c.Ok 140∧d.Ok 140∧tw a b c≠0∧Q (.int (rg a b c d))
theorem HX (T:Txt K mg t):bP P w K mg base dZ 3 t.BD t.yv ["a","b","c","d"] (rY K KP):=by
 refine wW T.BH yK (fun ds Q h=>by (first | (obtain ⟨_,rfl,_⟩:=h;rfl) | (obtain ⟨_,_,rfl,_⟩:=h;rfl) | (obtain ⟨_,_,_,rfl,_⟩:=h;rfl) | (obtain ⟨_,_,_,_,rfl,_⟩:=h;rfl) | (obtain ⟨_,_,_,_,_,rfl,_⟩:=h;rfl) | (obtain ⟨_,_,_,_,_,_,rfl,_⟩:=h;rfl) | (obtain ⟨_,_,_,_,_,_,_,rfl,_⟩:=h;rfl))) (fun cdv A outer s H hr=>?_)
 have hu:=hr.units
 refine ⟨_,(ao (aM (i:=4) yK.nd rfl (Or.inl rfl) (aE (za T) (hr.mono (by decide)) (by rfl) T.Aj T.oz.kp (y9 T) (af (aa 0) (af (aa 1) (af (aa 2) ak)))))
  (ao (aM (i:=5) yK.nd rfl (Or.inl rfl) (aq cC (aq cC (aq cZ (aE (vd T) (hr.mono (by decide)) (by rfl) T.yF T.qJ.kp (vc T) (af (aa 3) (af (aa 0) ak))) (aE (oM T) (hr.mono (by decide)) (by rfl) T.qH T.mQ.kp (oK T) (af (aa 3) (af (aa 1) (af (aa 2) ak))))) (aq cZ (aE (vd T) (hr.mono (by decide)) (by rfl) T.yF T.qJ.kp (vc T) (af (aa 3) (af (aa 1) ak))) (aE (oM T) (hr.mono (by decide)) (by rfl) T.qH T.mQ.kp (oK T) (af (aa 3) (af (aa 2) (af (aa 0) ak)))))) (aq cZ (aE (vd T) (hr.mono (by decide)) (by rfl) T.yF T.qJ.kp (vc T) (af (aa 3) (af (aa 2) ak))) (aE (oM T) (hr.mono (by decide)) (by rfl) T.qH T.mQ.kp (oK T) (af (aa 3) (af (aa 0) (af (aa 1) ak)))))))
  (ay (aC (aq cZ (aE (yX T) (hr.mono (by decide)) (by rfl) T.BF T.uH.kp (yW T) (af (aa 4) ak)) (aE (yX T) (hr.mono (by decide)) (by rfl) T.BF T.uH.kp (yW T) (af (aa 5) ak))))))),fun ds Q h=>?_⟩
 obtain ⟨a,b,c,d,rfl,ha,hb,hc,hd,hn,h⟩:=h
 have s1:=AY hd ha
 have s2:=AY hd hb
 have s3:=AY hd hc
 have t1:=nQ hd hb hc
 have t2:=nQ hd hc ha
 have t3:=nQ hd ha hb
 walk_at "rd"
 refine ⟨ha,hb,hc,hn,?_⟩
 walk_at "rd"
 refine ⟨hd,ha,?_⟩
 walk_at "rd"
 refine ⟨hd,hb,hc,?_⟩
 walk_at "rd"
 refine ⟨hd,hb,?_⟩
 walk_at "rd"
 refine ⟨hd,hc,ha,?_⟩
 walk_at "rd"
 refine ⟨hd,hc,?_⟩
 walk_at "rd"
 refine ⟨hd,ha,hb,?_⟩
 walk_at "rd"
 unfold rg dep at h
 exact h
theorem Ds (T:Txt K mg t):Binds K t.rF ["a","b","c","d"] []:=T.uK.binds fun _ _ _ _ _ _ us hl=>match us,hl with | [_,_,_,_],_=>rfl
def FD:sW:=fun ds Q=> ∃ a b c d:Pl,ds= [a.d,b.d,c.d,d.d]∧a.Ok 140∧b.Ok 140∧c.Ok 140∧d.Ok 140∧tw a b c≠0∧Q (.bl (decide (pq a b c d)))
theorem Dt (T:Txt K mg t):bP P w K mg base dZ 4 t.uC t.rF ["a","b","c","d"] (rY K FD):=by
 refine wW T.uK rH (fun ds Q h=>by (first | (obtain ⟨_,rfl,_⟩:=h;rfl) | (obtain ⟨_,_,rfl,_⟩:=h;rfl) | (obtain ⟨_,_,_,rfl,_⟩:=h;rfl) | (obtain ⟨_,_,_,_,rfl,_⟩:=h;rfl) | (obtain ⟨_,_,_,_,_,rfl,_⟩:=h;rfl) | (obtain ⟨_,_,_,_,_,_,rfl,_⟩:=h;rfl) | (obtain ⟨_,_,_,_,_,_,_,rfl,_⟩:=h;rfl))) (fun cdv A outer s H hr=>?_)
 have hu:=hr.units
 refine ⟨_,(ao (aM (i:=4) rH.nd rfl (Or.inl rfl) (aE (HX T) (hr.mono (by decide)) (by rfl) T.KH T.BH.kp (HW T) (af (aa 0) (af (aa 1) (af (aa 2) (af (aa 3) ak))))))
  (ao (aZ (aD (kP hu) (aa 4) aj (az _)) (ay (aC (dG (dj hu) (aa 4) aj (az _)))) aN)
  (ao (aZ (aD (D8 hu) (aa 3) (aY (af (aa 0) (af (aa 1) (af (aa 2) ak)))) (by with_unfolding_all rfl)) (ay (aC jQ)) aN)
  (ao (aM (i:=5) rH.nd rfl (Or.inl rfl) (aK kQ (by rfl) T.dI cy (af (bN (af (aa 0) (af (aa 1) (af (aa 2) ak)))) ak)))
  (ao (aZ (aD (jy hu) (aa 3) (aJ (aa 5) aj) (az _)) (ay (aC jQ)) aN)
  (ay (aC (dG (kP hu) (aE (m5 T) (hr.mono (by decide)) (by rfl) T.p8 T.mR.kp (mZ T) (af (aJ (aa 5) aj) (af (aJ (aa 5) aj) (af (aa 3) ak)))) (aE (m5 T) (hr.mono (by decide)) (by rfl) T.p8 T.mR.kp (mZ T) (af (aJ (aa 5) aj) (af (aJ (aa 5) aj) (af (aJ (aa 5) aj) ak)))) (az _))))))))),fun ds Q h=>?_⟩
 obtain ⟨a,b,c,d,rfl,ha,hb,hc,hd,hn,h⟩:=h
 walk_at "rd"
 refine ⟨ha,hb,hc,hd,hn,?_⟩
 walk_at "rd"
 refine aR (fun k=>?_) (fun k=>?_)
 ·have k:rg a b c d≠0:=fun z=>by rw [z] at k;exact absurd k (by decide)
  walk_at "rd"
  have e:decide (pq a b c d)=dQ (.int (rg a b c d)) (.int 1):=by
   rw [bM,Bool.eq_iff_iff]
   simp [pq,k]
  rw [e] at h
  exact h
 ·have k:rg a b c d=0:=by
   apply Classical.byContradiction
   intro z
   apply k
   rw [bM,beq_eq_false_iff_ne.mpr z]
   rfl
  walk_at "rd"
  rw [O3]
  refine aR (fun k2=>?_) (fun k2=>?_)
  ·have k2:=of_decide_eq_true k2
   walk_at "rd"
   have e:decide (pq a b c d)=false:=decide_eq_false (fun z=>by unfold pq at z;rw [k] at z;grind)
   rw [e] at h
   exact h
  ·have k2:¬ (d=a∨d=b∨d=c):=fun z=>k2 (decide_eq_true z)
   walk_at "rd"
   intro l hl
   refine ⟨l,[a,b,c],rfl,ah,by show 3 < 64;decide,fun p qs hp bF dP=>?_⟩
   obtain ⟨u,v,w,rfl⟩:=nR bF.length_eq
   obtain ⟨hu,hv,hw⟩:=tW bF ha hb hc
   have key:=AZ hn k k2 bF dP
   rw [key] at h
   walk_at "rd"
   refine ⟨_,_,_,.inr (.inr ⟨p,rfl,ah⟩),rfl,rfl,?_⟩
   walk_at "rd"
   rw [cM]
   refine aR (fun k3=>?_) (fun k3=>?_)
   ·rw [if_pos (of_decide_eq_true k3)] at h
    walk_at "rd"
    exact h
   ·rw [if_neg (fun z=>k3 (decide_eq_true z))] at h
    walk_at "rd"
    refine ⟨_,_,_,.inr (.inr ⟨p,rfl,ah⟩),rfl,rfl,?_⟩
    walk_at "rd"
    refine ⟨_,_,_,.inr (.inr ⟨p,rfl,ah⟩),rfl,rfl,?_⟩
    walk_at "rd"
    refine ⟨hv,hw,hd,?_⟩
    walk_at "rd"
    refine ⟨_,_,_,.inr (.inr ⟨p,rfl,ah⟩),rfl,rfl,?_⟩
    walk_at "rd"
    refine ⟨_,_,_,.inr (.inr ⟨p,rfl,ah⟩),rfl,rfl,?_⟩
    walk_at "rd"
    refine ⟨_,_,_,.inr (.inr ⟨p,rfl,ah⟩),rfl,rfl,?_⟩
    walk_at "rd"
    refine ⟨hv,hw,hu,?_⟩
    walk_at "rd"
    rw [iX]
    exact h
theorem sH (T:Txt K mg t):Binds K t.ic ["places","triples"] []:=T.jo.binds fun _ _ _ _ _ _ us hl=>match us,hl with | [_,_],_=>rfl
def ve:m9:=fun ds M Q=> ∃ l c:Addr,ds= [.ref l,.ref c]∧∃ (ps:List Pl) (ts:List (List Pl)),M l=some (.lst (ps.map Pl.d))∧M c=some (.lst (ts.map tD))∧(∀ t∈ts,Tr t∧kT t)∧ps.length < 64∧(∀ q∈ps,q.Ok 140)∧∀ r:Option (List Pl ×Pl),IE ts ps r→Q (oS r) M
theorem sI (T:Txt K mg t):bP P w K mg base dZ 5 t.jf t.ic ["places","triples"] (nv K ve):=by
 refine pJ T.jo iA (fun ds M Q h=>by (first | (obtain ⟨_,rfl,_⟩:=h;rfl) | (obtain ⟨_,_,rfl,_⟩:=h;rfl) | (obtain ⟨_,_,_,rfl,_⟩:=h;rfl) | (obtain ⟨_,_,_,_,rfl,_⟩:=h;rfl) | (obtain ⟨_,_,_,_,_,rfl,_⟩:=h;rfl) | (obtain ⟨_,_,_,_,_,_,rfl,_⟩:=h;rfl) | (obtain ⟨_,_,_,_,_,_,_,rfl,_⟩:=h;rfl))) (fun cdv A outer s H hr=>?_)
 have hu:=hr.units
 refine ⟨_,(ao (eS PassesOwn.never rfl (aa 1) (bg (i:=2) iA.nd rfl (Or.inr rfl)) (ao (A0 (j:=3) (iB (ys:=["t"]) (fs:=[2]) rfl (by show b8 (au fS) ["places","triples","t","spoilers"] _ _ _ _=true;decide +kernel) (aa 0) (fun cl C s0 H0 ex=>nc (fW (aE (Dt T) (hr.mono (by decide)) (by rfl) T.Fl T.uK.kp (Ds T) (af (aJ (aa 1) aj) (af (aJ (aa 1) aj) (af (aJ (aa 1) aj) (af (aa 0) ak))))))) (fun cl C s0 H0 ex=>(aa 0))) iA.nd rfl (Or.inl rfl))
  (ay (aZ (aD (qZ hu) (aa 3) (bN ak) (az _)) (ay (aC (aY (af m6 (af (aa 2) (af (aK (Be hu rfl) (by rfl) T.gE c6 (af (aa 3) ak)) ak)))))) aN))))
  (ay (aC cG))),fun ds M Q h=>?_⟩
 obtain ⟨l,c,rfl,ps,ts,hM,hC,hts,h64,ho,h⟩:=h
 have sl:(1000:Nat) < sizeLine:=by decide
 walk_at "rd"
 refine ⟨c,_,rfl,hC,?_⟩
 refine aF (fun i ρ M'=>Le M M'∧M' l=some (.lst (ps.map Pl.d))∧M' c=some (.lst (ts.map tD))∧(∃ y1 y2:Option L3.D,ρ= [some (.ref l),some (.ref c),y1,y2])∧∀ (j:Nat) (u:List Pl),j < i→ts[j]?=some u→¬ ∃ d∈ps,Bq u d) _ ?_ ?_ ⟨Le.refl _,hM,hC,⟨_,_,rfl⟩,fun j u z=>by omega⟩
 ·rintro i x ρ M' N hx ⟨le,hM,hC,⟨y1,y2,rfl⟩,hf⟩ hN
  obtain ⟨t,ht,rfl⟩:=c8 hx
  obtain ⟨⟨a,b,d,et,oa,ob,oc⟩,Np⟩:=hts t (List.mem_of_getElem? ht)
  subst et
  have nz:tw a b d≠0:=by have:=Np.2;omega
  refine ⟨hC,?_⟩
  walk_at "rd"
  refine ⟨l,_,rfl,hM,by rw [List.length_map];omega,aI.mk (bR (fun i acc M4=>M4=M'∧acc=((ps.take i).filter (fun q=>decide (pq a b d q))).map Pl.d) _ ?_ ?_ ⟨rfl,rfl⟩)⟩
  ·rintro i d' acc M4 N hx ⟨rfl,rfl⟩ hN
   obtain ⟨q,hq,rfl⟩:=fq hx
   refine ⟨hM,?_⟩
   refine ⟨_,rfl,?_⟩
   refine ⟨_,_,_,Or.inl rfl,rfl,rfl,?_⟩
   refine ⟨_,rfl,?_⟩
   refine ⟨_,_,_,Or.inl rfl,rfl,rfl,?_⟩
   refine ⟨_,rfl,?_⟩
   refine ⟨_,_,_,Or.inl rfl,rfl,rfl,?_⟩
   refine ⟨_,rfl,?_⟩
   refine ⟨a,b,d,q,rfl,oa,ob,oc,ho q (List.mem_of_getElem? hq),nz,?_⟩
   walk_at "rd"
   refine aR (fun k=>?_) (fun k=>?_)
   ·walk_at "rd"
    refine hN _ _ ⟨rfl,?_⟩
    rw [cz hq,if_pos k,List.map_append]
    rfl
   ·refine hN _ _ ⟨rfl,?_⟩
    rw [cz hq,if_neg k,List.append_nil]
  rintro acc M4 ⟨rfl,rfl⟩
  refine ⟨hM,fun u eL=>?_⟩
  rw [List.length_map,List.take_length]
  have mf:∀ w,w∈ps.filter (fun q=>decide (pq a b d q))↔(w∈ps∧Bq [a,b,d] w):=fun w=>by rw [List.mem_filter,decide_eq_true_iff];rfl
  generalize ps.filter (fun q=>decide (pq a b d q))=ss at mf ⊢
  have le:=le.trans (Le.new (o:=MO.lst (ss.map Pl.d)) eL)
  have hM:=ai (u:=MO.lst (ss.map Pl.d)) hM eL
  have hC:=ai (u:=MO.lst (ss.map Pl.d)) hC eL
  have hU:aA M4 u (.lst (ss.map Pl.d)) u=some (.lst (ss.map Pl.d)):=ah
  generalize aA M4 u (.lst (ss.map Pl.d))=M5 at hM hC hU le ⊢
  walk_at "rd"
  intro e he
  refine ⟨_,_,.of (ai hU he),.of ah,bH _,rfl,?_⟩
  rw [fY]
  have le:=le.trans (Le.new (o:=MO.lst []) he)
  have hM:=ai (u:=MO.lst []) hM he
  have hC:=ai (u:=MO.lst []) hC he
  have hU:=ai (u:=MO.lst []) hU he
  generalize aA M5 e (.lst [])=M6 at hM hC hU le ⊢
  cases es:ss with
  | nil=>
    walk_at "rd"
    refine hN _ _ ⟨le,hM,hC,⟨_,_,rfl⟩,fun j v hj hv=>?_⟩
    by_cases ej:j=i
    ·subst ej
     rw [ht] at hv
     cases hv
     rintro ⟨q,mq,Nq⟩
     have:=(mf q).mpr ⟨mq,Nq⟩
     rw [es] at this
     cases this
    ·exact hf j v (by omega) hv
  | cons s0 sr=>
    rw [← es]
    have hne:ss≠[]:=by rw [es];simp
    have en:(ss.map Pl.d).isEmpty=false:=by rw [es];rfl
    rw [en]
    walk_at "rd"
    refine ⟨u,ss,rfl,hU,hne,fun m mm lm=>?_⟩
    have mk:=(mf m).mp mm
    walk_at "rd"
    exact aI.mk ⟨M,le,h (some ([a,b,d],m)) ⟨⟨i,ht,⟨m,mk⟩,hf⟩,mk,fun z hz=>lm z ((mf z).mpr hz)⟩⟩
 ·rintro ρ M' ⟨le,hM,hC,⟨y1,y2,rfl⟩,hf⟩
  refine ⟨hC,?_⟩
  walk_at "rd"
  refine aI.mk ⟨M,le,h none fun t ht d hd sp=>?_⟩
  obtain ⟨j,hj⟩:=List.mem_iff_getElem?.mp ht
  exact hf j t (by rw [List.length_map];exact (List.getElem?_eq_some_iff.mp hj).1) hj ⟨d,hd,sp⟩
theorem FE (T:Txt K mg t):Binds K t.uD ["places","triples"] []:=T.yG.binds fun _ _ _ _ _ _ us hl=>match us,hl with | [_,_],_=>rfl
def HY:m9:=fun ds M Q=> ∃ l c:Addr,ds= [.ref l,.ref c]∧∃ (ps:List Pl) (ts:List (List Pl)),M l=some (.lst (ps.map Pl.d))∧M c=some (.lst (ts.map tD))∧(∀ t∈ts,Tr t)∧ts.length≤200∧ps.length < 64∧(∀ q∈ps,q.Ok 140)∧∀ (qs:List Pl) (r:Option Flt),qs.Perm ps→qs.Pairwise (fun p q=> ¬ aT q p)→Br ps ts (aX (dm qs)) r→Q (fD r) M
theorem FF (T:Txt K mg t):bP P w K mg base dZ 8 t.yw t.uD ["places","triples"] (nv K HY):=by
 refine pJ T.yG qN (fun ds M Q h=>by (first | (obtain ⟨_,rfl,_⟩:=h;rfl) | (obtain ⟨_,_,rfl,_⟩:=h;rfl) | (obtain ⟨_,_,_,rfl,_⟩:=h;rfl) | (obtain ⟨_,_,_,_,rfl,_⟩:=h;rfl) | (obtain ⟨_,_,_,_,_,rfl,_⟩:=h;rfl) | (obtain ⟨_,_,_,_,_,_,rfl,_⟩:=h;rfl) | (obtain ⟨_,_,_,_,_,_,_,rfl,_⟩:=h;rfl))) (fun cdv A outer s H hr=>?_)
 have hu:=hr.units
 refine ⟨_,(ao (aM (i:=2) qN.nd rfl (Or.inl rfl) (bf (uU T) (hr.mono (by decide)) (by rfl) T.vO T.ko.kp (uT T) (af (aa 0) (af (aa 1) ak))))
  (ao (aZ (aD q8 (aa 2) cG (az _)) (ay (aC (aY (af m6 (af (aa 2) ak))))) aN)
  (ao (aM (i:=3) qN.nd rfl (Or.inl rfl) (bf (wm T) (hr.mono (by decide)) (by rfl) T.yD T.mS.kp (wk T) (af (aa 1) ak)))
  (ao (aZ (aD q8 (aa 3) cG (az _)) (ay (aC (aY (af m6 (af (aa 3) ak))))) aN)
  (ao (aZ (fW (bf (uY T) (hr.mono (by decide)) (by rfl) T.vQ T.kr.kp (uX T) (af (aa 0) ak))) (ay (aC cG)) aN)
  (ao (aM (i:=4) qN.nd rfl (Or.inl rfl) (bf (u9 T) (hr.mono (by decide)) (by rfl) T.vR T.ku.kp (u7 T) (af (aa 0) (af (aa 1) ak))))
  (ao (aZ (aD q8 (aa 4) cG (az _)) (ay (aC (aa 4))) aN)
  (ay (aC (bf (sI T) (hr.mono (by decide)) (by rfl) T.uL T.jo.kp (sH T) (af (aa 0) (af (aa 1) ak)))))))))))),fun ds M Q h=>?_⟩
 obtain ⟨l,c,rfl,ps,ts,hM,hC,hts,Az,h64,ho,h⟩:=h
 obtain ⟨Qe,Qf,Qg⟩:=xJ ps
 walk_at "rd"
 refine ⟨ps,ts,hM,hC,hts,fun al hal=>?_⟩
 cases al with
 | some t=>
   walk_at "rd"
   exact aI.mk ⟨M,Le.refl _,h Qe _ Qf Qg ⟨some t,none,hal,(fun z=>by cases z),rfl⟩⟩
 | none=>
   walk_at "rd"
   refine ⟨ts,hC,hts,fun fl hfl=>?_⟩
   cases fl with
   | some t=>
     walk_at "rd"
     exact aI.mk ⟨M,Le.refl _,h Qe _ Qf Qg ⟨none,some t,hal,fun _=>hfl,rfl⟩⟩
   | none=>
     walk_at "rd"
     refine ⟨ps,hM,ho,fun r hr'=>?_⟩
     walk_at "rd"
     refine aR (fun k=>?_) (fun k=>?_)
     ·walk_at "rd"
      exact aI.mk ⟨M,Le.refl _,h Qe none Qf Qg ⟨none,none,hal,fun _=>hfl,fun _=>rfl,fun z=>absurd (hr'.mp k) z⟩⟩
     ·have nf:¬ Flat ps:=fun z=>k (hr'.mpr z)
      walk_at "rd"
      refine ⟨ps,ts,hM,hC,hts,Az,h64,ho,fun qs cf q1 q2 hcf=>?_⟩
      cases cf with
      | some f=>
        have fin:aI (∃ M0,Le M0 M∧Q (fD (some f)) M0):=aI.mk ⟨M,Le.refl _,h qs _ q1 q2 ⟨none,none,hal,fun _=>hfl,fun z=>absurd z nf,fun _=>⟨some f,none,hcf,(fun z=>by cases z),rfl⟩⟩⟩
        cases f <;> (walk_at "rd";exact fin)
      | none=>
        walk_at "rd"
        refine ⟨ps,ts,hM,hC,fun t ht=>⟨hts t ht,Classical.byContradiction fun z=>hfl t ht z⟩,h64,ho,fun sp CS=>?_⟩
        cases sp with
        | none=>exact aI.mk ⟨M,Le.refl _,h qs none q1 q2 ⟨none,none,hal,fun _=>hfl,fun z=>absurd z nf,fun _=>⟨none,none,hcf,fun _=>CS,rfl⟩⟩⟩
        | some td=>
          obtain ⟨t,d⟩:=td
          exact aI.mk ⟨M,Le.refl _,h qs (some (.rB t d)) q1 q2 ⟨none,none,hal,fun _=>hfl,fun z=>absurd z nf,fun _=>⟨none,some (t,d),hcf,fun _=>CS,rfl⟩⟩⟩
theorem sJ (T:Txt K mg t):Binds K t.ie ["_law_triples","_law_how","_law_place_here","_law_other"] []:=T.jq.binds fun _ _ _ _ _ _ us hl=>match us,hl with | [_,_,_,_],_=>rfl
def vf:m9:=fun ds M Q=> ∃ (l:Addr) (h:Int) (u v:Pl),ds= [.ref l,.int h,u.d,v.d]∧Att.A8 h∧u.Ok 140∧v.Ok 140∧∃ ts:List (List Pl),M l=some (.lst (ts.map tD))∧(∀ t∈ts,Tr t)∧ts.length≤100∧∀ (p:Addr) (us:List (List Pl)) (M':Mp),Le M M'→M' p=some (.lst (us.map tD))→(∀ t∈us,Tr t)→us.length≤ts.length+1→Q (.ref p) M'
theorem sL (T:Txt K mg t):bP P w K mg base dZ 1 t.jg t.ie ["_law_triples","_law_how","_law_place_here","_law_other"] (nv K vf):=by
 refine pJ T.jq cg (fun ds M Q h=>by (first | (obtain ⟨_,rfl,_⟩:=h;rfl) | (obtain ⟨_,_,rfl,_⟩:=h;rfl) | (obtain ⟨_,_,_,rfl,_⟩:=h;rfl) | (obtain ⟨_,_,_,_,rfl,_⟩:=h;rfl) | (obtain ⟨_,_,_,_,_,rfl,_⟩:=h;rfl) | (obtain ⟨_,_,_,_,_,_,rfl,_⟩:=h;rfl) | (obtain ⟨_,_,_,_,_,_,_,rfl,_⟩:=h;rfl))) (fun cdv A outer s H hr=>?_)
 have hu:=hr.units
 refine ⟨_,(ao (aZ (aD (EE hu) (aa 0) (bN ak) (az _)) (ay (aC (aJ (bN (af (bN ak) (af (bN (af (aY (af (aa 2) (af (aa 3) (af (aa 2) ak)))) ak)) ak))) (aq aW (aa 1) aj)))) aN)
  (ao (aM (i:=4) cg.nd rfl (Or.inl rfl) (aq aW (aq cD (aa 1) aj) (aK cU (by rfl) T.cj aQ (af (aa 0) ak))))
  (ao (Iv (aJ (aa 0) (aa 4)) (Ec rfl (iH (bg (i:=5) cg.nd rfl (Or.inl rfl)) (iH (bg (i:=6) cg.nd rfl (Or.inl rfl)) (iH (bg (i:=7) cg.nd rfl (Or.inl rfl)) AS)))))
  (ao (aM (i:=8) cg.nd rfl (Or.inl rfl) (c7 (aa 0) qY (gw (aa 4))))
  (ao (aM (i:=9) cg.nd rfl (Or.inl rfl) (c7 (aa 0) (gw (aq cC (aa 4) aj)) qY))
  (ao (aZ (aD (dj hu) (aq aW (aa 1) aj) aj (az _)) (ay (aC (aq fJ (aa 8) (aa 9)))) aN)
  (ao (aZ (aD (dj hu) (aq aW (aa 1) aj) aj (az _)) (ay (aC (aq fJ (aq fJ (aa 8) (bN (af (aY (af (aa 6) (af (aa 7) (af (aa 5) ak)))) ak))) (aa 9)))) aN)
  (ao (aZ (aD (dj hu) (aq aW (aa 1) aj) aj (az _)) (ay (aC (aq fJ (aq fJ (aa 8) (bN (af (aY (af (aa 5) (af (aa 7) (af (aa 6) ak)))) ak))) (aa 9)))) aN)
  (ao (aZ (aD (dj hu) (aq aW (aa 1) aj) aj (az _)) (ao (aM (i:=10) cg.nd rfl (Or.inl rfl) (aq aW (aq cD (aa 1) aj) (aq cC (aK cU (by rfl) T.cj aQ (af (aa 0) ak)) aj)))
  (ay (aC (aq fJ (aq fJ (c7 (aa 0) qY (gw (aa 10))) (bN (af (aY (af (aa 5) (af (aa 6) (af (aa 7) ak)))) ak))) (c7 (aa 0) (gw (aa 10)) qY))))) aN)
  (ao (aZ (aD (dj hu) (aq aW (aa 1) aj) aj (az _)) (ay (aC (aq fJ (aq fJ (aa 8) (bN (af (aJ (bN (af (aY (af (aa 2) (af (aa 6) (af (aa 7) ak)))) (af (aY (af (aa 5) (af (aa 2) (af (aa 7) ak)))) (af (aY (af (aa 5) (af (aa 6) (af (aa 2) ak)))) ak)))) (aq aW (aq cD (aa 1) aj) aj)) ak))) (aa 9)))) aN)
  (ao (aZ (aD (dj hu) (aq aW (aa 1) aj) aj (az _)) (ay (aC (aq fJ (aq fJ (aa 8) (bN (af (aJ (bN (af (aY (af (aa 3) (af (aa 6) (af (aa 7) ak)))) (af (aY (af (aa 5) (af (aa 3) (af (aa 7) ak)))) (af (aY (af (aa 5) (af (aa 6) (af (aa 3) ak)))) ak)))) (aq aW (aq cD (aa 1) aj) aj)) ak))) (aa 9)))) aN)
  (ay (aC (aa 0)))))))))))))),fun ds M Q h=>?_⟩
 obtain ⟨l,n,u,v,rfl,bn,ou,ov,ts,hM,hT,lt,h⟩:=h
 have sl:(1000:Nat) < sizeLine:=by decide
 walk_at "rd"
 intro e he
 refine ⟨_,_,.of (ai hM he),.of ah,bq _,rfl,?_⟩
 rw [fY]
 have le:=Le.new (o:=MO.lst []) he
 have hM:=ai (u:=MO.lst []) hM he
 generalize aA M e (.lst [])=M1 at hM le ⊢
 cases es:ts with
 | nil=>
   walk_at "rd"
   intro p1 hp1
   have le:=le.trans (Le.new (o:=MO.lst []) hp1)
   have h1:aA M1 p1 (.lst []) p1=some (.lst []):=ah
   generalize aA M1 p1 (.lst [])=M2 at h1 le ⊢
   walk_at "rd"
   intro p2 hp2
   have le:=le.trans (Le.new (o:=MO.lst [.tup [u.d,v.d,u.d]]) hp2)
   have h1:=ai (u:=MO.lst [.tup [u.d,v.d,u.d]]) h1 hp2
   have h2:aA M2 p2 (.lst [.tup [u.d,v.d,u.d]]) p2=some (.lst [.tup [u.d,v.d,u.d]]):=ah
   generalize aA M2 p2 (.lst [.tup [u.d,v.d,u.d]])=M3 at h1 h2 le ⊢
   walk_at "rd"
   intro p3 hp3
   have le:=le.trans (Le.new (o:=MO.lst [.ref p1,.ref p2]) hp3)
   have h1:=ai (u:=MO.lst [.ref p1,.ref p2]) h1 hp3
   have h2:=ai (u:=MO.lst [.ref p1,.ref p2]) h2 hp3
   have h3:aA M3 p3 (.lst [.ref p1,.ref p2]) p3=some (.lst [.ref p1,.ref p2]):=ah
   generalize aA M3 p3 (.lst [.ref p1,.ref p2])=M4 at h1 h2 h3 le ⊢
   walk_at "rd"
   have hm:n % 2=0∨n % 2=1:=by omega
   rcases hm with hm | hm
   ·refine ⟨_,_,_,.inr (.inr ⟨p3,rfl,h3⟩),rfl,(show pR [L3.D.ref p1,L3.D.ref p2] (n % 2)=some (L3.D.ref p1) by rw [hm];rfl),?_⟩
    walk_at "rd"
    exact aI.mk ⟨_,Le.refl _,h p1 [] _ le h1 (fun t ht=>by cases ht) (Nat.zero_le _)⟩
   ·refine ⟨_,_,_,.inr (.inr ⟨p3,rfl,h3⟩),rfl,(show pR [L3.D.ref p1,L3.D.ref p2] (n % 2)=some (L3.D.ref p2) by rw [hm];rfl),?_⟩
    walk_at "rd"
    exact aI.mk ⟨_,Le.refl _,h p2 [[u,v,u]] _ le h2 (fun t ht=>by rw [List.mem_singleton.mp ht];exact ⟨u,v,u,rfl,ou,ov,ou⟩) (by simp)⟩
 | cons t0 tr=>
   rw [← es]
   have en:(ts.map tD).isEmpty=false:=by rw [es];rfl
   have lu:0 < ts.length:=by rw [es];simp
   rw [en]
   walk_at "rd"
   refine ⟨_,_,rfl,.inr (.inr ⟨l,rfl,hM⟩),?_⟩
   rw [List.length_map]
   walk_at "rd"
   have j0:0≤n / 8 % (ts.length:Int):=Int.emod_nonneg _ (by omega)
   have j1:n / 8 % (ts.length:Int) < (ts.length:Int):=Int.emod_lt_of_pos _ (by omega)
   obtain ⟨j,hj⟩:∃ j:Nat,n / 8 % (ts.length:Int)=(j:Int):=⟨(n / 8 % (ts.length:Int)).toNat,by omega⟩
   have lj:j < ts.length:=by omega
   obtain ⟨t',ht⟩:∃ t',ts[j]?=some t':=⟨ts[j],List.getElem?_eq_getElem lj⟩
   obtain ⟨a,b,c,et,oa,ob,oc⟩:=hT t' (List.mem_of_getElem? ht)
   subst et
   refine ⟨_,_,_,.inr (.inr ⟨l,rfl,hM⟩),rfl,(show pR (ts.map tD) (n / 8 % (ts.length:Int))=some (tD [a,b,c]) from by rw [hj];exact br (by rw [List.getElem?_map,ht];rfl)),?_⟩
   refine ⟨_,Or.inl rfl,rfl,?_⟩
   walk_at "rd"
   refine ⟨_,.of hM,fun p1 hp1=>?_⟩
   have Qa:cutD (ts.map tD) none (some (n / 8 % (ts.length:Int)))=(ts.take j).map tD:=by rw [hj];exact gP tD ts j (by omega)
   have Qc:cutD (ts.map tD) (some (n / 8 % (ts.length:Int)+1)) none=(ts.drop (j+1)).map tD:=by rw [hj];exact iY tD ts (j+1) (by omega)
   rw [show cutD (ts.map tD) none (some ((fun i j=>i % j) ((fun i j=>i / j) n 8) (ts.length:Int)))=(ts.take j).map tD from Qa]
   have hM:=ai (u:=MO.lst ((ts.take j).map tD)) hM hp1
   have hL:aA M1 p1 (.lst ((ts.take j).map tD)) p1=some (.lst ((ts.take j).map tD)):=ah
   have le:=le.trans (Le.new (o:=MO.lst ((ts.take j).map tD)) hp1)
   generalize aA M1 p1 (.lst ((ts.take j).map tD))=M2 at hM hL le ⊢
   walk_at "rd"
   refine ⟨_,.of hM,fun p2 hp2=>?_⟩
   rw [show cutD (ts.map tD) (some ((fun i j=>i+j) ((fun i j=>i % j) ((fun i j=>i / j) n 8) (ts.length:Int)) 1)) none=(ts.drop (j+1)).map tD from Qc]
   have hM:=ai (u:=MO.lst ((ts.drop (j+1)).map tD)) hM hp2
   have hL:=ai (u:=MO.lst ((ts.drop (j+1)).map tD)) hL hp2
   have hR:aA M2 p2 (.lst ((ts.drop (j+1)).map tD)) p2=some (.lst ((ts.drop (j+1)).map tD)):=ah
   have le:=le.trans (Le.new (o:=MO.lst ((ts.drop (j+1)).map tD)) hp2)
   generalize aA M2 p2 (.lst ((ts.drop (j+1)).map tD))=M3 at hM hL hR le ⊢
   have l1:(ts.take j).length=j:=by rw [List.length_take];omega
   have l2:(ts.drop (j+1)).length=ts.length - (j+1):=List.length_drop
   have T1:∀ t∈ts.take j,Tr t:=fun t ht=>hT t (List.mem_of_mem_take ht)
   have T2:∀ t∈ts.drop (j+1),Tr t:=fun t ht=>hT t (List.mem_of_mem_drop ht)
   generalize ts.take j=Ls at *
   generalize ts.drop (j+1)=Rs at *
   walk_at "rd"
   rw [bM]
   refine aR (fun k=>?_) (fun k1=>?_)
   ·walk_at "rd"
    refine ⟨p1,p2,_,_,rfl,rfl,hL,hR,by rw [List.length_map,List.length_map];omega,fun x hx=>?_⟩
    rw [← List.map_append]
    refine aI.mk ⟨_,Le.refl _,h x (Ls ++ Rs) _ (le.trans (Le.new hx)) ah (fun t ht=>(List.mem_append.mp ht).elim (T1 t) (T2 t)) (by rw [List.length_append];omega)⟩
   walk_at "rd"
   rw [bM]
   refine aR (fun k=>?_) (fun k2=>?_)
   ·walk_at "rd"
    intro e2 zb
    have DC:Tr [b,c,a]:=⟨b,c,a,rfl,ob,oc,oa⟩
    have HZ:([[b,c,a]]:List (List Pl)).map tD= [.tup [b.d,c.d,a.d]]:=rfl
    generalize [b,c,a]=tt at DC HZ
    refine ⟨p1,e2,_,_,rfl,rfl,ai hL zb,ah,by rw [List.length_map];show _+1≤sizeLine;omega,fun x1 FG=>?_⟩
    walk_at "rd"
    refine ⟨x1,p2,_,_,rfl,rfl,ah,ai (ai hR zb) FG,by rw [List.length_append,List.length_map,List.length_map];show _+1+_≤sizeLine;omega,fun x hx=>?_⟩
    refine aI.mk ⟨_,Le.refl _,h x (Ls ++ [tt] ++ Rs) _ (((le.trans (Le.new zb)).trans (Le.new FG)).trans (Le.new hx)) (by rw [ah,List.map_append,List.map_append,HZ]) (fun t ht=>?_) (by rw [List.length_append,List.length_append];show _+1+_≤_;omega)⟩
    rcases List.mem_append.mp ht with ht | ht
    ·rcases List.mem_append.mp ht with ht | ht
     ·exact T1 t ht
     ·rw [List.mem_singleton.mp ht]
      exact DC
    ·exact T2 t ht
   walk_at "rd"
   rw [bM]
   refine aR (fun k=>?_) (fun k3=>?_)
   ·walk_at "rd"
    intro e2 zb
    have DC:Tr [a,c,b]:=⟨a,c,b,rfl,oa,oc,ob⟩
    have HZ:([[a,c,b]]:List (List Pl)).map tD= [.tup [a.d,c.d,b.d]]:=rfl
    generalize [a,c,b]=tt at DC HZ
    refine ⟨p1,e2,_,_,rfl,rfl,ai hL zb,ah,by rw [List.length_map];show _+1≤sizeLine;omega,fun x1 FG=>?_⟩
    walk_at "rd"
    refine ⟨x1,p2,_,_,rfl,rfl,ah,ai (ai hR zb) FG,by rw [List.length_append,List.length_map,List.length_map];show _+1+_≤sizeLine;omega,fun x hx=>?_⟩
    refine aI.mk ⟨_,Le.refl _,h x (Ls ++ [tt] ++ Rs) _ (((le.trans (Le.new zb)).trans (Le.new FG)).trans (Le.new hx)) (by rw [ah,List.map_append,List.map_append,HZ]) (fun t ht=>?_) (by rw [List.length_append,List.length_append];show _+1+_≤_;omega)⟩
    rcases List.mem_append.mp ht with ht | ht
    ·rcases List.mem_append.mp ht with ht | ht
     ·exact T1 t ht
     ·rw [List.mem_singleton.mp ht]
      exact DC
    ·exact T2 t ht
   walk_at "rd"
   rw [bM]
   refine aR (fun k=>?_) (fun k4=>?_)
   ·walk_at "rd"
    refine ⟨_,_,rfl,.inr (.inr ⟨l,rfl,hM⟩),?_⟩
    rw [List.length_map]
    walk_at "rd"
    have c0:0≤n / 1000 % ((ts.length:Int)+1):=Int.emod_nonneg _ (by omega)
    have c1:n / 1000 % ((ts.length:Int)+1) < (ts.length:Int)+1:=Int.emod_lt_of_pos _ (by omega)
    obtain ⟨m,hm⟩:∃ m:Nat,n / 1000 % ((ts.length:Int)+1)=(m:Int):=⟨(n / 1000 % ((ts.length:Int)+1)).toNat,by omega⟩
    have lm:m≤ts.length:=by omega
    have f1:cutD (ts.map tD) none (some (n / 1000 % ((ts.length:Int)+1)))=(ts.take m).map tD:=by rw [hm];exact gP tD ts m lm
    have f2:cutD (ts.map tD) (some (n / 1000 % ((ts.length:Int)+1))) none=(ts.drop m).map tD:=by rw [hm];exact iY tD ts m lm
    refine ⟨_,.of hM,fun g1 Ay=>?_⟩
    rw [show cutD (ts.map tD) none (some ((fun i j=>i % j) ((fun i j=>i / j) n 1000) ((fun i j=>i+j) (ts.length:Int) 1)))=(ts.take m).map tD from f1]
    have m1:(ts.take m).length=m:=by rw [List.length_take];omega
    have m2:(ts.drop m).length=ts.length - m:=List.length_drop
    have S1:∀ t∈ts.take m,Tr t:=fun t ht=>hT t (List.mem_of_mem_take ht)
    have S2:∀ t∈ts.drop m,Tr t:=fun t ht=>hT t (List.mem_of_mem_drop ht)
    generalize ts.take m=As at *
    generalize ts.drop m=Bs at *
    have hM:=ai (u:=MO.lst (As.map tD)) hM Ay
    have hA:aA M3 g1 (.lst (As.map tD)) g1=some (.lst (As.map tD)):=ah
    have le:=le.trans (Le.new (o:=MO.lst (As.map tD)) Ay)
    generalize aA M3 g1 (.lst (As.map tD))=M4 at hM hA le ⊢
    have DC:Tr [a,b,c]:=⟨a,b,c,rfl,oa,ob,oc⟩
    walk_at "rd"
    intro g2 yV
    rw [show L3.D.tup [a.d,b.d,c.d]=tD [a,b,c] from rfl]
    generalize [a,b,c]=tt at DC ⊢
    have hM:=ai (u:=MO.lst [tD tt]) hM yV
    have hA:=ai (u:=MO.lst [tD tt]) hA yV
    have hB:aA M4 g2 (.lst [tD tt]) g2=some (.lst [tD tt]):=ah
    have le:=le.trans (Le.new (o:=MO.lst [tD tt]) yV)
    generalize aA M4 g2 (.lst [tD tt])=M5 at hM hA hB le ⊢
    refine ⟨g1,g2,_,_,rfl,rfl,hA,hB,by rw [List.length_map];show _+1≤sizeLine;omega,fun g3 CC=>?_⟩
    rw [show As.map tD ++ [tD tt]=(As ++ [tt]).map tD by rw [List.map_append];rfl]
    have hM:=ai (u:=MO.lst ((As ++ [tt]).map tD)) hM CC
    have hC:aA M5 g3 (.lst ((As ++ [tt]).map tD)) g3=some (.lst ((As ++ [tt]).map tD)):=ah
    have le:=le.trans (Le.new (o:=MO.lst ((As ++ [tt]).map tD)) CC)
    generalize aA M5 g3 (.lst ((As ++ [tt]).map tD))=M6 at hM hC le ⊢
    walk_at "rd"
    refine ⟨_,.of hM,fun g4 II=>?_⟩
    rw [show cutD (ts.map tD) (some ((fun i j=>i % j) ((fun i j=>i / j) n 1000) ((fun i j=>i+j) (ts.length:Int) 1))) none=Bs.map tD from f2]
    walk_at "rd"
    refine ⟨g3,g4,_,_,rfl,rfl,ai hC II,ah,by rw [List.length_map,List.length_map,List.length_append];show _+1+_≤sizeLine;omega,fun x hx=>?_⟩
    rw [← List.map_append]
    refine aI.mk ⟨_,Le.refl _,h x (As ++ [tt] ++ Bs) _ ((le.trans (Le.new II)).trans (Le.new hx)) ah (fun t ht=>?_) (by rw [List.length_append,List.length_append];show _+1+_≤_;omega)⟩
    rcases List.mem_append.mp ht with ht | ht
    ·rcases List.mem_append.mp ht with ht | ht
     ·exact S1 t ht
     ·rw [List.mem_singleton.mp ht]
      exact DC
    ·exact S2 t ht
   walk_at "rd"
   rw [bM]
   refine aR (fun k=>?_) (fun k5=>?_)
   ·walk_at "rd"
    have o1:Tr [u,b,c]:=⟨u,b,c,rfl,ou,ob,oc⟩
    have o2:Tr [a,u,c]:=⟨a,u,c,rfl,oa,ou,oc⟩
    have o3:Tr [a,b,u]:=⟨a,b,u,rfl,oa,ob,ou⟩
    have q1:L3.D.tup [u.d,b.d,c.d]=tD [u,b,c]:=rfl
    have q2:L3.D.tup [a.d,u.d,c.d]=tD [a,u,c]:=rfl
    have q3:L3.D.tup [a.d,b.d,u.d]=tD [a,b,u]:=rfl
    rw [q1,q2,q3]
    generalize [u,b,c]=t1 at o1 ⊢
    generalize [a,u,c]=t2 at o2 ⊢
    generalize [a,b,u]=t3 at o3 ⊢
    intro e1 KQ
    have hE:aA M3 e1 (MO.lst [tD t1,tD t2,tD t3]) e1=some (MO.lst [tD t1,tD t2,tD t3]):=ah
    have hL:=ai (u:=MO.lst [tD t1,tD t2,tD t3]) hL KQ
    have hR:=ai (u:=MO.lst [tD t1,tD t2,tD t3]) hR KQ
    have le:=le.trans (Le.new (o:=MO.lst [tD t1,tD t2,tD t3]) KQ)
    obtain ⟨tt,KR,DC⟩:∃ tt,pR [tD t1,tD t2,tD t3] (n / 1000 % 3)=some (tD tt)∧Tr tt:=by
     have:n / 1000 % 3=0∨n / 1000 % 3=1∨n / 1000 % 3=2:=by omega
     rcases this with hm | hm | hm
     ·exact ⟨t1,by rw [hm];rfl,o1⟩
     ·exact ⟨t2,by rw [hm];rfl,o2⟩
     ·exact ⟨t3,by rw [hm];rfl,o3⟩
    have HZ: [tt].map tD= [tD tt]:=rfl
    walk_at "rd"
    refine ⟨_,_,_,.inr (.inr ⟨e1,rfl,hE⟩),rfl,KR,?_⟩
    walk_at "rd"
    intro e2 zb
    refine ⟨p1,e2,_,_,rfl,rfl,ai hL zb,ah,by rw [List.length_map];show _+1≤sizeLine;omega,fun x1 FG=>?_⟩
    walk_at "rd"
    refine ⟨x1,p2,_,_,rfl,rfl,ah,ai (ai hR zb) FG,by rw [List.length_append,List.length_map,List.length_map];show _+1+_≤sizeLine;omega,fun x hx=>?_⟩
    refine aI.mk ⟨_,Le.refl _,h x (Ls ++ [tt] ++ Rs) _ (((le.trans (Le.new zb)).trans (Le.new FG)).trans (Le.new hx)) (by rw [ah,List.map_append,List.map_append,HZ]) (fun t ht=>?_) (by rw [List.length_append,List.length_append];show _+1+_≤_;omega)⟩
    rcases List.mem_append.mp ht with ht | ht
    ·rcases List.mem_append.mp ht with ht | ht
     ·exact T1 t ht
     ·rw [List.mem_singleton.mp ht]
      exact DC
    ·exact T2 t ht
   walk_at "rd"
   rw [bM]
   refine aR (fun k=>?_) (fun k6=>?_)
   ·walk_at "rd"
    have o1:Tr [v,b,c]:=⟨v,b,c,rfl,ov,ob,oc⟩
    have o2:Tr [a,v,c]:=⟨a,v,c,rfl,oa,ov,oc⟩
    have o3:Tr [a,b,v]:=⟨a,b,v,rfl,oa,ob,ov⟩
    have q1:L3.D.tup [v.d,b.d,c.d]=tD [v,b,c]:=rfl
    have q2:L3.D.tup [a.d,v.d,c.d]=tD [a,v,c]:=rfl
    have q3:L3.D.tup [a.d,b.d,v.d]=tD [a,b,v]:=rfl
    rw [q1,q2,q3]
    generalize [v,b,c]=t1 at o1 ⊢
    generalize [a,v,c]=t2 at o2 ⊢
    generalize [a,b,v]=t3 at o3 ⊢
    intro e1 KQ
    have hE:aA M3 e1 (MO.lst [tD t1,tD t2,tD t3]) e1=some (MO.lst [tD t1,tD t2,tD t3]):=ah
    have hL:=ai (u:=MO.lst [tD t1,tD t2,tD t3]) hL KQ
    have hR:=ai (u:=MO.lst [tD t1,tD t2,tD t3]) hR KQ
    have le:=le.trans (Le.new (o:=MO.lst [tD t1,tD t2,tD t3]) KQ)
    obtain ⟨tt,KR,DC⟩:∃ tt,pR [tD t1,tD t2,tD t3] (n / 1000 % 3)=some (tD tt)∧Tr tt:=by
     have:n / 1000 % 3=0∨n / 1000 % 3=1∨n / 1000 % 3=2:=by omega
     rcases this with hm | hm | hm
     ·exact ⟨t1,by rw [hm];rfl,o1⟩
     ·exact ⟨t2,by rw [hm];rfl,o2⟩
     ·exact ⟨t3,by rw [hm];rfl,o3⟩
    have HZ: [tt].map tD= [tD tt]:=rfl
    walk_at "rd"
    refine ⟨_,_,_,.inr (.inr ⟨e1,rfl,hE⟩),rfl,KR,?_⟩
    walk_at "rd"
    intro e2 zb
    refine ⟨p1,e2,_,_,rfl,rfl,ai hL zb,ah,by rw [List.length_map];show _+1≤sizeLine;omega,fun x1 FG=>?_⟩
    walk_at "rd"
    refine ⟨x1,p2,_,_,rfl,rfl,ah,ai (ai hR zb) FG,by rw [List.length_append,List.length_map,List.length_map];show _+1+_≤sizeLine;omega,fun x hx=>?_⟩
    refine aI.mk ⟨_,Le.refl _,h x (Ls ++ [tt] ++ Rs) _ (((le.trans (Le.new zb)).trans (Le.new FG)).trans (Le.new hx)) (by rw [ah,List.map_append,List.map_append,HZ]) (fun t ht=>?_) (by rw [List.length_append,List.length_append];show _+1+_≤_;omega)⟩
    rcases List.mem_append.mp ht with ht | ht
    ·rcases List.mem_append.mp ht with ht | ht
     ·exact T1 t ht
     ·rw [List.mem_singleton.mp ht]
      exact DC
    ·exact T2 t ht
   walk_at "rd"
   exact aI.mk ⟨_,Le.refl _,h l ts _ le hM hT (by omega)⟩
theorem e9 (T:Txt K mg t):Binds K t.cH ["_law_found","_law_due"] []:=T.cA.binds fun _ _ _ _ _ _ us hl=>match us,hl with | [_,_],_=>rfl
theorem sM (T:Txt K mg t):bP P w K mg base dZ 0 t.cR t.cH ["_law_found","_law_due"] (nv K fun _ _ _=>False):=Hv
def vg:m9:=Cp 1
theorem sN (T:Txt K mg t):bP P w K mg base dZ 1 t.cR t.cH ["_law_found","_law_due"] (nv K vg):=by
 refine pJ T.cA cI (fun ds M Q h=>by (first | (obtain ⟨_,rfl,_⟩:=h;rfl) | (obtain ⟨_,_,rfl,_⟩:=h;rfl) | (obtain ⟨_,_,_,rfl,_⟩:=h;rfl) | (obtain ⟨_,_,_,_,rfl,_⟩:=h;rfl) | (obtain ⟨_,_,_,_,_,rfl,_⟩:=h;rfl) | (obtain ⟨_,_,_,_,_,_,rfl,_⟩:=h;rfl) | (obtain ⟨_,_,_,_,_,_,_,rfl,_⟩:=h;rfl))) (fun cdv A outer s H hr=>?_)
 have hu:=hr.units
 refine ⟨_,(ao (aZ (nK.pt (qg (aD iD (aa 1) cG (az _)) (kK (fW (aK cu (by rfl) T.aB av (af (aa 1) (af (bA (by rfl) T.oB fK) ak))))))) (ay (aC (GF (aD iD (aa 1) cG (az _)) (dG iD (aa 0) cG (az _)) (iU (aK cu (by rfl) T.aB av (af (aa 0) (af (bA (by rfl) T.oB fK) ak))) (m7 (dG (dj hu) (aa 0) (aa 1) (az _))))))) aN)
  (ao (aZ (fW (aK cu (by rfl) T.aB av (af (aa 1) (af (bA (by rfl) T.oA fG) ak)))) (ay (aC (iU (aK cu (by rfl) T.aB av (af (aa 0) (af (bA (by rfl) T.oA fG) ak))) (iU (B9 (aK cu (by rfl) T.aB av (af (aa 0) (af (bA (by rfl) T.sZ lS) ak)))) (m7 (dG (dj hu) (aa 0) (aa 1) (az _))))))) aN)
  (ao (aZ (nK.pt (qg (aD (kP hu) (aK cu (by rfl) T.aB av (af (aa 0) (af (bA (by rfl) T.gQ dg) ak))) (aK cu (by rfl) T.aB av (af (aa 1) (af (bA (by rfl) T.gQ dg) ak))) (az _)) (kK (aD (kP hu) (aK cu (by rfl) T.aB av (af (aa 0) (af (bA (by rfl) T.dO bY) ak))) (aK cu (by rfl) T.aB av (af (aa 1) (af (bA (by rfl) T.dO bY) ak))) (az _))))) (ay (aC jQ)) aN)
  (ao (aZ (aD (kP hu) (aK cU (by rfl) T.cj aQ (af (aa 0) ak)) (aK cU (by rfl) T.cj aQ (af (aa 1) ak)) (az _)) (ay (aC jQ)) aN)
  (ao (iV PassesOwn.never rfl (by rfl) T.dH (af (aK cU (by rfl) T.cj aQ (af (aa 1) ak)) ak) (bg (i:=2) cI.nd rfl (Or.inl rfl)) (ay (aZ (k_not (fW (bf (sM T) (hr.mono (by decide)) (by rfl) T.gg T.cA.kp (e9 T) (af (aJ (aa 0) (aa 2)) (af (aJ (aa 1) (aa 2)) ak))))) (ay (aC jQ)) aN)))
  (ay (aC jQ))))))),fun ds M Q h=>?_⟩
 obtain ⟨d,e,rfl,ha,h⟩:=h
 rcases ha with ⟨rfl,ha⟩ | ⟨f,g,xs,rfl,rfl,hf,hg,hx,hl⟩
 ·cases d with
  | int i=>
    walk_at "rd"
    refine ⟨_,_,_,false,rfl,.int _,by rfl,?_⟩
    walk_at "rd"
    refine ⟨_,_,_,false,rfl,.int _,by rfl,?_⟩
    walk_at "rd"
    have e:dQ (.int i) (.int i)=true:=by rw [bM];simp
    rw [e]
    exact aI.mk ⟨_,Le.refl _,h⟩
  | bK=>
    walk_at "rd"
    exact aI.mk ⟨_,Le.refl _,h⟩
  | str x=>
    walk_at "rd"
    refine ⟨_,_,_,true,rfl,.str _,bZ,?_⟩
    walk_at "rd"
    refine ⟨_,_,_,true,rfl,.str _,bZ,?_⟩
    walk_at "rd"
    have e:dQ (.str x) (.str x)=true:=kN 1 _ rfl
    rw [e]
    exact aI.mk ⟨_,Le.refl _,h⟩
  | tup xs=>
    obtain ⟨hl,hx⟩:xs.length≤1000∧xs.all (pY 0)=true:=by
     have ha:(decide (xs.length≤1000) && xs.all (pY 0))=true:=ha
     rw [Bool.and_eq_true] at ha
     exact ⟨of_decide_eq_true ha.1,ha.2⟩
    walk_at "rd"
    refine ⟨_,_,_,false,rfl,.tup _,by rfl,?_⟩
    walk_at "rd"
    refine ⟨_,_,_,false,rfl,.tup _,by rfl,?_⟩
    walk_at "rd"
    refine ⟨_,_,_,false,rfl,.tup _,by rfl,?_⟩
    walk_at "rd"
    refine ⟨_,_,_,false,rfl,.tup _,by rfl,?_⟩
    walk_at "rd"
    rw [iX]
    refine aR (fun z=>absurd rfl (of_decide_eq_true z)) (fun _=>?_)
    walk_at "rd"
    refine ⟨by omega,by omega,?_⟩
    refine aF (fun i ρ M'=>M'=M∧∃ y:Option L3.D,ρ= [some (.tup xs),some (.tup xs),y]) _ ?_ ?_ ⟨rfl,_,rfl⟩
    ·rintro i x ρ M' Nx qO ⟨rfl,y,rfl⟩ hN
     obtain ⟨hi,rfl⟩:=bQ qO
     have hi:i < xs.length:=by simpa using hi
     have gx:xs[i]?=some xs[i]:=List.getElem?_eq_getElem hi
     have mY:pY 0 xs[i]=true:=List.all_eq_true.mp hx _ (List.getElem_mem hi)
     refine ⟨trivial,?_⟩
     walk_at "rd"
     exact absurd mY (by show ¬ false=true;decide)
    ·rintro ρ M' ⟨rfl,y,rfl⟩
     refine ⟨trivial,?_⟩
     walk_at "rd"
     exact aI.mk ⟨_,Le.refl _,h⟩
  | _=>cases ha
 ·walk_at "rd"
  refine ⟨_,_,_,false,rfl,.lst hg,by rfl,?_⟩
  walk_at "rd"
  refine ⟨_,_,_,false,rfl,.lst hg,by rfl,?_⟩
  walk_at "rd"
  refine ⟨_,_,_,false,rfl,.lst hf,by rfl,?_⟩
  walk_at "rd"
  refine ⟨_,_,_,false,rfl,.lst hg,by rfl,?_⟩
  walk_at "rd"
  refine ⟨_,_,_,true,rfl,.lst hf,bZ,?_⟩
  walk_at "rd"
  refine ⟨_,_,_,true,rfl,.lst hg,bZ,?_⟩
  walk_at "rd"
  refine ⟨_,_,rfl,.inr (.inr ⟨f,rfl,hf⟩),?_⟩
  walk_at "rd"
  refine ⟨_,_,rfl,.inr (.inr ⟨g,rfl,hg⟩),?_⟩
  walk_at "rd"
  rw [iX]
  refine aR (fun z=>absurd rfl (of_decide_eq_true z)) (fun _=>?_)
  walk_at "rd"
  refine ⟨_,_,rfl,.inr (.inr ⟨g,rfl,hg⟩),?_⟩
  refine ⟨_,rfl,by omega,by omega,?_⟩
  refine aF (fun i ρ M'=>M'=M∧∃ y:Option L3.D,ρ= [some (.ref f),some (.ref g),y]) _ ?_ ?_ ⟨rfl,_,rfl⟩
  ·rintro i x ρ M' Nx qO ⟨rfl,y,rfl⟩ hN
   obtain ⟨hi,rfl⟩:=bQ qO
   have hi:i < xs.length:=by simpa using hi
   have gx:xs[i]?=some xs[i]:=List.getElem?_eq_getElem hi
   have mY:pY 0 xs[i]=true:=List.all_eq_true.mp hx _ (List.getElem_mem hi)
   refine ⟨trivial,?_⟩
   walk_at "rd"
   exact absurd mY (by show ¬ false=true;decide)
  ·rintro ρ M' ⟨rfl,y,rfl⟩
   refine ⟨trivial,?_⟩
   walk_at "rd"
   exact aI.mk ⟨_,Le.refl _,h⟩
def vh:m9:=Cp 2
theorem sO (T:Txt K mg t):bP P w K mg base dZ 2 t.cR t.cH ["_law_found","_law_due"] (nv K vh):=by
 refine pJ T.cA cI (fun ds M Q h=>by (first | (obtain ⟨_,rfl,_⟩:=h;rfl) | (obtain ⟨_,_,rfl,_⟩:=h;rfl) | (obtain ⟨_,_,_,rfl,_⟩:=h;rfl) | (obtain ⟨_,_,_,_,rfl,_⟩:=h;rfl) | (obtain ⟨_,_,_,_,_,rfl,_⟩:=h;rfl) | (obtain ⟨_,_,_,_,_,_,rfl,_⟩:=h;rfl) | (obtain ⟨_,_,_,_,_,_,_,rfl,_⟩:=h;rfl))) (fun cdv A outer s H hr=>?_)
 have hu:=hr.units
 refine ⟨_,(ao (aZ (nK.pt (qg (aD iD (aa 1) cG (az _)) (kK (fW (aK cu (by rfl) T.aB av (af (aa 1) (af (bA (by rfl) T.oB fK) ak))))))) (ay (aC (GF (aD iD (aa 1) cG (az _)) (dG iD (aa 0) cG (az _)) (iU (aK cu (by rfl) T.aB av (af (aa 0) (af (bA (by rfl) T.oB fK) ak))) (m7 (dG (dj hu) (aa 0) (aa 1) (az _))))))) aN)
  (ao (aZ (fW (aK cu (by rfl) T.aB av (af (aa 1) (af (bA (by rfl) T.oA fG) ak)))) (ay (aC (iU (aK cu (by rfl) T.aB av (af (aa 0) (af (bA (by rfl) T.oA fG) ak))) (iU (B9 (aK cu (by rfl) T.aB av (af (aa 0) (af (bA (by rfl) T.sZ lS) ak)))) (m7 (dG (dj hu) (aa 0) (aa 1) (az _))))))) aN)
  (ao (aZ (nK.pt (qg (aD (kP hu) (aK cu (by rfl) T.aB av (af (aa 0) (af (bA (by rfl) T.gQ dg) ak))) (aK cu (by rfl) T.aB av (af (aa 1) (af (bA (by rfl) T.gQ dg) ak))) (az _)) (kK (aD (kP hu) (aK cu (by rfl) T.aB av (af (aa 0) (af (bA (by rfl) T.dO bY) ak))) (aK cu (by rfl) T.aB av (af (aa 1) (af (bA (by rfl) T.dO bY) ak))) (az _))))) (ay (aC jQ)) aN)
  (ao (aZ (aD (kP hu) (aK cU (by rfl) T.cj aQ (af (aa 0) ak)) (aK cU (by rfl) T.cj aQ (af (aa 1) ak)) (az _)) (ay (aC jQ)) aN)
  (ao (iV PassesOwn.never rfl (by rfl) T.dH (af (aK cU (by rfl) T.cj aQ (af (aa 1) ak)) ak) (bg (i:=2) cI.nd rfl (Or.inl rfl)) (ay (aZ (k_not (fW (bf (sN T) (hr.mono (by decide)) (by rfl) T.gg T.cA.kp (e9 T) (af (aJ (aa 0) (aa 2)) (af (aJ (aa 1) (aa 2)) ak))))) (ay (aC jQ)) aN)))
  (ay (aC jQ))))))),fun ds M Q h=>?_⟩
 obtain ⟨d,e,rfl,ha,h⟩:=h
 rcases ha with ⟨rfl,ha⟩ | ⟨f,g,xs,rfl,rfl,hf,hg,hx,hl⟩
 ·cases d with
  | int i=>
    walk_at "rd"
    refine ⟨_,_,_,false,rfl,.int _,by rfl,?_⟩
    walk_at "rd"
    refine ⟨_,_,_,false,rfl,.int _,by rfl,?_⟩
    walk_at "rd"
    have e:dQ (.int i) (.int i)=true:=by rw [bM];simp
    rw [e]
    exact aI.mk ⟨_,Le.refl _,h⟩
  | bK=>
    walk_at "rd"
    exact aI.mk ⟨_,Le.refl _,h⟩
  | str x=>
    walk_at "rd"
    refine ⟨_,_,_,true,rfl,.str _,bZ,?_⟩
    walk_at "rd"
    refine ⟨_,_,_,true,rfl,.str _,bZ,?_⟩
    walk_at "rd"
    have e:dQ (.str x) (.str x)=true:=kN 1 _ rfl
    rw [e]
    exact aI.mk ⟨_,Le.refl _,h⟩
  | tup xs=>
    obtain ⟨hl,hx⟩:xs.length≤1000∧xs.all (pY 1)=true:=by
     have ha:(decide (xs.length≤1000) && xs.all (pY 1))=true:=ha
     rw [Bool.and_eq_true] at ha
     exact ⟨of_decide_eq_true ha.1,ha.2⟩
    walk_at "rd"
    refine ⟨_,_,_,false,rfl,.tup _,by rfl,?_⟩
    walk_at "rd"
    refine ⟨_,_,_,false,rfl,.tup _,by rfl,?_⟩
    walk_at "rd"
    refine ⟨_,_,_,false,rfl,.tup _,by rfl,?_⟩
    walk_at "rd"
    refine ⟨_,_,_,false,rfl,.tup _,by rfl,?_⟩
    walk_at "rd"
    rw [iX]
    refine aR (fun z=>absurd rfl (of_decide_eq_true z)) (fun _=>?_)
    walk_at "rd"
    refine ⟨by omega,by omega,?_⟩
    refine aF (fun i ρ M'=>M'=M∧∃ y:Option L3.D,ρ= [some (.tup xs),some (.tup xs),y]) _ ?_ ?_ ⟨rfl,_,rfl⟩
    ·rintro i x ρ M' Nx qO ⟨rfl,y,rfl⟩ hN
     obtain ⟨hi,rfl⟩:=bQ qO
     have hi:i < xs.length:=by simpa using hi
     have gx:xs[i]?=some xs[i]:=List.getElem?_eq_getElem hi
     have mY:pY 1 xs[i]=true:=List.all_eq_true.mp hx _ (List.getElem_mem hi)
     refine ⟨trivial,?_⟩
     walk_at "rd"
     refine ⟨_,_,xs[i],.inl rfl,rfl,br gx,?_⟩
     walk_at "rd"
     refine ⟨_,_,xs[i],.inl rfl,rfl,br gx,?_⟩
     walk_at "rd"
     refine ⟨.inl ⟨rfl,mY⟩,?_⟩
     walk_at "rd"
     exact hN _ _ ⟨rfl,_,rfl⟩
    ·rintro ρ M' ⟨rfl,y,rfl⟩
     refine ⟨trivial,?_⟩
     walk_at "rd"
     exact aI.mk ⟨_,Le.refl _,h⟩
  | _=>cases ha
 ·walk_at "rd"
  refine ⟨_,_,_,false,rfl,.lst hg,by rfl,?_⟩
  walk_at "rd"
  refine ⟨_,_,_,false,rfl,.lst hg,by rfl,?_⟩
  walk_at "rd"
  refine ⟨_,_,_,false,rfl,.lst hf,by rfl,?_⟩
  walk_at "rd"
  refine ⟨_,_,_,false,rfl,.lst hg,by rfl,?_⟩
  walk_at "rd"
  refine ⟨_,_,_,true,rfl,.lst hf,bZ,?_⟩
  walk_at "rd"
  refine ⟨_,_,_,true,rfl,.lst hg,bZ,?_⟩
  walk_at "rd"
  refine ⟨_,_,rfl,.inr (.inr ⟨f,rfl,hf⟩),?_⟩
  walk_at "rd"
  refine ⟨_,_,rfl,.inr (.inr ⟨g,rfl,hg⟩),?_⟩
  walk_at "rd"
  rw [iX]
  refine aR (fun z=>absurd rfl (of_decide_eq_true z)) (fun _=>?_)
  walk_at "rd"
  refine ⟨_,_,rfl,.inr (.inr ⟨g,rfl,hg⟩),?_⟩
  refine ⟨_,rfl,by omega,by omega,?_⟩
  refine aF (fun i ρ M'=>M'=M∧∃ y:Option L3.D,ρ= [some (.ref f),some (.ref g),y]) _ ?_ ?_ ⟨rfl,_,rfl⟩
  ·rintro i x ρ M' Nx qO ⟨rfl,y,rfl⟩ hN
   obtain ⟨hi,rfl⟩:=bQ qO
   have hi:i < xs.length:=by simpa using hi
   have gx:xs[i]?=some xs[i]:=List.getElem?_eq_getElem hi
   have mY:pY 1 xs[i]=true:=List.all_eq_true.mp hx _ (List.getElem_mem hi)
   refine ⟨trivial,?_⟩
   walk_at "rd"
   refine ⟨_,_,xs[i],.inr (.inr ⟨f,rfl,hf⟩),rfl,br gx,?_⟩
   walk_at "rd"
   refine ⟨_,_,xs[i],.inr (.inr ⟨g,rfl,hg⟩),rfl,br gx,?_⟩
   walk_at "rd"
   refine ⟨.inl ⟨rfl,mY⟩,?_⟩
   walk_at "rd"
   exact hN _ _ ⟨rfl,_,rfl⟩
  ·rintro ρ M' ⟨rfl,y,rfl⟩
   refine ⟨trivial,?_⟩
   walk_at "rd"
   exact aI.mk ⟨_,Le.refl _,h⟩
def vm:m9:=Cp 3
theorem sP (T:Txt K mg t):bP P w K mg base dZ 3 t.cR t.cH ["_law_found","_law_due"] (nv K vm):=by
 refine pJ T.cA cI (fun ds M Q h=>by (first | (obtain ⟨_,rfl,_⟩:=h;rfl) | (obtain ⟨_,_,rfl,_⟩:=h;rfl) | (obtain ⟨_,_,_,rfl,_⟩:=h;rfl) | (obtain ⟨_,_,_,_,rfl,_⟩:=h;rfl) | (obtain ⟨_,_,_,_,_,rfl,_⟩:=h;rfl) | (obtain ⟨_,_,_,_,_,_,rfl,_⟩:=h;rfl) | (obtain ⟨_,_,_,_,_,_,_,rfl,_⟩:=h;rfl))) (fun cdv A outer s H hr=>?_)
 have hu:=hr.units
 refine ⟨_,(ao (aZ (nK.pt (qg (aD iD (aa 1) cG (az _)) (kK (fW (aK cu (by rfl) T.aB av (af (aa 1) (af (bA (by rfl) T.oB fK) ak))))))) (ay (aC (GF (aD iD (aa 1) cG (az _)) (dG iD (aa 0) cG (az _)) (iU (aK cu (by rfl) T.aB av (af (aa 0) (af (bA (by rfl) T.oB fK) ak))) (m7 (dG (dj hu) (aa 0) (aa 1) (az _))))))) aN)
  (ao (aZ (fW (aK cu (by rfl) T.aB av (af (aa 1) (af (bA (by rfl) T.oA fG) ak)))) (ay (aC (iU (aK cu (by rfl) T.aB av (af (aa 0) (af (bA (by rfl) T.oA fG) ak))) (iU (B9 (aK cu (by rfl) T.aB av (af (aa 0) (af (bA (by rfl) T.sZ lS) ak)))) (m7 (dG (dj hu) (aa 0) (aa 1) (az _))))))) aN)
  (ao (aZ (nK.pt (qg (aD (kP hu) (aK cu (by rfl) T.aB av (af (aa 0) (af (bA (by rfl) T.gQ dg) ak))) (aK cu (by rfl) T.aB av (af (aa 1) (af (bA (by rfl) T.gQ dg) ak))) (az _)) (kK (aD (kP hu) (aK cu (by rfl) T.aB av (af (aa 0) (af (bA (by rfl) T.dO bY) ak))) (aK cu (by rfl) T.aB av (af (aa 1) (af (bA (by rfl) T.dO bY) ak))) (az _))))) (ay (aC jQ)) aN)
  (ao (aZ (aD (kP hu) (aK cU (by rfl) T.cj aQ (af (aa 0) ak)) (aK cU (by rfl) T.cj aQ (af (aa 1) ak)) (az _)) (ay (aC jQ)) aN)
  (ao (iV PassesOwn.never rfl (by rfl) T.dH (af (aK cU (by rfl) T.cj aQ (af (aa 1) ak)) ak) (bg (i:=2) cI.nd rfl (Or.inl rfl)) (ay (aZ (k_not (fW (bf (sO T) (hr.mono (by decide)) (by rfl) T.gg T.cA.kp (e9 T) (af (aJ (aa 0) (aa 2)) (af (aJ (aa 1) (aa 2)) ak))))) (ay (aC jQ)) aN)))
  (ay (aC jQ))))))),fun ds M Q h=>?_⟩
 obtain ⟨d,e,rfl,ha,h⟩:=h
 rcases ha with ⟨rfl,ha⟩ | ⟨f,g,xs,rfl,rfl,hf,hg,hx,hl⟩
 ·cases d with
  | int i=>
    walk_at "rd"
    refine ⟨_,_,_,false,rfl,.int _,by rfl,?_⟩
    walk_at "rd"
    refine ⟨_,_,_,false,rfl,.int _,by rfl,?_⟩
    walk_at "rd"
    have e:dQ (.int i) (.int i)=true:=by rw [bM];simp
    rw [e]
    exact aI.mk ⟨_,Le.refl _,h⟩
  | bK=>
    walk_at "rd"
    exact aI.mk ⟨_,Le.refl _,h⟩
  | str x=>
    walk_at "rd"
    refine ⟨_,_,_,true,rfl,.str _,bZ,?_⟩
    walk_at "rd"
    refine ⟨_,_,_,true,rfl,.str _,bZ,?_⟩
    walk_at "rd"
    have e:dQ (.str x) (.str x)=true:=kN 1 _ rfl
    rw [e]
    exact aI.mk ⟨_,Le.refl _,h⟩
  | tup xs=>
    obtain ⟨hl,hx⟩:xs.length≤1000∧xs.all (pY 2)=true:=by
     have ha:(decide (xs.length≤1000) && xs.all (pY 2))=true:=ha
     rw [Bool.and_eq_true] at ha
     exact ⟨of_decide_eq_true ha.1,ha.2⟩
    walk_at "rd"
    refine ⟨_,_,_,false,rfl,.tup _,by rfl,?_⟩
    walk_at "rd"
    refine ⟨_,_,_,false,rfl,.tup _,by rfl,?_⟩
    walk_at "rd"
    refine ⟨_,_,_,false,rfl,.tup _,by rfl,?_⟩
    walk_at "rd"
    refine ⟨_,_,_,false,rfl,.tup _,by rfl,?_⟩
    walk_at "rd"
    rw [iX]
    refine aR (fun z=>absurd rfl (of_decide_eq_true z)) (fun _=>?_)
    walk_at "rd"
    refine ⟨by omega,by omega,?_⟩
    refine aF (fun i ρ M'=>M'=M∧∃ y:Option L3.D,ρ= [some (.tup xs),some (.tup xs),y]) _ ?_ ?_ ⟨rfl,_,rfl⟩
    ·rintro i x ρ M' Nx qO ⟨rfl,y,rfl⟩ hN
     obtain ⟨hi,rfl⟩:=bQ qO
     have hi:i < xs.length:=by simpa using hi
     have gx:xs[i]?=some xs[i]:=List.getElem?_eq_getElem hi
     have mY:pY 2 xs[i]=true:=List.all_eq_true.mp hx _ (List.getElem_mem hi)
     refine ⟨trivial,?_⟩
     walk_at "rd"
     refine ⟨_,_,xs[i],.inl rfl,rfl,br gx,?_⟩
     walk_at "rd"
     refine ⟨_,_,xs[i],.inl rfl,rfl,br gx,?_⟩
     walk_at "rd"
     refine ⟨.inl ⟨rfl,mY⟩,?_⟩
     walk_at "rd"
     exact hN _ _ ⟨rfl,_,rfl⟩
    ·rintro ρ M' ⟨rfl,y,rfl⟩
     refine ⟨trivial,?_⟩
     walk_at "rd"
     exact aI.mk ⟨_,Le.refl _,h⟩
  | _=>cases ha
 ·walk_at "rd"
  refine ⟨_,_,_,false,rfl,.lst hg,by rfl,?_⟩
  walk_at "rd"
  refine ⟨_,_,_,false,rfl,.lst hg,by rfl,?_⟩
  walk_at "rd"
  refine ⟨_,_,_,false,rfl,.lst hf,by rfl,?_⟩
  walk_at "rd"
  refine ⟨_,_,_,false,rfl,.lst hg,by rfl,?_⟩
  walk_at "rd"
  refine ⟨_,_,_,true,rfl,.lst hf,bZ,?_⟩
  walk_at "rd"
  refine ⟨_,_,_,true,rfl,.lst hg,bZ,?_⟩
  walk_at "rd"
  refine ⟨_,_,rfl,.inr (.inr ⟨f,rfl,hf⟩),?_⟩
  walk_at "rd"
  refine ⟨_,_,rfl,.inr (.inr ⟨g,rfl,hg⟩),?_⟩
  walk_at "rd"
  rw [iX]
  refine aR (fun z=>absurd rfl (of_decide_eq_true z)) (fun _=>?_)
  walk_at "rd"
  refine ⟨_,_,rfl,.inr (.inr ⟨g,rfl,hg⟩),?_⟩
  refine ⟨_,rfl,by omega,by omega,?_⟩
  refine aF (fun i ρ M'=>M'=M∧∃ y:Option L3.D,ρ= [some (.ref f),some (.ref g),y]) _ ?_ ?_ ⟨rfl,_,rfl⟩
  ·rintro i x ρ M' Nx qO ⟨rfl,y,rfl⟩ hN
   obtain ⟨hi,rfl⟩:=bQ qO
   have hi:i < xs.length:=by simpa using hi
   have gx:xs[i]?=some xs[i]:=List.getElem?_eq_getElem hi
   have mY:pY 2 xs[i]=true:=List.all_eq_true.mp hx _ (List.getElem_mem hi)
   refine ⟨trivial,?_⟩
   walk_at "rd"
   refine ⟨_,_,xs[i],.inr (.inr ⟨f,rfl,hf⟩),rfl,br gx,?_⟩
   walk_at "rd"
   refine ⟨_,_,xs[i],.inr (.inr ⟨g,rfl,hg⟩),rfl,br gx,?_⟩
   walk_at "rd"
   refine ⟨.inl ⟨rfl,mY⟩,?_⟩
   walk_at "rd"
   exact hN _ _ ⟨rfl,_,rfl⟩
  ·rintro ρ M' ⟨rfl,y,rfl⟩
   refine ⟨trivial,?_⟩
   walk_at "rd"
   exact aI.mk ⟨_,Le.refl _,h⟩
def oN:m9:=Cp 4
theorem sQ (T:Txt K mg t):bP P w K mg base dZ 4 t.cR t.cH ["_law_found","_law_due"] (nv K oN):=by
 refine pJ T.cA cI (fun ds M Q h=>by (first | (obtain ⟨_,rfl,_⟩:=h;rfl) | (obtain ⟨_,_,rfl,_⟩:=h;rfl) | (obtain ⟨_,_,_,rfl,_⟩:=h;rfl) | (obtain ⟨_,_,_,_,rfl,_⟩:=h;rfl) | (obtain ⟨_,_,_,_,_,rfl,_⟩:=h;rfl) | (obtain ⟨_,_,_,_,_,_,rfl,_⟩:=h;rfl) | (obtain ⟨_,_,_,_,_,_,_,rfl,_⟩:=h;rfl))) (fun cdv A outer s H hr=>?_)
 have hu:=hr.units
 refine ⟨_,(ao (aZ (nK.pt (qg (aD iD (aa 1) cG (az _)) (kK (fW (aK cu (by rfl) T.aB av (af (aa 1) (af (bA (by rfl) T.oB fK) ak))))))) (ay (aC (GF (aD iD (aa 1) cG (az _)) (dG iD (aa 0) cG (az _)) (iU (aK cu (by rfl) T.aB av (af (aa 0) (af (bA (by rfl) T.oB fK) ak))) (m7 (dG (dj hu) (aa 0) (aa 1) (az _))))))) aN)
  (ao (aZ (fW (aK cu (by rfl) T.aB av (af (aa 1) (af (bA (by rfl) T.oA fG) ak)))) (ay (aC (iU (aK cu (by rfl) T.aB av (af (aa 0) (af (bA (by rfl) T.oA fG) ak))) (iU (B9 (aK cu (by rfl) T.aB av (af (aa 0) (af (bA (by rfl) T.sZ lS) ak)))) (m7 (dG (dj hu) (aa 0) (aa 1) (az _))))))) aN)
  (ao (aZ (nK.pt (qg (aD (kP hu) (aK cu (by rfl) T.aB av (af (aa 0) (af (bA (by rfl) T.gQ dg) ak))) (aK cu (by rfl) T.aB av (af (aa 1) (af (bA (by rfl) T.gQ dg) ak))) (az _)) (kK (aD (kP hu) (aK cu (by rfl) T.aB av (af (aa 0) (af (bA (by rfl) T.dO bY) ak))) (aK cu (by rfl) T.aB av (af (aa 1) (af (bA (by rfl) T.dO bY) ak))) (az _))))) (ay (aC jQ)) aN)
  (ao (aZ (aD (kP hu) (aK cU (by rfl) T.cj aQ (af (aa 0) ak)) (aK cU (by rfl) T.cj aQ (af (aa 1) ak)) (az _)) (ay (aC jQ)) aN)
  (ao (iV PassesOwn.never rfl (by rfl) T.dH (af (aK cU (by rfl) T.cj aQ (af (aa 1) ak)) ak) (bg (i:=2) cI.nd rfl (Or.inl rfl)) (ay (aZ (k_not (fW (bf (sP T) (hr.mono (by decide)) (by rfl) T.gg T.cA.kp (e9 T) (af (aJ (aa 0) (aa 2)) (af (aJ (aa 1) (aa 2)) ak))))) (ay (aC jQ)) aN)))
  (ay (aC jQ))))))),fun ds M Q h=>?_⟩
 obtain ⟨d,e,rfl,ha,h⟩:=h
 rcases ha with ⟨rfl,ha⟩ | ⟨f,g,xs,rfl,rfl,hf,hg,hx,hl⟩
 ·cases d with
  | int i=>
    walk_at "rd"
    refine ⟨_,_,_,false,rfl,.int _,by rfl,?_⟩
    walk_at "rd"
    refine ⟨_,_,_,false,rfl,.int _,by rfl,?_⟩
    walk_at "rd"
    have e:dQ (.int i) (.int i)=true:=by rw [bM];simp
    rw [e]
    exact aI.mk ⟨_,Le.refl _,h⟩
  | bK=>
    walk_at "rd"
    exact aI.mk ⟨_,Le.refl _,h⟩
  | str x=>
    walk_at "rd"
    refine ⟨_,_,_,true,rfl,.str _,bZ,?_⟩
    walk_at "rd"
    refine ⟨_,_,_,true,rfl,.str _,bZ,?_⟩
    walk_at "rd"
    have e:dQ (.str x) (.str x)=true:=kN 1 _ rfl
    rw [e]
    exact aI.mk ⟨_,Le.refl _,h⟩
  | tup xs=>
    obtain ⟨hl,hx⟩:xs.length≤1000∧xs.all (pY 3)=true:=by
     have ha:(decide (xs.length≤1000) && xs.all (pY 3))=true:=ha
     rw [Bool.and_eq_true] at ha
     exact ⟨of_decide_eq_true ha.1,ha.2⟩
    walk_at "rd"
    refine ⟨_,_,_,false,rfl,.tup _,by rfl,?_⟩
    walk_at "rd"
    refine ⟨_,_,_,false,rfl,.tup _,by rfl,?_⟩
    walk_at "rd"
    refine ⟨_,_,_,false,rfl,.tup _,by rfl,?_⟩
    walk_at "rd"
    refine ⟨_,_,_,false,rfl,.tup _,by rfl,?_⟩
    walk_at "rd"
    rw [iX]
    refine aR (fun z=>absurd rfl (of_decide_eq_true z)) (fun _=>?_)
    walk_at "rd"
    refine ⟨by omega,by omega,?_⟩
    refine aF (fun i ρ M'=>M'=M∧∃ y:Option L3.D,ρ= [some (.tup xs),some (.tup xs),y]) _ ?_ ?_ ⟨rfl,_,rfl⟩
    ·rintro i x ρ M' Nx qO ⟨rfl,y,rfl⟩ hN
     obtain ⟨hi,rfl⟩:=bQ qO
     have hi:i < xs.length:=by simpa using hi
     have gx:xs[i]?=some xs[i]:=List.getElem?_eq_getElem hi
     have mY:pY 3 xs[i]=true:=List.all_eq_true.mp hx _ (List.getElem_mem hi)
     refine ⟨trivial,?_⟩
     walk_at "rd"
     refine ⟨_,_,xs[i],.inl rfl,rfl,br gx,?_⟩
     walk_at "rd"
     refine ⟨_,_,xs[i],.inl rfl,rfl,br gx,?_⟩
     walk_at "rd"
     refine ⟨.inl ⟨rfl,mY⟩,?_⟩
     walk_at "rd"
     exact hN _ _ ⟨rfl,_,rfl⟩
    ·rintro ρ M' ⟨rfl,y,rfl⟩
     refine ⟨trivial,?_⟩
     walk_at "rd"
     exact aI.mk ⟨_,Le.refl _,h⟩
  | _=>cases ha
 ·walk_at "rd"
  refine ⟨_,_,_,false,rfl,.lst hg,by rfl,?_⟩
  walk_at "rd"
  refine ⟨_,_,_,false,rfl,.lst hg,by rfl,?_⟩
  walk_at "rd"
  refine ⟨_,_,_,false,rfl,.lst hf,by rfl,?_⟩
  walk_at "rd"
  refine ⟨_,_,_,false,rfl,.lst hg,by rfl,?_⟩
  walk_at "rd"
  refine ⟨_,_,_,true,rfl,.lst hf,bZ,?_⟩
  walk_at "rd"
  refine ⟨_,_,_,true,rfl,.lst hg,bZ,?_⟩
  walk_at "rd"
  refine ⟨_,_,rfl,.inr (.inr ⟨f,rfl,hf⟩),?_⟩
  walk_at "rd"
  refine ⟨_,_,rfl,.inr (.inr ⟨g,rfl,hg⟩),?_⟩
  walk_at "rd"
  rw [iX]
  refine aR (fun z=>absurd rfl (of_decide_eq_true z)) (fun _=>?_)
  walk_at "rd"
  refine ⟨_,_,rfl,.inr (.inr ⟨g,rfl,hg⟩),?_⟩
  refine ⟨_,rfl,by omega,by omega,?_⟩
  refine aF (fun i ρ M'=>M'=M∧∃ y:Option L3.D,ρ= [some (.ref f),some (.ref g),y]) _ ?_ ?_ ⟨rfl,_,rfl⟩
  ·rintro i x ρ M' Nx qO ⟨rfl,y,rfl⟩ hN
   obtain ⟨hi,rfl⟩:=bQ qO
   have hi:i < xs.length:=by simpa using hi
   have gx:xs[i]?=some xs[i]:=List.getElem?_eq_getElem hi
   have mY:pY 3 xs[i]=true:=List.all_eq_true.mp hx _ (List.getElem_mem hi)
   refine ⟨trivial,?_⟩
   walk_at "rd"
   refine ⟨_,_,xs[i],.inr (.inr ⟨f,rfl,hf⟩),rfl,br gx,?_⟩
   walk_at "rd"
   refine ⟨_,_,xs[i],.inr (.inr ⟨g,rfl,hg⟩),rfl,br gx,?_⟩
   walk_at "rd"
   refine ⟨.inl ⟨rfl,mY⟩,?_⟩
   walk_at "rd"
   exact hN _ _ ⟨rfl,_,rfl⟩
  ·rintro ρ M' ⟨rfl,y,rfl⟩
   refine ⟨trivial,?_⟩
   walk_at "rd"
   exact aI.mk ⟨_,Le.refl _,h⟩
def zc:m9:=oN
theorem wB (T:Txt K mg t):bP P w K mg base dZ 4 t.cR t.cH ["_law_found","_law_due"] (nv K zc):=sQ T
theorem oO (T:Txt K mg t):Binds K t.jh ["a","b","c"] []:=T.gJ.binds fun _ _ _ _ _ _ us hl=>match us,hl with | [_,_,_],_=>rfl
def wC:sW:=fun ds Q=> ∃ a b c:Pl,ds= [a.d,b.d,c.d]∧a.Ok 140∧b.Ok 140∧c.Ok 140∧tw a b c≠0∧Q (tD (Hi a b c))
theorem oQ (T:Txt K mg t):bP P w K mg base dZ 3 t.j9 t.jh ["a","b","c"] (rY K wC):=by
 refine wW T.gJ oG (fun ds Q h=>by (first | (obtain ⟨_,rfl,_⟩:=h;rfl) | (obtain ⟨_,_,rfl,_⟩:=h;rfl) | (obtain ⟨_,_,_,rfl,_⟩:=h;rfl) | (obtain ⟨_,_,_,_,rfl,_⟩:=h;rfl) | (obtain ⟨_,_,_,_,_,rfl,_⟩:=h;rfl) | (obtain ⟨_,_,_,_,_,_,rfl,_⟩:=h;rfl) | (obtain ⟨_,_,_,_,_,_,_,rfl,_⟩:=h;rfl))) (fun cdv A outer s H hr=>?_)
 have hu:=hr.units
 refine ⟨_,(ao (aM (i:=3) oG.nd rfl (Or.inl rfl) (aK kQ (by rfl) T.dI cy (af (bN (af (aa 0) (af (aa 1) (af (aa 2) ak)))) ak)))
  (ao (aZ (aD (dj hu) (aE (m5 T) (hr.mono (by decide)) (by rfl) T.p8 T.mR.kp (mZ T) (af (aJ (aa 3) aj) (af (aJ (aa 3) aj) (af (aJ (aa 3) aj) ak)))) aj (az _)) (ay (aC (aY (af (aJ (aa 3) aj) (af (aJ (aa 3) aj) (af (aJ (aa 3) aj) ak)))))) aN)
  (ay (aC (aY (af (aJ (aa 3) aj) (af (aJ (aa 3) aj) (af (aJ (aa 3) aj) ak)))))))),fun ds Q h=>?_⟩
 obtain ⟨a,b,c,rfl,ha,hb,hc,hn,h⟩:=h
 walk_at "rd"
 intro l hl
 refine ⟨l,[a,b,c],rfl,ah,by show 3 < 64;decide,fun p qs hp bF dP=>?_⟩
 obtain ⟨u,v,w,rfl⟩:=nR bF.length_eq
 obtain ⟨ou,ov,ow⟩:=tW bF ha hb hc
 rw [A9 hn bF dP] at h
 walk_at "rd"
 refine ⟨_,_,_,.inr (.inr ⟨p,rfl,ah⟩),rfl,rfl,?_⟩
 walk_at "rd"
 refine ⟨_,_,_,.inr (.inr ⟨p,rfl,ah⟩),rfl,rfl,?_⟩
 walk_at "rd"
 refine ⟨_,_,_,.inr (.inr ⟨p,rfl,ah⟩),rfl,rfl,?_⟩
 walk_at "rd"
 refine ⟨ou,ov,ow,?_⟩
 walk_at "rd"
 refine aR (fun k=>?_) (fun k=>?_)
 ·rw [if_pos (Kh k)] at h
  walk_at "rd"
  refine ⟨_,_,_,.inr (.inr ⟨p,rfl,ah⟩),rfl,rfl,?_⟩
  walk_at "rd"
  refine ⟨_,_,_,.inr (.inr ⟨p,rfl,ah⟩),rfl,rfl,?_⟩
  walk_at "rd"
  refine ⟨_,_,_,.inr (.inr ⟨p,rfl,ah⟩),rfl,rfl,?_⟩
  walk_at "rd"
  exact h
 ·rw [if_neg (Hj k)] at h
  walk_at "rd"
  refine ⟨_,_,_,.inr (.inr ⟨p,rfl,ah⟩),rfl,rfl,?_⟩
  walk_at "rd"
  refine ⟨_,_,_,.inr (.inr ⟨p,rfl,ah⟩),rfl,rfl,?_⟩
  walk_at "rd"
  refine ⟨_,_,_,.inr (.inr ⟨p,rfl,ah⟩),rfl,rfl,?_⟩
  walk_at "rd"
  exact h
theorem FH (T:Txt K mg t):Binds K t.uE ["places"] []:=T.yH.binds fun _ _ _ _ _ _ us hl=>match us,hl with | [_],_=>rfl
def Du:Nat→Nat
 | 0=>0
 | n+1=>Du n+(n - 1)
theorem CD {w:List Pl}:∀ {as bs:List Pl},w∈List.zipWith (fun p q=>[p,q]) as bs→∃ a∈as,∃ b∈bs,w= [a,b]
 | [],_,h=>by simp at h
 | a :: as,[],h=>by simp at h
 | a :: as,b :: bs,h=>by
   rw [List.zipWith_cons_cons] at h
   rcases List.mem_cons.mp h with h | h
   ·exact ⟨a,by simp,b,by simp,h⟩
   ·obtain ⟨x,hx,y,hy,e⟩:=CD h
    exact ⟨x,List.mem_cons_of_mem _ hx,y,List.mem_cons_of_mem _ hy,e⟩
theorem Ar {qs:List Pl} {q:Pl} (h:q∈dm qs):q∈qs:=by
 unfold dm at h
 split at h
 ·exact h
 ·rcases List.mem_append.mp h with h | h
  ·exact rq qs q (List.mem_reverse.mp (List.dropLast_subset _ h))
  ·exact List.mem_reverse.mp (rq _ q (List.mem_reverse.mp (List.dropLast_subset _ h)))
theorem Dv {qs w:List Pl} (h:w∈aX (dm qs)):∃ a b,w= [a,b]∧a∈qs∧b∈qs:=by
 unfold aX at h
 split at h
 ·cases h
 ·obtain ⟨a,ha,b,hb,e⟩:=CD h
  refine ⟨a,b,e,Ar ha,Ar ?_⟩
  rcases List.mem_append.mp hb with hb | hb
  ·exact List.mem_of_mem_drop hb
  ·exact List.mem_of_mem_take hb
theorem BN (qs:List Pl):(aX (dm qs)).length≤2*qs.length:=by
 have l1:=eE qs
 have l2:=eE qs.reverse
 rw [List.length_reverse] at l2
 have:(dm qs).length≤2*qs.length:=by
  unfold dm
  split
  ·omega
  ·rw [List.length_append,List.length_dropLast,List.length_dropLast,List.length_reverse,List.length_reverse]
   omega
 unfold aX
 split
 ·exact Nat.zero_le _
 ·rw [List.length_zipWith]
  omega
def NT (p:Pl):List Pl→List Pl
 | [a,b]=>Hi a b p
 | _=>[]
theorem Nr {i:Nat} (h:i≤7):Du i≤15:=by
 have:i=0∨i=1∨i=2∨i=3∨i=4∨i=5∨i=6∨i=7:=by omega
 rcases this with rfl | rfl | rfl | rfl | rfl | rfl | rfl | rfl <;> decide
theorem Dw {α:Type} {f:α→List Pl} {xs:List α} {i:Nat} {x:α} (h:xs[i]?=some x):(xs.take (i+1)).map f=(xs.take i).map f ++ [f x]:=by
 rw [List.take_succ,h,List.map_append]
 rfl
def Ia:m9:=fun ds M Q=> ∃ l:Addr,ds= [.ref l]∧∃ ps:List Pl,M l=some (.lst (ps.map Pl.d))∧ps.Nodup∧ps.length≤7∧(∀ q∈ps,q.Ok 140)∧∀ (p:Addr) (ts:List (List Pl)),M p=none→(∀ t∈ts,Ae ps t)→ts.length≤15→Q (.ref p) (aA M p (.lst (ts.map tD)))
theorem FI (T:Txt K mg t):bP P w K mg base dZ 6 t.yx t.uE ["places"] (nv K Ia):=by
 refine pJ T.yH kY (fun ds M Q h=>by (first | (obtain ⟨_,rfl,_⟩:=h;rfl) | (obtain ⟨_,_,rfl,_⟩:=h;rfl) | (obtain ⟨_,_,_,rfl,_⟩:=h;rfl) | (obtain ⟨_,_,_,_,rfl,_⟩:=h;rfl) | (obtain ⟨_,_,_,_,_,rfl,_⟩:=h;rfl) | (obtain ⟨_,_,_,_,_,_,rfl,_⟩:=h;rfl) | (obtain ⟨_,_,_,_,_,_,_,rfl,_⟩:=h;rfl))) (fun cdv A outer s H hr=>?_)
 have hu:=hr.units
 refine ⟨_,(ao (aM (i:=1) kY.nd rfl (Or.inl rfl) (aK kQ (by rfl) T.dI cy (af (aa 0) ak)))
  (ao (aM (i:=2) kY.nd rfl (Or.inl rfl) (bN ak))
  (ao (iV PassesOwn.never rfl (by rfl) T.dH (af (aK cU (by rfl) T.cj aQ (af (aa 1) ak)) ak) (bg (i:=3) kY.nd rfl (Or.inl rfl)) (ao (aM (i:=4) kY.nd rfl (Or.inr rfl) (aJ (aa 1) (aa 3)))
  (ao (A0 (j:=5) (iB (ys:=["p"]) (fs:=[4]) rfl (by show b8 (au oV) ["places","line","cover","k","p","seen"] _ _ _ _=true;decide +kernel) (bf (k8 T) (hr.mono (by decide)) (by rfl) T.ni T.fh.kp (k7 T) (af (c7 (aa 1) qY (gw (aa 3))) ak)) (fun cl C s0 H0 ex=>nc (aD (dj hu) (aE (m5 T) (hr.mono (by decide)) (by rfl) T.p8 T.mR.kp (mZ T) (af (aJ (aa 0) aj) (af (aJ (aa 0) aj) (af (aa 1) ak)))) (m8 aj) (az _))) (fun cl C s0 H0 ex=>(aa 0))) kY.nd rfl (Or.inl rfl))
  (ay (pT (IC (aa 2) (rZ (iB (ys:=["p"]) (fs:=[4]) rfl (by show b8 (au oV) ["places","line","cover","k","p","seen"] _ _ _ _=true;decide +kernel) (aa 5) (fun cl C s0 H0 ex=>t6) (fun cl C s0 H0 ex=>(aE (oQ T) (hr.mono (by decide)) (by rfl) T.pN T.gJ.kp (oO T) (af (aJ (aa 0) aj) (af (aJ (aa 0) aj) (af (aa 1) ak))))))) (rO PySem.F.plainAttrs_list PySem.F.slot_list_extend PySem.F.type_list_extend wQ (cE.dn (aa 2)) (iF (cE.dn (rZ (iB (ys:=["p"]) (fs:=[4]) rfl (by show b8 (au oV) ["places","line","cover","k","p","seen"] _ _ _ _=true;decide +kernel) (aa 5) (fun cl C s0 H0 ex=>t6) (fun cl C s0 H0 ex=>(aE (oQ T) (hr.mono (by decide)) (by rfl) T.pN T.gJ.kp (oO T) (af (aJ (aa 0) aj) (af (aJ (aa 0) aj) (af (aa 1) ak)))))))) lP))))))))
  (ay (aC (aK (ri (n:=3) (.inr rfl) hu) (by rfl) T.dI cy (af (aa 2) ak))))))),fun ds M Q h=>?_⟩
 obtain ⟨l,rfl,ps,hM,nd,h7,ho,h⟩:=h
 have sl:(1000:Nat) < sizeLine:=by decide
 walk_at "rd"
 refine ⟨l,ps,rfl,hM,by omega,fun a qs ha bF dP=>?_⟩
 have zk:qs.Nodup:=bF.nodup_iff.mpr nd
 have strict:=rz dP zk
 have oq:∀ q∈qs,q.Ok 140:=fun q hq=>ho q (bF.mem_iff.mp hq)
 have lq:qs.length≤7:=by rw [bF.length_eq];exact h7
 have hA:aA M a (.lst (qs.map Pl.d)) a=some (.lst (qs.map Pl.d)):=ah
 have le:=Le.new (o:=MO.lst (qs.map Pl.d)) ha
 generalize aA M a (.lst (qs.map Pl.d))=M1 at hA le ⊢
 walk_at "rd"
 intro b hb
 have nb:M b=none:=le.free hb
 have nab:a≠b:=fun z=>by rw [← z,hA] at hb;cases hb
 have hA:=ai (u:=MO.lst []) hA hb
 have le:=le.trans (Le.new (o:=MO.lst []) hb)
 have hB:aA M1 b (.lst []) b=some (.lst []):=ah
 generalize aA M1 b (.lst [])=M2 at hA hB le ⊢
 have lB:([]:List (List Pl)).length≤Du 0:=Nat.zero_le _
 walk_at "rd"
 refine ⟨_,_,rfl,.inr (.inr ⟨a,rfl,hA⟩),?_⟩
 rw [List.length_map]
 walk_at "rd"
 refine ⟨by omega,by omega,?_⟩
 refine aF (fun i ρ M'=> ∃ (ts:List (List Pl)) (y1 y2 y3:Option L3.D),ρ= [some (.ref l),some (.ref a),some (.ref b),y1,y2,y3]∧Le M M'∧M' a=some (.lst (qs.map Pl.d))∧M' b=some (.lst (ts.map tD))∧ts.length≤Du i∧∀ t∈ts,Ae ps t) _ ?_ ?_ ⟨[],_,_,_,rfl,le,hA,hB,lB,(fun t ht=>by cases ht)⟩
 ·rintro i v ρ M' N qO ⟨ts,y1,y2,y3,rfl,le,hA,hB,lt,hT⟩ hN
  obtain ⟨hi,rfl⟩:=bQ qO
  have hi:i < qs.length:=by omega
  obtain ⟨p,hp⟩:∃ p,qs[i]?=some p:=⟨qs[i],List.getElem?_eq_getElem hi⟩
  have mp:=List.mem_of_getElem? hp
  refine ⟨trivial,?_⟩
  walk_at "rd"
  refine ⟨_,_,_,.inr (.inr ⟨a,rfl,hA⟩),rfl,br (by rw [List.getElem?_map,hp];rfl),?_⟩
  walk_at "rd"
  refine ⟨_,.of hA,fun c hc=>?_⟩
  have ec:cutD (qs.map Pl.d) none (some (i:Int))=(qs.take i).map Pl.d:=gP Pl.d qs i (by omega)
  rw [ec]
  have hA:=ai (u:=MO.lst ((qs.take i).map Pl.d)) hA hc
  have hB:=ai (u:=MO.lst ((qs.take i).map Pl.d)) hB hc
  have le:=le.trans (Le.new (o:=MO.lst ((qs.take i).map Pl.d)) hc)
  have hC:aA M' c (.lst ((qs.take i).map Pl.d)) c=some (.lst ((qs.take i).map Pl.d)):=ah
  generalize aA M' c (.lst ((qs.take i).map Pl.d))=M3 at hA hB hC le ⊢
  walk_at "rd"
  refine ⟨c,qs.take i,rfl,hC,by rw [List.length_take];omega,fun q hq=>oq q (List.mem_of_mem_take hq),fun d us hd zd KS=>?_⟩
  have Si:us.Nodup:=zd.nodup_iff.mpr (zk.sublist (List.take_sublist _ _))
  have ou:∀ q∈us,q∈qs∧aT q p:=fun q hq=>by
   have hq:=zd.mem_iff.mp hq
   refine ⟨List.mem_of_mem_take hq,?_⟩
   obtain ⟨j,hj⟩:=List.mem_iff_getElem?.mp hq
   have lj:j < i:=by
    have:=(List.getElem?_eq_some_iff.mp hj).1
    rw [List.length_take] at this
    omega
   rw [List.getElem?_take_of_lt lj] at hj
   obtain ⟨h1,h2⟩:=List.getElem?_eq_some_iff.mp hj
   obtain ⟨h3,h4⟩:=List.getElem?_eq_some_iff.mp hp
   have:=List.pairwise_iff_getElem.mp strict j i h1 h3 lj
   rw [h2,h4] at this
   exact this
  have few:=Ff (rz KS Si) (fun q hq=>(oq q (ou q hq).1).2) (oq p mp).2 fun q hq=>(ou q hq).2
  rw [zd.length_eq,List.length_take,Nat.min_eq_left (by omega)] at few
  have hW:∀ w∈aX (dm us),∃ x y,w= [x,y]∧x∈qs∧y∈qs:=fun w hw=>by
   obtain ⟨x,y,e,hx,hy⟩:=Dv hw
   exact ⟨x,y,e,(ou x hx).1,(ou y hy).1⟩
  have lw:=BN us
  rw [zd.length_eq,List.length_take] at lw
  have lw:(aX (dm us)).length≤14:=by omega
  generalize aX (dm us)=ws at few hW lw ⊢
  have hA:=ai (u:=MO.lst (ws.map tD)) hA hd
  have hB:=ai (u:=MO.lst (ws.map tD)) hB hd
  have le:=le.trans (Le.new (o:=MO.lst (ws.map tD)) hd)
  have hD:aA M3 d (.lst (ws.map tD)) d=some (.lst (ws.map tD)):=ah
  generalize aA M3 d (.lst (ws.map tD))=M4 at hA hB hD le ⊢
  refine ⟨d,_,rfl,hD,by rw [List.length_map];omega,aI.mk (bR (fun j acc M5=>M5=M4∧acc=((ws.take j).filter (AA p)).map tD) _ ?_ ?_ ⟨rfl,rfl⟩)⟩
  ·rintro j v acc M5 N2 mY ⟨rfl,rfl⟩ pP
   obtain ⟨w',hw,rfl⟩:=c8 mY
   obtain ⟨x,y,rfl,mx,my⟩:=hW w' (List.mem_of_getElem? hw)
   refine ⟨hD,?_⟩
   refine ⟨_,rfl,?_⟩
   refine ⟨_,_,_,Or.inl rfl,rfl,rfl,?_⟩
   refine ⟨_,rfl,?_⟩
   refine ⟨_,_,_,Or.inl rfl,rfl,rfl,?_⟩
   walk_at "rd"
   refine ⟨oq x mx,oq y my,oq p mp,?_⟩
   walk_at "rd"
   rw [bM]
   refine aR (fun k=>?_) (fun k=>?_)
   ·have k:tw x y p < 0:=Int.sign_eq_neg_one_iff_neg.mp (eq_of_beq k)
    walk_at "rd"
    refine pP _ _ ⟨rfl,?_⟩
    rw [bO hw,if_pos (show AA p [x,y]=true from decide_eq_true k),List.map_append]
    rfl
   ·have k:¬ tw x y p < 0:=fun z=>k (by rw [Int.sign_eq_neg_one_of_neg z];rfl)
    refine pP _ _ ⟨rfl,?_⟩
    rw [bO hw,if_neg (fun z:AA p [x,y]=true=>k (of_decide_eq_true z)),List.append_nil]
  ·rintro acc M5 ⟨rfl,rfl⟩
   refine ⟨hD,fun f hf=>?_⟩
   rw [List.length_map,List.take_length]
   have hS:∀ w∈ws.filter (AA p),∃ x y,w= [x,y]∧x∈qs∧y∈qs∧tw x y p < 0:=fun w hw=>by
    obtain ⟨hw,sw⟩:=List.mem_filter.mp hw
    obtain ⟨x,y,rfl,mx,my⟩:=hW w hw
    exact ⟨x,y,rfl,mx,my,of_decide_eq_true sw⟩
   generalize ws.filter (AA p)=ss at few hS ⊢
   have hA:=ai (u:=MO.lst (ss.map tD)) hA hf
   have hB:=ai (u:=MO.lst (ss.map tD)) hB hf
   have le:=le.trans (Le.new (o:=MO.lst (ss.map tD)) hf)
   have hF:aA M5 f (.lst (ss.map tD)) f=some (.lst (ss.map tD)):=ah
   generalize aA M5 f (.lst (ss.map tD))=M6 at hA hB hF le ⊢
   walk_at "rd"
   refine ⟨⟨b,_,rfl,hB⟩,?_⟩
   walk_at "rd"
   refine ⟨f,_,rfl,hF,by rw [List.length_map];omega,aI.mk (bR (fun j acc M5=>M5=M6∧acc=((ss.take j).map (NT p)).map tD) _ ?_ ?_ ⟨rfl,rfl⟩)⟩
   ·rintro j v acc M5 N2 mY ⟨rfl,rfl⟩ pP
    obtain ⟨w',hw,rfl⟩:=c8 mY
    obtain ⟨x,y,rfl,mx,my,sx⟩:=hS w' (List.mem_of_getElem? hw)
    refine ⟨hF,?_⟩
    walk_at "rd"
    refine ⟨oq x mx,oq y my,oq p mp,by omega,?_⟩
    walk_at "rd"
    refine pP _ _ ⟨rfl,?_⟩
    rw [Dw hw,List.map_append]
    rfl
   ·rintro acc M5 ⟨rfl,rfl⟩
    refine ⟨hF,fun g hg=>?_⟩
    rw [List.length_map,List.take_length]
    have hT2:∀ t∈ss.map (NT p),Ae ps t:=fun t ht=>by
     obtain ⟨w,hw,rfl⟩:=List.mem_map.mp ht
     obtain ⟨x,y,rfl,mx,my,sx⟩:=hS w hw
     obtain ⟨h1,h2⟩:=EL (a:=x) (b:=y) (c:=p) (by omega)
     refine ⟨h1,fun q hq=>bF.mem_iff.mp ?_⟩
     have:=h2.mem_iff.mp hq
     simp only [List.mem_cons,List.not_mem_nil,or_false] at this
     rcases this with rfl | rfl | rfl
     ·exact mx
     ·exact my
     ·exact mp
    have lT:(ss.map (NT p)).length≤i - 1:=by rw [List.length_map];exact few
    generalize ss.map (NT p)=rs at hT2 lT ⊢
    have Ut:b≠g:=fun z=>by rw [z,hg] at hB;cases hB
    have Q2:Du i≤15:=Nr (by omega)
    refine ⟨b,g,_,_,rfl,rfl,ai hB hg,ah,by rw [List.length_map,List.length_map];omega,?_⟩
    rw [← List.map_append]
    refine hN _ _ ⟨ts ++ rs,_,_,_,rfl,fun x o e=>?_,?_,ah,?_,fun t ht=>?_⟩
    ·rw [bG (fun z=>by rw [z,nb] at e;cases e)]
     exact ai (le _ _ e) hg
    ·rw [bG nab]
     exact ai hA hg
    ·rw [List.length_append]
     show _≤Du i+(i - 1)
     omega
    ·rcases List.mem_append.mp ht with ht | ht
     ·exact hT t ht
     ·exact hT2 t ht
 ·rintro ρ M' ⟨ts,y1,y2,y3,rfl,le,hA,hB,lt,hT⟩
  refine ⟨trivial,?_⟩
  have Q2:ts.length≤15:=Nat.le_trans lt (by rw [List.length_map,List.length_range];exact Nr (by omega))
  walk_at "rd"
  refine ⟨b,ts,rfl,hB,fun t ht=>?_,by omega,fun g rs hg FJ _=>?_⟩
  ·obtain ⟨⟨u,v,w,e,_⟩,_⟩:=hT t ht
   rw [e]
   rfl
  exact aI.mk ⟨_,le.put,h g rs (le.free hg) (fun t ht=>hT t (FJ.mem_iff.mp ht)) (by rw [FJ.length_eq];exact Q2)⟩
theorem oR (T:Txt K mg t):Binds K t.dW ["_law_places_here","_law_triples"] []:=T.eW.binds fun _ _ _ _ _ _ us hl=>match us,hl with | [_,_],_=>rfl
def pD:m9:=fun ds M Q=> ∃ l c:Addr,ds= [.ref l,.ref c]∧∃ (ps:List Pl) (ts:List (List Pl)),M l=some (.lst (ps.map Pl.d))∧M c=some (.lst (ts.map tD))∧(∀ t∈ts,Tr t)∧∀ r:Option Flt,Ky ps ts r→Q (fD r) M
theorem oU (T:Txt K mg t):bP P w K mg base dZ 2 t.eU t.dW ["_law_places_here","_law_triples"] (nv K pD):=by
 refine pJ T.eW dX (fun ds M Q h=>by (first | (obtain ⟨_,rfl,_⟩:=h;rfl) | (obtain ⟨_,_,rfl,_⟩:=h;rfl) | (obtain ⟨_,_,_,rfl,_⟩:=h;rfl) | (obtain ⟨_,_,_,_,rfl,_⟩:=h;rfl) | (obtain ⟨_,_,_,_,_,rfl,_⟩:=h;rfl) | (obtain ⟨_,_,_,_,_,_,rfl,_⟩:=h;rfl) | (obtain ⟨_,_,_,_,_,_,_,rfl,_⟩:=h;rfl))) (fun cdv A outer s H hr=>?_)
 have hu:=hr.units
 refine ⟨_,(ao (eS PassesOwn.never rfl (aa 1) (bg (i:=2) dX.nd rfl (Or.inl rfl)) (ay (aZ (aD AO (aK cU (by rfl) T.cj aQ (af (rZ (MJ (ys:=["_law_places_here"]) (fs:=[0]) rfl (by show b8 (au cV) ["_law_places_here","_law_triples","_law_t"] _ _ _ _=true;decide +kernel) (aa 2) (fun cl C s0 H0 ex=>nc (aD (ff hu) (aa 0) (aa 1) (by with_unfolding_all rfl))) (fun cl C s0 H0 ex=>(aa 0)))) ak)) aj (az _)) (ay (aC (aY (af m6 (af (aa 2) ak))))) aN)))
  (ao (eS PassesOwn.never rfl (aa 1) (bg (i:=2) dX.nd rfl (Or.inl rfl)) (ay (aZ (nK.pt (qg (aD OP (aE (bE T) (hr.mono (by decide)) (by rfl) T.bT T.bu.kp (bD T) (af (aJ (aa 2) aj) (af (aJ (aa 2) aj) (af (aJ (aa 2) aj) ak)))) aj (az _)) (kK (aD (kP hu) (aK (Cs hu rfl) (by rfl) T.gE c6 (af (aa 2) ak)) (aJ (aa 2) aj) (az _))))) (ay (aC (aY (af m6 (af (aa 2) ak))))) aN)))
  (ay (aC cG)))),fun ds M Q h=>?_⟩
 obtain ⟨l,c,rfl,ps,ts,hM,hC,hts,h⟩:=h
 walk_at "rd"
 refine ⟨c,_,rfl,hC,?_⟩
 refine aF (fun i ρ M'=>Le M M'∧M' l=some (.lst (ps.map Pl.d))∧M' c=some (.lst (ts.map tD))∧(∃ y1:Option L3.D,ρ= [some (.ref l),some (.ref c),y1])∧∀ (j:Nat) (u:List Pl),j < i→ts[j]?=some u→¬ ∃ q∈u,q∉ps) _ ?_ ?_ ⟨Le.refl _,hM,hC,⟨_,rfl⟩,fun j u z=>by omega⟩
 ·rintro i x ρ M' N hx ⟨le,hM,hC,⟨y1,rfl⟩,hf⟩ hN
  obtain ⟨t,ht,rfl⟩:=c8 hx
  have h3:t.length=3:=by obtain ⟨a,b,d,rfl,_⟩:=hts t (List.mem_of_getElem? ht);rfl
  refine ⟨hC,?_⟩
  walk_at "rd"
  refine ⟨by rw [List.length_map,h3];decide,aI.mk (bR (fun j acc M4=>M4=M'∧acc=((t.take j).filter (fun q=>decide (q∉ps))).map Pl.d) _ ?_ ?_ ⟨rfl,rfl⟩)⟩
  ·rintro j d acc M4 N2 mY ⟨rfl,rfl⟩ pP
   obtain ⟨q,hq,rfl⟩:=fq mY
   refine ⟨trivial,?_⟩
   walk_at "rd"
   refine ⟨_,.inr ⟨l,rfl,hM⟩,rfl,bH ps,?_⟩
   walk_at "rd"
   rw [if_pos rfl,iJ]
   refine aR (fun k=>?_) (fun k=>?_)
   ·have k:q∉ps:=fun z=>by rw [decide_eq_true z] at k;cases k
    walk_at "rd"
    refine pP _ _ ⟨rfl,?_⟩
    rw [cz hq,if_pos (decide_eq_true k),List.map_append]
    rfl
   ·have k:q∈ps:=Classical.byContradiction fun z=>k (by rw [decide_eq_false z];rfl)
    refine pP _ _ ⟨rfl,?_⟩
    rw [cz hq,if_neg (fun z=>absurd k (of_decide_eq_true z)),List.append_nil]
  rintro acc M4 ⟨rfl,rfl⟩
  refine ⟨trivial,fun u eL=>?_⟩
  rw [List.length_map,List.take_length]
  have mf:∀ q,q∈t.filter (fun q=>decide (q∉ps))↔(q∈t∧q∉ps):=fun q=>by rw [List.mem_filter];simp
  generalize t.filter (fun q=>decide (q∉ps))=fs at mf ⊢
  walk_at "rd"
  refine ⟨_,_,rfl,.inr (.inr ⟨u,rfl,ah⟩),?_⟩
  rw [List.length_map]
  walk_at "rd"
  refine aR (fun k=>?_) (fun k=>?_)
  ·have k:(0:Int) < fs.length:=of_decide_eq_true k
   obtain ⟨q,hq⟩:=List.exists_mem_of_ne_nil fs (fun z=>by rw [z] at k;simp at k)
   have hq:=(mf q).mp hq
   walk_at "rd"
   exact aI.mk ⟨M,le.trans (Le.new eL),h (some (.uu t)) ⟨some t,none,⟨i,ht,⟨q,hq⟩,hf⟩,(fun z=>by cases z),rfl⟩⟩
  ·have k:¬ (0:Int) < fs.length:=fun z=>k (decide_eq_true z)
   refine hN _ _ ⟨le.trans (Le.new eL),ai hM eL,ai hC eL,⟨_,rfl⟩,fun j v hj hv=>?_⟩
   by_cases ej:j=i
   ·subst ej
    rw [ht] at hv
    cases hv
    rintro ⟨q,mq,nq⟩
    have:=List.length_pos_of_mem ((mf q).mpr ⟨mq,nq⟩)
    omega
   ·exact hf j v (by omega) hv
 ·rintro ρ M' ⟨le,hM,hC,⟨y1,rfl⟩,hf⟩
  refine ⟨hC,?_⟩
  have na:Fs ts (fun t=> ∃ q∈t,q∉ps) none:=fun t ht=>by
   obtain ⟨j,hj⟩:=List.mem_iff_getElem?.mp ht
   exact hf j t (by rw [List.length_map];exact (List.getElem?_eq_some_iff.mp hj).1) hj
  walk_at "rd"
  refine ⟨c,_,rfl,hC,?_⟩
  refine aF (fun i ρ M2=>M2=M'∧(∃ y1:Option L3.D,ρ= [some (.ref l),some (.ref c),y1])∧∀ (j:Nat) (u:List Pl),j < i→ts[j]?=some u→¬ ¬ kT u) _ ?_ ?_ ⟨rfl,⟨_,rfl⟩,fun j u z=>by omega⟩
  ·rintro i x ρ M2 N hx ⟨rfl,⟨y1,rfl⟩,hf2⟩ hN
   obtain ⟨t,ht,rfl⟩:=c8 hx
   obtain ⟨a,b,d,rfl,oa,ob,oc⟩:=hts t (List.mem_of_getElem? ht)
   refine ⟨hC,?_⟩
   refine ⟨_,rfl,?_⟩
   refine ⟨_,_,_,Or.inl rfl,rfl,rfl,?_⟩
   refine ⟨_,rfl,?_⟩
   refine ⟨_,_,_,Or.inl rfl,rfl,rfl,?_⟩
   refine ⟨_,rfl,?_⟩
   refine ⟨_,_,_,Or.inl rfl,rfl,rfl,?_⟩
   refine ⟨a,b,d,rfl,oa,ob,oc,?_⟩
   have bad:¬ kT [a,b,d]→aI (∃ M0,Le M0 M2∧Q (fD (some (.flat [a,b,d]))) M0):=fun z=>aI.mk ⟨M,le,h _ ⟨none,some [a,b,d],na,fun _=>⟨i,ht,z,hf2⟩,rfl⟩⟩
   have good:kT [a,b,d]→N _ M2:=fun z=>hN [some (.ref l),some (.ref c),some (tD [a,b,d])] M2 ⟨rfl,⟨_,rfl⟩,fun j u hj eL=>by
    by_cases e:j=i
    ·subst e
     rw [ht] at eL
     cases eL
     exact fun y=>y z
    ·exact hf2 j u (by omega) eL⟩
   walk_at "rd"
   refine aR (fun k=>?_) (fun k=>?_)
   ·have k:tw a b d≤0:=of_decide_eq_true k
    walk_at "rd"
    exact bad fun z=>by have:=z.2;omega
   have k:¬ tw a b d≤0:=fun z=>k (decide_eq_true z)
   refine ⟨_,rfl,?_⟩
   refine ⟨[a,b,d],rfl,by simp,fun m mm lm=>?_⟩
   have key:=Fd mm lm
   refine ⟨_,rfl,?_⟩
   refine ⟨_,_,_,Or.inl rfl,rfl,rfl,?_⟩
   walk_at "rd"
   rw [cL]
   refine aR (fun k2=>?_) (fun k2=>?_)
   ·have k2:¬ m=a:=fun z=>by rw [decide_eq_true z] at k2;cases k2
    walk_at "rd"
    exact bad fun z=>k2 (key.mpr z.1).symm
   ·have k2:m=a:=Classical.byContradiction fun z=>k2 (by rw [decide_eq_false z];rfl)
    exact good ⟨key.mp k2.symm,by omega⟩
  ·rintro ρ M2 ⟨rfl,⟨y1,rfl⟩,hf2⟩
   refine ⟨hC,?_⟩
   have nf:Fs ts (fun t=> ¬ kT t) none:=fun t ht=>by
    obtain ⟨j,hj⟩:=List.mem_iff_getElem?.mp ht
    exact hf2 j t (by rw [List.length_map];exact (List.getElem?_eq_some_iff.mp hj).1) hj
   walk_at "rd"
   exact aI.mk ⟨M,le,h none ⟨none,none,na,fun _=>nf,rfl⟩⟩
theorem rK (T:Txt K mg t):Binds K t.gC ["_law_triples"] []:=T.iw.binds fun _ _ _ _ _ _ us hl=>match us,hl with | [_],_=>rfl
def sR:m9:=fun ds M Q=> ∃ l:Addr,ds= [.ref l]∧∃ ts:List (List Pl),M l=some (.lst (ts.map tD))∧(∀ t∈ts,Tr t)∧ts.length≤200∧∀ p,M p=none→Q (.ref p) (aA M p (.lst ((dc ts).map tD)))
theorem rL (T:Txt K mg t):bP P w K mg base dZ 1 t.ig t.gC ["_law_triples"] (nv K sR):=by
 refine pJ T.iw cJ (fun ds M Q h=>by (first | (obtain ⟨_,rfl,_⟩:=h;rfl) | (obtain ⟨_,_,rfl,_⟩:=h;rfl) | (obtain ⟨_,_,_,rfl,_⟩:=h;rfl) | (obtain ⟨_,_,_,_,rfl,_⟩:=h;rfl) | (obtain ⟨_,_,_,_,_,rfl,_⟩:=h;rfl) | (obtain ⟨_,_,_,_,_,_,rfl,_⟩:=h;rfl) | (obtain ⟨_,_,_,_,_,_,_,rfl,_⟩:=h;rfl))) (fun cdv A outer s H hr=>?_)
 have hu:=hr.units
 refine ⟨_,(ao (aM (i:=1) cJ.nd rfl (Or.inl rfl) (bN ak))
  (ao (eS PassesOwn.never rfl (aa 0) (Ec rfl (iH (bg (i:=2) cJ.nd rfl (Or.inl rfl)) (iH (bg (i:=3) cJ.nd rfl (Or.inl rfl)) (iH (bg (i:=4) cJ.nd rfl (Or.inl rfl)) AS)))) (ay (aM (i:=1) cJ.nd rfl (Or.inl rfl) (aq fJ (aa 1) (bN (af (aY (af (aa 2) (af (aa 3) ak))) (af (aY (af (aa 3) (af (aa 4) ak))) (af (aY (af (aa 4) (af (aa 2) ak))) ak))))))))
  (ay (aC (aa 1))))),fun ds M Q h=>?_⟩
 obtain ⟨l,rfl,ts,hM,hts,Az,h⟩:=h
 have sl:(1000:Nat) < sizeLine:=by decide
 walk_at "rd"
 intro p hp
 walk_at "rd"
 refine ⟨l,_,rfl,ai hM hp,?_⟩
 refine aF (fun i ρ M'=> ∃ (q:Addr) (y1 y2 y3:Option L3.D),ρ= [some (.ref l),some (.ref q),y1,y2,y3]∧M q=none∧M' l=some (.lst (ts.map tD))∧M' q=some (.lst ((dc (ts.take i)).map tD))∧Le M M') _ ?_ ?_ ⟨p,_,_,_,rfl,hp,ai hM hp,ah,Le.new hp⟩
 ·rintro i x ρ M' N hx ⟨q,y1,y2,y3,rfl,hq,hM,hP,le⟩ hN
  obtain ⟨t,ht,rfl⟩:=c8 hx
  obtain ⟨a,b,c,rfl,oa,ob,oc⟩:=hts t (List.mem_of_getElem? ht)
  refine ⟨hM,?_⟩
  refine ⟨_,Or.inl rfl,rfl,?_⟩
  walk_at "rd"
  intro e he
  have ld:=kU (ts.take i)
  rw [List.length_take] at ld
  refine ⟨q,e,_,_,rfl,rfl,ai hP he,ah,by rw [List.length_map];show _+3≤sizeLine;omega,fun u eL=>?_⟩
  have le:=(le.trans (Le.new (o:=MO.lst [tD [a,b],tD [b,c],tD [c,a]]) he))
  refine hN _ _ ⟨u,_,_,_,rfl,le.free eL,ai (ai hM he) eL,?_,le.trans (Le.new eL)⟩
  rw [ah,xD ht,List.map_append]
  rfl
 ·rintro ρ M' ⟨q,y1,y2,y3,rfl,hq,hM,hP,le⟩
  refine ⟨hM,?_⟩
  walk_at "rd"
  rw [List.length_map,List.take_length] at hP
  refine aI.mk ⟨aA M q (.lst ((dc ts).map tD)),fun b o e=>?_,h q hq⟩
  by_cases hb:b=q
  ·subst hb
   rw [ah] at e
   rw [hP]
   exact e
  ·rw [bG hb] at e
   exact le _ _ e
theorem k9 (T:Txt K mg t):Binds K t.gD ["_law_places_here"] []:=T.fj.binds fun _ _ _ _ _ _ us hl=>match us,hl with | [_],_=>rfl
def sS:m9:=fun ds M Q=> ∃ (l:Addr) (ps:List Pl),ds= [.ref l]∧M l=some (.lst (ps.map Pl.d))∧ps.length < 64∧(∀ q∈ps,q.Ok 140)∧∀ b:Bool,(b=true↔Flat ps)→Q (.bl b) M
theorem lC (T:Txt K mg t):bP P w K mg base dZ 2 t.iu t.gD ["_law_places_here"] (nv K sS):=by
 refine pJ T.fj kZ (fun ds M Q h=>by (first | (obtain ⟨_,rfl,_⟩:=h;rfl) | (obtain ⟨_,_,rfl,_⟩:=h;rfl) | (obtain ⟨_,_,_,rfl,_⟩:=h;rfl) | (obtain ⟨_,_,_,_,rfl,_⟩:=h;rfl) | (obtain ⟨_,_,_,_,_,rfl,_⟩:=h;rfl) | (obtain ⟨_,_,_,_,_,_,rfl,_⟩:=h;rfl) | (obtain ⟨_,_,_,_,_,_,_,rfl,_⟩:=h;rfl))) (fun cdv A outer s H hr=>?_)
 have hu:=hr.units
 refine ⟨_,(ao (aM (i:=1) kZ.nd rfl (Or.inr rfl) (aK kQ (by rfl) T.dI cy (af (aa 0) ak)))
  (ay (aC (dG (MM hu) (rZ (iB (ys:=["_law_row"]) (fs:=[1]) rfl (by show b8 (au fc) ["_law_places_here","_law_row"] _ _ _ _=true;decide +kernel) (aa 1) (fun cl C s0 H0 ex=>nc (aD (kP hu) (aE (bE T) (hr.mono (by decide)) (by rfl) T.bT T.bu.kp (bD T) (af (aJ (aa 1) aj) (af (aJ (aa 1) (m8 aj)) (af (aa 0) ak)))) aj (az _))) (fun cl C s0 H0 ex=>(aa 0)))) (bN ak) (az _))))),fun ds M Q h=>?_⟩
 obtain ⟨l,ps,rfl,hM,h64,ho,h⟩:=h
 walk_at "rd"
 refine ⟨l,ps,rfl,hM,h64,fun p qs hp bF dP=>?_⟩
 have oq:∀ q∈qs,q.Ok 140:=fun q hq=>ho q (bF.mem_iff.mp hq)
 have lq:qs.length < 64:=by rw [bF.length_eq];exact h64
 walk_at "rd"
 refine ⟨p,_,rfl,ah,by rw [List.length_map];have:(1000:Nat) < sizeLine:=by decide
                       omega,aI.mk (bR (fun i acc M4=>M4=aA M p (.lst (qs.map Pl.d))∧acc=((qs.take i).filter (fun q=>decide (tw (hz qs) (lz qs) q≠0))).map Pl.d) _ ?_ ?_ ⟨rfl,rfl⟩)⟩
 ·rintro i d acc M4 N hx ⟨rfl,rfl⟩ hN
  obtain ⟨q,hq,rfl⟩:=fq hx
  have mq:=List.mem_of_getElem? hq
  have hne:qs≠[]:=fun z=>by rw [z] at mq;cases mq
  refine ⟨ah,?_⟩
  walk_at "rd"
  refine ⟨_,_,_,.inr (.inr ⟨p,rfl,ah⟩),rfl,MY hne,?_⟩
  walk_at "rd"
  refine ⟨_,_,_,.inr (.inr ⟨p,rfl,ah⟩),rfl,MZ hne,?_⟩
  walk_at "rd"
  refine ⟨oq _ (EZ hne),oq _ (E1 hne),oq q mq,?_⟩
  walk_at "rd"
  rw [iX]
  refine aR (fun k=>?_) (fun k=>?_)
  ·walk_at "rd"
   refine hN _ _ ⟨rfl,?_⟩
   rw [cz hq,if_pos k,List.map_append]
   rfl
  ·refine hN _ _ ⟨rfl,?_⟩
   rw [cz hq,if_neg k,List.append_nil]
 ·rintro acc M4 ⟨rfl,rfl⟩
  refine ⟨ah,fun r hr=>?_⟩
  rw [List.length_map,List.take_length]
  walk_at "rd"
  intro e he
  refine ⟨r,e,_,_,rfl,rfl,ai ah he,ah,bH _,rfl,?_⟩
  rw [fY]
  refine aI.mk ⟨M,((Le.new hp).trans (Le.new hr)).trans (Le.new he),h _ ?_⟩
  rw [← Dd bF,← E2 dP,List.isEmpty_iff,List.map_eq_nil_iff,List.filter_eq_nil_iff]
  exact ⟨fun z q hq=>Classical.byContradiction fun w=>z q hq (decide_eq_true w),fun z q hq w=>of_decide_eq_true w (z q hq)⟩
theorem vn (T:Txt K mg t):Binds K t.ji ["_law_a","_law_b","_law_places_here"] []:=T.kB.binds fun _ _ _ _ _ _ us hl=>match us,hl with | [_,_,_],_=>rfl
def FL (a b:Pl) (ps:List Pl):Prop:= ∀ p∈ps,0≤tw a b p∧(tw a b p=0→¬ (aT (lo a b) p∧aT p (hi a b)))
def wD:m9:=fun ds M Q=> ∃ (a b:Pl) (l:Addr) (ps:List Pl),ds= [a.d,b.d,.ref l]∧M l=some (.lst (ps.map Pl.d))∧a.Ok 140∧b.Ok 140∧(∀ q∈ps,q.Ok 140)∧∀ r:Bool,(r=true↔a≠b∧FL a b ps)→Q (.bl r) M
theorem vo (T:Txt K mg t):bP P w K mg base dZ 2 t.kc t.ji ["_law_a","_law_b","_law_places_here"] (nv K wD):=by
 refine pJ T.kB jt (fun ds M Q h=>by (first | (obtain ⟨_,rfl,_⟩:=h;rfl) | (obtain ⟨_,_,rfl,_⟩:=h;rfl) | (obtain ⟨_,_,_,rfl,_⟩:=h;rfl) | (obtain ⟨_,_,_,_,rfl,_⟩:=h;rfl) | (obtain ⟨_,_,_,_,_,rfl,_⟩:=h;rfl) | (obtain ⟨_,_,_,_,_,_,rfl,_⟩:=h;rfl) | (obtain ⟨_,_,_,_,_,_,_,rfl,_⟩:=h;rfl))) (fun cdv A outer s H hr=>?_)
 have hu:=hr.units
 refine ⟨_,(ao (eS PassesOwn.never rfl (aa 2) (bg (i:=3) jt.nd rfl (Or.inl rfl)) (ao (aM (i:=4) jt.nd rfl (Or.inl rfl) (aE (bE T) (hr.mono (by decide)) (by rfl) T.bT T.bu.kp (bD T) (af (aa 0) (af (aa 1) (af (aa 3) ak)))))
  (ay (aZ (nK.pt (qg (aD (jy hu) (aa 4) aj (az _)) (kK (nK.pt (kL (aD (dj hu) (aa 4) aj (az _)) (kL (aD (jy hu) (aK (O1 hu rfl) (by rfl) T.gE c6 (af (aa 0) (af (aa 1) ak))) (aa 3) (az _)) (gU (aD (jy hu) (aa 3) (aK (O2 hu rfl) (by rfl) T.Fo wX (af (aa 0) (af (aa 1) ak))) (az _))))))))) (ay (aC jQ)) aN))))
  (ay (aC (dG (kP hu) (aa 0) (aa 1) (az _))))),fun ds M Q h=>?_⟩
 obtain ⟨a,b,l,ps,rfl,hM,oa,ob,ho,h⟩:=h
 walk_at "rd"
 refine ⟨l,_,rfl,hM,?_⟩
 refine aF (fun i ρ M'=>M'=M∧(∃ y1 y2:Option L3.D,ρ= [some a.d,some b.d,some (.ref l),y1,y2])∧FL a b (ps.take i)) _ ?_ ?_ ⟨rfl,⟨_,_,rfl⟩,fun p hp=>by cases hp⟩
 ·rintro i x ρ M' N hx ⟨rfl,⟨y1,y2,rfl⟩,hf⟩ hN
  obtain ⟨p,hp,rfl⟩:=fq hx
  have mp:=List.mem_of_getElem? hp
  have on:(0≤tw a b p∧(tw a b p=0→¬ (aT (lo a b) p∧aT p (hi a b))))→FL a b (ps.take (i+1)):=fun k q hq=>by
   rw [List.take_succ,hp] at hq
   rcases List.mem_append.mp hq with hq | hq
   ·exact hf q hq
   ·rw [List.mem_singleton.mp hq];exact k
  refine ⟨hM,?_⟩
  walk_at "rd"
  refine ⟨oa,ob,ho p mp,?_⟩
  walk_at "rd"
  refine aR (fun k=>?_) (fun k=>?_)
  ·have k:tw a b p < 0:=of_decide_eq_true k
   walk_at "rd"
   exact aI.mk ⟨_,Le.refl _,h false ⟨(fun z=>by cases z),fun z=>absurd (z.2 p mp).1 (by omega)⟩⟩
  ·have k:¬ tw a b p < 0:=fun z=>k (decide_eq_true z)
   walk_at "rd"
   rw [bM]
   refine aR (fun k2=>?_) (fun k2=>?_)
   ·have k2:tw a b p=0:=eq_of_beq k2
    walk_at "rd"
    rw [cM]
    refine aR (fun k3=>?_) (fun k3=>?_)
    ·have k3:=of_decide_eq_true k3
     walk_at "rd"
     rw [cM]
     refine aR (fun k4=>?_) (fun k4=>?_)
     ·have k4:=of_decide_eq_true k4
      walk_at "rd"
      exact aI.mk ⟨_,Le.refl _,h false ⟨(fun z=>by cases z),fun z=>absurd ⟨k3,k4⟩ ((z.2 p mp).2 k2)⟩⟩
     ·walk_at "rd"
      exact hN _ _ ⟨rfl,⟨_,_,rfl⟩,on ⟨by omega,fun _ z=>k4 (decide_eq_true z.2)⟩⟩
    ·walk_at "rd"
     exact hN _ _ ⟨rfl,⟨_,_,rfl⟩,on ⟨by omega,fun _ z=>k3 (decide_eq_true z.1)⟩⟩
   ·have k2:tw a b p≠0:=fun z=>k2 (by rw [z];rfl)
    walk_at "rd"
    exact hN _ _ ⟨rfl,⟨_,_,rfl⟩,on ⟨by omega,fun z=>absurd z k2⟩⟩
 ·rintro ρ M' ⟨rfl,⟨y1,y2,rfl⟩,hf⟩
  refine ⟨hM,?_⟩
  walk_at "rd"
  rw [List.length_map,List.take_length] at hf
  refine aI.mk ⟨_,Le.refl _,h _ ?_⟩
  rw [cL]
  simp [hf]
theorem qa (T:Txt K mg t):Binds K t.fB ["_law_places_here","_law_triples"] []:=T.gi.binds fun _ _ _ _ _ _ us hl=>match us,hl with | [_,_],_=>rfl
theorem rM {α:Type} {ps:List α} {j:Nat} {y:α} (h:y∈ps.take j):y∈ps.take (j+1):=by
 rw [List.take_succ]
 exact List.mem_append_left _ h
theorem xK {α:Type} {ps:List α} {j:Nat} {y:α} (h:ps[j]?=some y):y∈ps.take (j+1):=by
 rw [List.take_succ,h]
 exact List.mem_append_right _ (List.mem_singleton.mpr rfl)
def qP:m9:=fun ds M Q=> ∃ l c:Addr,ds= [.ref l,.ref c]∧∃ (ps:List Pl) (ts:List (List Pl)),M l=some (.lst (ps.map Pl.d))∧M c=some (.lst (ts.map tD))∧(∀ t∈ts,Tr t)∧ts.length≤21∧ps.length < 30∧(∀ q∈ps,q.Ok 140)∧∀ r:Option Flt,KA ps ts r→Q (fD r) M
theorem qb (T:Txt K mg t):bP P w K mg base dZ 3 t.gb t.fB ["_law_places_here","_law_triples"] (nv K qP):=by
 refine pJ T.gi bU (fun ds M Q h=>by (first | (obtain ⟨_,rfl,_⟩:=h;rfl) | (obtain ⟨_,_,rfl,_⟩:=h;rfl) | (obtain ⟨_,_,_,rfl,_⟩:=h;rfl) | (obtain ⟨_,_,_,_,rfl,_⟩:=h;rfl) | (obtain ⟨_,_,_,_,_,rfl,_⟩:=h;rfl) | (obtain ⟨_,_,_,_,_,_,rfl,_⟩:=h;rfl) | (obtain ⟨_,_,_,_,_,_,_,rfl,_⟩:=h;rfl))) (fun cdv A outer s H hr=>?_)
 have hu:=hr.units
 refine ⟨_,(ao (aM (i:=2) bU.nd rfl (Or.inr rfl) (bf (rL T) (hr.mono (by decide)) (by rfl) T.se T.iw.kp (rK T) (af (aa 1) ak)))
  (ao (aM (i:=3) bU.nd rfl (Or.inl rfl) (aK (ri (n:=2) (.inl rfl) hu) (by rfl) T.dI cy (af (rZ (iB (ys:=["_law_sides"]) (fs:=[2]) rfl (by show b8 (au dM) ["_law_places_here","_law_triples","_law_sides","_law_again","_law_ended","_law_a","_law_b","_law_open_end"] _ _ _ _=true;decide +kernel) (aa 2) (fun cl C s0 H0 ex=>nc (aD AO (Cr (aa 1) (aa 0) (rO PySem.F.plainAttrs_list PySem.F.slot_list_count PySem.F.type_list_count (zZ hu) (cE.dn (aa 1)) (iF (cE.dn (aa 0)) lP))) aj (az _))) (fun cl C s0 H0 ex=>(aa 0)))) ak)))
  (ao (aZ (aD (qZ hu) (aa 3) (bN ak) (az _)) (ay (aC (aY (af m6 (af (aJ (aa 3) aj) ak))))) aN)
  (ao (aZ (fW (bf (lC T) (hr.mono (by decide)) (by rfl) T.nj T.fj.kp (k9 T) (af (aa 0) ak))) (ay (aC cG)) aN)
  (ao (aM (i:=4) bU.nd rfl (Or.inl rfl) (bN ak))
  (ao (eS PassesOwn.never rfl (aa 0) (bg (i:=5) bU.nd rfl (Or.inl rfl)) (ay (eS PassesOwn.never rfl (aa 0) (bg (i:=6) bU.nd rfl (Or.inl rfl)) (ao (aM (i:=7) bU.nd rfl (Or.inl rfl) (iU (dG (ff hu) (aY (af (aa 6) (af (aa 5) ak))) (aa 2) (by with_unfolding_all rfl)) (m7 (dG (D8 hu) (aY (af (aa 5) (af (aa 6) ak))) (aa 2) (by with_unfolding_all rfl)))))
  (ay (aZ (nK.pt (kL (nK.pt (qg (fW (aa 7)) (kK (aD (ff hu) (aY (af (aa 5) (af (aa 6) ak))) (aa 2) (by with_unfolding_all rfl))))) (gU (aD (kP hu) (dG (D8 hu) (aY (af (aa 5) (af (aa 6) ak))) (aa 2) (by with_unfolding_all rfl)) (bf (vo T) (hr.mono (by decide)) (by rfl) T.vS T.kB.kp (vn T) (af (aa 5) (af (aa 6) (af (aa 0) ak)))) (az _))))) (ay (pT (Eg (aa 4) (aY (af (aa 5) (af (aa 6) ak))) (rO PySem.F.plainAttrs_list PySem.F.slot_list_append PySem.F.type_list_append kI (cE.dn (aa 4)) (iF (cE.dn (aY (af (aa 5) (af (aa 6) ak)))) lP))))) aN))))))
  (ao (aZ (aD (qZ hu) (aa 4) (bN ak) (az _)) (ay (aC (aY (af m6 (af (aK (Hz (n:=2) hu rfl) (by rfl) T.gE c6 (af (aa 4) ak)) ak))))) aN)
  (ay (aC cG))))))))),fun ds M Q h=>?_⟩
 obtain ⟨l,c,rfl,ps,ts,hM,hC,hts,Az,h30,ho,h⟩:=h
 have sl:(1000:Nat) < sizeLine:=by decide
 have ld:=kU ts
 walk_at "rd"
 refine ⟨ts,hC,hts,by omega,fun p hp=>?_⟩
 have le:=Le.new (o:=MO.lst ((dc ts).map tD)) hp
 have hM:=ai (u:=MO.lst ((dc ts).map tD)) hM hp
 have hP:aA M p (.lst ((dc ts).map tD)) p=some (.lst ((dc ts).map tD)):=ah
 generalize aA M p (.lst ((dc ts).map tD))=M1 at hP hM le ⊢
 have two:=nX (ts:=ts)
 have h:∀ r,(∃ (d b:Option (List Pl)),pB (FY (dc ts)) d∧(d=none→¬ Flat ps→pB (Cw ps (dc ts)) b)∧(∀ w,d=some w→r=some (.l5 w))∧(d=none→Flat ps→r=none)∧(d=none→¬ Flat ps→r=b.map .bare))→Q (fD r) M:=h
 generalize dc ts=ws at hP ld two h ⊢
 walk_at "rd"
 refine ⟨p,_,rfl,hP,by rw [List.length_map];omega,aI.mk (bR (fun i acc M4=>M4=M1∧acc=((ws.take i).filter (fun w=>decide (1 < ws.count w))).map tD) _ ?_ ?_ ⟨rfl,rfl⟩)⟩
 ·rintro i d acc M4 N hx ⟨rfl,rfl⟩ hN
  obtain ⟨w,hw,rfl⟩:=c8 hx
  refine ⟨hP,?_⟩
  walk_at "rd"
  refine ⟨⟨p,_,rfl,hP⟩,?_⟩
  walk_at "rd"
  refine ⟨p,_,rfl,hP,o8 w,bq ws,?_⟩
  rw [xE]
  walk_at "rd"
  refine aR (fun k=>?_) (fun k=>?_)
  ·have k:(1:Int) < (ws.count w:Int):=of_decide_eq_true k
   walk_at "rd"
   refine hN _ _ ⟨rfl,?_⟩
   rw [bO hw,if_pos (decide_eq_true (by omega)),List.map_append]
   rfl
  ·have k:¬ (1:Int) < (ws.count w:Int):=fun z=>k (decide_eq_true z)
   refine hN _ _ ⟨rfl,?_⟩
   rw [bO hw,if_neg (fun z=>k (by have:=of_decide_eq_true z;omega)),List.append_nil]
 rintro acc M4 ⟨rfl,rfl⟩
 refine ⟨hP,fun q hq=>?_⟩
 rw [List.length_map,List.take_length]
 have lf:=List.length_filter_le (fun w=>decide (1 < ws.count w)) ws
 have mf:∀ w,w∈ws.filter (fun w=>decide (1 < ws.count w))↔FY ws w:=fun w=>by unfold FY;rw [List.mem_filter];simp
 generalize ws.filter (fun w=>decide (1 < ws.count w))=us at lf mf ⊢
 have le:=le.trans (Le.new (o:=MO.lst (us.map tD)) hq)
 have hM:=ai (u:=MO.lst (us.map tD)) hM hq
 have hP:=ai (u:=MO.lst (us.map tD)) hP hq
 have hU:aA M4 q (.lst (us.map tD)) q=some (.lst (us.map tD)):=ah
 generalize aA M4 q (.lst (us.map tD))=M5 at hM hP hU le ⊢
 refine ⟨q,us,rfl,hU,fun w hw=>?_,by omega,fun a vs ha bF dP=>?_⟩
 ·obtain ⟨x,y,e,_⟩:=two w ((mf w).mp hw).1
  rw [e]
  rfl
 have le:=le.trans (Le.new (o:=MO.lst (vs.map tD)) ha)
 have hM:=ai (u:=MO.lst (vs.map tD)) hM ha
 have hP:=ai (u:=MO.lst (vs.map tD)) hP ha
 have hV:aA M5 a (.lst (vs.map tD)) a=some (.lst (vs.map tD)):=ah
 generalize aA M5 a (.lst (vs.map tD))=M6 at hM hP hV le ⊢
 have mf:∀ w,w∈vs↔FY ws w:=fun w=>by rw [bF.mem_iff];exact mf w
 walk_at "rd"
 intro e he
 refine ⟨_,_,.of (ai hV he),.of ah,bq _,rfl,?_⟩
 rw [fY]
 have le:=le.trans (Le.new (o:=MO.lst []) he)
 have hM:=ai (u:=MO.lst []) hM he
 have hP:=ai (u:=MO.lst []) hP he
 have hV:=ai (u:=MO.lst []) hV he
 generalize aA M6 e (.lst [])=M7 at hM hP hV le ⊢
 cases es:vs with
 | cons v0 vr=>
   rw [es] at hV
   walk_at "rd"
   refine ⟨_,_,_,.inr (.inr ⟨a,rfl,hV⟩),rfl,br (j:=0) rfl,?_⟩
   walk_at "rd"
   refine aI.mk ⟨M,le,h (some (.l5 v0)) ⟨some v0,none,⟨(mf v0).mp (by rw [es];simp),fun z hz=>?_⟩,(fun z=>by cases z),(fun w hw=>by cases hw;rfl),(fun z=>by cases z),(fun z=>by cases z)⟩⟩
   have hz:=(mf z).mpr hz
   rw [es] at hz dP
   rcases List.mem_cons.mp hz with e | hz
   ·rw [e];exact jA _
   ·exact (List.pairwise_cons.mp dP).1 z hz
 | nil=>
   have hd:pB (FY ws) none:=fun w hw=>by
    have:=(mf w).mpr hw
    rw [es] at this
    cases this
   walk_at "rd"
   refine ⟨l,ps,rfl,hM,by omega,ho,fun r hr'=>?_⟩
   walk_at "rd"
   refine aR (fun k=>?_) (fun k=>?_)
   ·have fl:=hr'.mp k
    walk_at "rd"
    exact aI.mk ⟨M,le,h none ⟨none,none,hd,fun _ z=>absurd fl z,(fun w hw=>by cases hw),fun _ _=>rfl,fun _ z=>absurd fl z⟩⟩
   have fl:¬ Flat ps:=fun z=>k (hr'.mpr z)
   walk_at "rd"
   intro b hb
   have nb:∀ {x:Addr} {o:MO},M7 x=some o→x≠b:=fun hx e=>by rw [e,hb] at hx;cases hx
   let BB:Pl→Pl→Prop:=fun x z=>((([z,x]∉ws∧[x,z]∈ws)∧¬ (x≠z∧Dh x z ps))∨([x,z]∉ws∧(x≠z∧Dh x z ps)))
   have Nt:∀ x z,BB x z↔((([z,x]∉ws∧[x,z]∈ws)∧¬ (x≠z∧Dh x z ps))∨([x,z]∉ws∧(x≠z∧Dh x z ps))):=fun x z=>Iff.rfl
   have Q3:∀ w,Cw ps ws w↔∃ x z:Pl,w= [x,z]∧x∈ps∧z∈ps∧BB x z:=fun w=>Iff.rfl
   generalize BB=B at Nt Q3
   walk_at "rd"
   refine ⟨l,_,rfl,ai hM hb,?_⟩
   refine aF (fun i ρ M'=> ∃ (us:List (List Pl)) (y1 y2 y3:Option L3.D),ρ= [some (.ref l),some (.ref c),some (.ref p),some (.ref a),some (.ref b),y1,y2,y3]∧us.length≤i*30∧(∀ w,w∈us↔∃ x z:Pl,w= [x,z]∧x∈ps.take i∧z∈ps∧B x z)∧M'=aA M7 b (.lst (us.map tD))) _ ?_ ?_ ⟨[],_,_,_,rfl,Nat.zero_le _,fun w=>⟨(fun z=>by cases z),(fun ⟨x,z,_,hx,_⟩=>by cases hx)⟩,rfl⟩
   ·rintro i v ρ M' N qO ⟨us,y1,y2,y3,rfl,hl,hmem,rfl⟩ hN
    obtain ⟨x,hx,rfl⟩:=fq qO
    have mx:=List.mem_of_getElem? hx
    have li:i < ps.length:=(List.getElem?_eq_some_iff.mp hx).1
    refine ⟨ai hM hb,?_⟩
    walk_at "rd"
    refine ⟨l,_,rfl,ai hM hb,?_⟩
    refine aF (fun j ρ M'=> ∃ (vs:List (List Pl)) (y2 y3:Option L3.D),ρ= [some (.ref l),some (.ref c),some (.ref p),some (.ref a),some (.ref b),some x.d,y2,y3]∧vs.length≤i*30+j∧(∀ w,w∈vs↔(w∈us∨∃ z:Pl,w= [x,z]∧z∈ps.take j∧B x z))∧M'=aA M7 b (.lst (vs.map tD))) _ ?_ ?_ ⟨us,_,_,rfl,by omega,fun w=>⟨Or.inl,(fun z=>z.elim id fun ⟨z,_,hz,_⟩=>by cases hz)⟩,rfl⟩
    ·rintro j v ρ M' N2 hz0 ⟨vs,y2,y3,rfl,hl2,xM,rfl⟩ pP
     obtain ⟨z,hz,rfl⟩:=fq hz0
     have mz:=List.mem_of_getElem? hz
     have lj:j < ps.length:=(List.getElem?_eq_some_iff.mp hz).1
     have IJ:aA M7 b (.lst (vs.map tD)) p=some (.lst (ws.map tD)):=ai hP hb
     refine ⟨ai hM hb,?_⟩
     have AW:aA M7 b (.lst (vs.map tD)) l=some (.lst (ps.map Pl.d)):=ai hM hb
     have hB2:aA M7 b (.lst (vs.map tD)) b=some (.lst (vs.map tD)):=ah
     have next:∀ o:Option L3.D,¬ B x z→N2 [some (.ref l),some (.ref c),some (.ref p),some (.ref a),some (.ref b),some x.d,some z.d,o] (aA M7 b (.lst (vs.map tD))):=fun o hn=>pP _ _ ⟨vs,_,_,rfl,by omega,fun w=>by
      rw [xM w]
      refine or_congr Iff.rfl ⟨fun ⟨y,e,hy,Ib⟩=>⟨y,e,rM hy,Ib⟩,fun ⟨y,e,hy,Ib⟩=>⟨y,e,?_,Ib⟩⟩
      rw [List.take_succ,hz] at hy
      rcases List.mem_append.mp hy with hy | hy
      ·exact hy
      ·rw [List.mem_singleton.mp hy] at Ib
       exact absurd Ib hn,rfl⟩
     have put:∀ o:Option L3.D,B x z→N2 [some (.ref l),some (.ref c),some (.ref p),some (.ref a),some (.ref b),some x.d,some z.d,o] (aA M7 b (.lst ((vs ++ [[x,z]]).map tD))):=fun o hn=>pP _ _ ⟨vs ++ [[x,z]],_,_,rfl,by rw [List.length_append,List.length_singleton];omega,fun w=>by
      rw [List.mem_append,List.mem_singleton,xM w]
      constructor
      ·rintro ((k | ⟨y,e,hy,Ib⟩) | k)
       ·exact .inl k
       ·exact .inr ⟨y,e,rM hy,Ib⟩
       ·exact .inr ⟨z,k,xK hz,hn⟩
      ·rintro (k | ⟨y,e,hy,Ib⟩)
       ·exact .inl (.inl k)
       ·rw [List.take_succ,hz] at hy
        rcases List.mem_append.mp hy with hy | hy
        ·exact .inl (.inr ⟨y,e,hy,Ib⟩)
        ·rw [List.mem_singleton.mp hy] at e
         exact .inr e,rfl⟩
     generalize J3:aA M7 b (.lst (vs.map tD))=M8 at IJ AW hB2 next ⊢
     have pw:∀ u v:Pl,plain 9 (.tup [u.d,v.d])=true:=fun u v=>o8 [u,v]
     have ei:∀ u v:Pl,inD (.tup [u.d,v.d]) (ws.map tD)=decide ([u,v]∈ws):=fun u v=>qG [u,v] ws
     walk_at "rd"
     refine ⟨_,.inr ⟨p,rfl,IJ⟩,pw _ _,bq ws,?_⟩
     walk_at "rd"
     rw [ei,if_pos rfl]
     cases c1:decide ([z,x]∈ws) with
     | true=>
       have c1:=of_decide_eq_true c1
       walk_at "rd"
       refine ⟨_,.inr ⟨p,rfl,IJ⟩,pw _ _,bq ws,?_⟩
       walk_at "rd"
       rw [ei,if_pos rfl]
       cases c2:decide ([x,z]∈ws) with
       | true=>
         have c2:=of_decide_eq_true c2
         walk_at "rd"
         exact next _ fun k=>((Nt x z).mp k).elim (fun k=>k.1.1 c1) fun k=>k.1 c2
       | false=>
         have c2:=of_decide_eq_false c2
         have key:B x z↔(x≠z∧Dh x z ps):=by
          rw [Nt]
          exact ⟨fun k=>k.elim (fun k=>absurd k.1.2 c2) fun k=>k.2,fun k=> .inr ⟨c2,k⟩⟩
         walk_at "rd"
         refine ⟨_,.inr ⟨p,rfl,IJ⟩,pw _ _,bq ws,?_⟩
         rw [ei,if_neg (by decide),decide_eq_false c2]
         walk_at "rd"
         refine ⟨x,z,l,ps,rfl,AW,ho x mx,ho z mz,ho,fun r hr2=>?_⟩
         walk_at "rd"
         cases r with
         | false=>
           walk_at "rd"
           exact next _ fun z=>absurd (hr2.mpr (key.mp z)) (by decide)
         | true=>
           have yes:=put (some (.bl false)) (key.mpr (hr2.mp rfl))
           walk_at "rd"
           refine ⟨⟨b,_,rfl,hB2⟩,?_⟩
           walk_at "rd"
           refine ⟨b,_,rfl,hB2,by rw [List.length_map];omega,?_⟩
           rw [← J3,iT]
           rw [List.map_append] at yes
           exact yes
     | false=>
       have c1:=of_decide_eq_false c1
       walk_at "rd"
       refine ⟨_,.inr ⟨p,rfl,IJ⟩,pw _ _,bq ws,?_⟩
       rw [ei,if_neg (by decide)]
       cases c2:decide ([x,z]∈ws) with
       | true=>
         have c2:=of_decide_eq_true c2
         have key:B x z↔¬ (x≠z∧Dh x z ps):=by
          rw [Nt]
          exact ⟨fun k=>k.elim (fun k=>k.2) fun k=>absurd c2 k.1,fun k=> .inl ⟨⟨c1,c2⟩,k⟩⟩
         walk_at "rd"
         refine ⟨_,.inr ⟨p,rfl,IJ⟩,pw _ _,bq ws,?_⟩
         rw [ei,if_neg (by decide),decide_eq_true c2]
         walk_at "rd"
         refine ⟨x,z,l,ps,rfl,AW,ho x mx,ho z mz,ho,fun r hr2=>?_⟩
         walk_at "rd"
         cases r with
         | true=>
           walk_at "rd"
           exact next _ fun z=>key.mp z (hr2.mp rfl)
         | false=>
           have yes:=put (some (.bl true)) (key.mpr fun z=>absurd (hr2.mpr z) (by decide))
           walk_at "rd"
           refine ⟨⟨b,_,rfl,hB2⟩,?_⟩
           walk_at "rd"
           refine ⟨b,_,rfl,hB2,by rw [List.length_map];omega,?_⟩
           rw [← J3,iT]
           rw [List.map_append] at yes
           exact yes
       | false=>
         have c2:=of_decide_eq_false c2
         have key:B x z↔(x≠z∧Dh x z ps):=by
          rw [Nt]
          exact ⟨fun k=>k.elim (fun k=>absurd k.1.2 c2) fun k=>k.2,fun k=> .inr ⟨c2,k⟩⟩
         walk_at "rd"
         refine ⟨_,.inr ⟨p,rfl,IJ⟩,pw _ _,bq ws,?_⟩
         walk_at "rd"
         rw [ei,if_pos rfl,decide_eq_false c2]
         walk_at "rd"
         refine ⟨_,.inr ⟨p,rfl,IJ⟩,pw _ _,bq ws,?_⟩
         rw [ei,if_neg (by decide),decide_eq_false c2]
         walk_at "rd"
         refine ⟨x,z,l,ps,rfl,AW,ho x mx,ho z mz,ho,fun r hr2=>?_⟩
         walk_at "rd"
         cases r with
         | false=>
           walk_at "rd"
           exact next _ fun z=>absurd (hr2.mpr (key.mp z)) (by decide)
         | true=>
           have yes:=put (some (.bl false)) (key.mpr (hr2.mp rfl))
           walk_at "rd"
           refine ⟨⟨b,_,rfl,hB2⟩,?_⟩
           walk_at "rd"
           refine ⟨b,_,rfl,hB2,by rw [List.length_map];omega,?_⟩
           rw [← J3,iT]
           rw [List.map_append] at yes
           exact yes
    ·rintro ρ M' ⟨vs,y2,y3,rfl,hl2,xM,rfl⟩
     rw [List.length_map] at hl2 xM
     rw [List.take_length] at xM
     refine ⟨ai hM hb,hN _ _ ⟨vs,_,_,_,rfl,by omega,fun w=>?_,rfl⟩⟩
     rw [xM w,hmem w]
     constructor
     ·rintro (⟨u,v,e,eL,hv,hB⟩ | ⟨v,e,hv,hB⟩)
      ·exact ⟨u,v,e,rM eL,hv,hB⟩
      ·exact ⟨x,v,e,xK hx,hv,hB⟩
     ·rintro ⟨u,v,e,eL,hv,hB⟩
      rw [List.take_succ,hx] at eL
      rcases List.mem_append.mp eL with eL | eL
      ·exact .inl ⟨u,v,e,eL,hv,hB⟩
      ·rw [List.mem_singleton.mp eL] at e hB
       exact .inr ⟨v,e,hv,hB⟩
   ·rintro ρ M' ⟨us,y1,y2,y3,rfl,hl,hmem,rfl⟩
    rw [List.length_map,List.take_length] at hmem
    have hmem:∀ w,w∈us↔Cw ps ws w:=fun w=>(hmem w).trans (Q3 w).symm
    obtain ⟨m0,m1⟩:=ym hmem
    refine ⟨ai hM hb,?_⟩
    have le:=le.trans (Le.new (o:=MO.lst (us.map tD)) hb)
    have hB:aA M7 b (.lst (us.map tD)) b=some (.lst (us.map tD)):=ah
    generalize aA M7 b (.lst (us.map tD))=M8 at hB le ⊢
    walk_at "rd"
    intro e2 zb
    refine ⟨_,_,.of (ai hB zb),.of ah,bq _,rfl,?_⟩
    rw [fY]
    have le:=le.trans (Le.new (o:=MO.lst []) zb)
    have hB:=ai (u:=MO.lst []) hB zb
    generalize aA M8 e2 (.lst [])=M9 at hB le ⊢
    cases e3:us with
    | nil=>
      walk_at "rd"
      exact aI.mk ⟨M,le,h none ⟨none,none,hd,fun _ _=>m0 e3,(fun w hw=>by cases hw),fun _ _=>rfl,fun _ _=>rfl⟩⟩
    | cons u0 ur=>
      rw [← e3]
      have en:(us.map tD).isEmpty=false:=by rw [e3];rfl
      rw [en]
      walk_at "rd"
      refine ⟨b,us,rfl,hB,fun t ht=>?_,by rw [e3];simp,fun m mm lm=>?_⟩
      ·obtain ⟨u,v,e,_⟩:=(hmem t).mp ht
       rw [e]
       rfl
      walk_at "rd"
      exact aI.mk ⟨M,le,h (some (.bare m)) ⟨none,some m,hd,fun _ _=>m1 m mm lm,(fun w hw=>by cases hw),fun _ z=>absurd z fl,fun _ _=>rfl⟩⟩
theorem vp (T:Txt K mg t):Binds K t.jj ["_law_a","_law_b","_law_c","_law_d"] []:=T.kC.binds fun _ _ _ _ _ _ us hl=>match us,hl with | [_,_,_,_],_=>rfl
def wF:sW:=fun ds Q=> ∃ a b c d:Pl,ds= [a.d,b.d,c.d,d.d]∧a.Ok 140∧b.Ok 140∧c.Ok 140∧d.Ok 140∧Q (.int (dep a b c d*tw a b c))
theorem vq (T:Txt K mg t):bP P w K mg base dZ 2 t.kg t.jj ["_law_a","_law_b","_law_c","_law_d"] (rY K wF):=by
 refine wW T.kC ju (fun ds Q h=>by (first | (obtain ⟨_,rfl,_⟩:=h;rfl) | (obtain ⟨_,_,rfl,_⟩:=h;rfl) | (obtain ⟨_,_,_,rfl,_⟩:=h;rfl) | (obtain ⟨_,_,_,_,rfl,_⟩:=h;rfl) | (obtain ⟨_,_,_,_,_,rfl,_⟩:=h;rfl) | (obtain ⟨_,_,_,_,_,_,rfl,_⟩:=h;rfl) | (obtain ⟨_,_,_,_,_,_,_,rfl,_⟩:=h;rfl))) (fun cdv A outer s H hr=>?_)
 have hu:=hr.units
 refine ⟨_,(ao (A0 (j:=4) (iB (ys:=["_law_d"]) (fs:=[3]) rfl (by show b8 (au gF) ["_law_a","_law_b","_law_c","_law_d","_law_high","_law_found"] _ _ _ _=true;decide +kernel) (bN (af (aa 0) (af (aa 1) (af (aa 2) ak)))) (fun cl C s0 H0 ex=>t6) (fun cl C s0 H0 ex=>(aq cC (aq cZ (aq cO (aJ (aa 0) aj) (aJ (aa 1) aj)) (aq cO (aJ (aa 0) aj) (aJ (aa 1) aj))) (aq cZ (aq cO (aJ (aa 0) aj) (aJ (aa 1) aj)) (aq cO (aJ (aa 0) aj) (aJ (aa 1) aj)))))) ju.nd rfl (Or.inl rfl))
  (ao (aM (i:=5) ju.nd rfl (Or.inl rfl) (aq cC (aq cC (aq cZ (aJ (aa 4) aj) (aE (bE T) (hr.mono (by decide)) (by rfl) T.bT T.bu.kp (bD T) (af (aa 3) (af (aa 1) (af (aa 2) ak))))) (aq cZ (aJ (aa 4) aj) (aE (bE T) (hr.mono (by decide)) (by rfl) T.bT T.bu.kp (bD T) (af (aa 3) (af (aa 2) (af (aa 0) ak)))))) (aq cZ (aJ (aa 4) aj) (aE (bE T) (hr.mono (by decide)) (by rfl) T.bT T.bu.kp (bD T) (af (aa 3) (af (aa 0) (af (aa 1) ak)))))))
  (ay (aC (aq cZ (aa 5) (aE (bE T) (hr.mono (by decide)) (by rfl) T.bT T.bu.kp (bD T) (af (aa 0) (af (aa 1) (af (aa 2) ak))))))))),fun ds Q h=>?_⟩
 obtain ⟨a,b,c,d,rfl,ha,hb,hc,hd,h⟩:=h
 walk_at "rd"
 intro p hp
 refine ⟨p,_,rfl,ah,by show 3 < sizeLine;decide,aI.mk (bR (fun i acc M4=>M4 p=some (.lst ([a,b,c].map Pl.d))∧acc=(([a,b,c].take i).map (fun q=>qm d q)).map L3.D.int) _ ?_ ?_ ⟨ah,rfl⟩)⟩
 ·rintro i x acc M4 N hx ⟨hP,rfl⟩ hN
  obtain ⟨q,hq,rfl⟩:=fq (ps:=[a,b,c]) hx
  have oq:q.Ok 140:=by
   have mq:=List.mem_of_getElem? hq
   simp only [List.mem_cons,List.not_mem_nil,or_false] at mq
   rcases mq with rfl | rfl | rfl
   ·exact ha
   ·exact hb
   ·exact hc
  obtain ⟨q1,q2⟩:=oq
  obtain ⟨d1,d2⟩:=id hd
  refine ⟨hP,?_⟩
  walk_at "rd"
  refine hN _ _ ⟨hP,?_⟩
  rw [List.take_succ,hq,List.map_append,List.map_append]
  have ea:qm d q=(q.x - d.x)*(q.x - d.x)+(q.y - d.y)*(q.y - d.y):=by unfold qm;rfl
  show _=_ ++ [L3.D.int (qm d q)]
  rw [ea]
 rintro acc M4 ⟨hP,hacc⟩
 have hacc:acc= [qm d a,qm d b,qm d c].map L3.D.int:=hacc
 subst hacc
 refine ⟨hP,fun u eL=>?_⟩
 have hU:aA M4 u (.lst ([qm d a,qm d b,qm d c].map L3.D.int)) u=some (.lst ([qm d a,qm d b,qm d c].map L3.D.int)):=ah
 generalize aA M4 u (.lst ([qm d a,qm d b,qm d c].map L3.D.int))=M5 at hU ⊢
 have sa:∀ q:Pl,q.Ok 140→Sm 290 (qm d q):=fun q oq=>by
  obtain ⟨q1,q2⟩:=oq
  obtain ⟨d1,d2⟩:=id hd
  unfold qm
  walk_at "smle"
 have s1:=sa a ha
 have s2:=sa b hb
 have s3:=sa c hc
 have t1:=nQ hd hb hc
 have t2:=nQ hd hc ha
 have t3:=nQ hd ha hb
 have t4:=nQ ha hb hc
 unfold dep at h
 generalize qm d a=A1 at *
 generalize qm d b=A2 at *
 generalize qm d c=A3 at *
 walk_at "rd"
 refine ⟨_,_,_,.inr (.inr ⟨u,rfl,hU⟩),rfl,br (j:=0) rfl,?_⟩
 walk_at "rd"
 refine ⟨hd,hb,hc,?_⟩
 walk_at "rd"
 refine ⟨_,_,_,.inr (.inr ⟨u,rfl,hU⟩),rfl,br (j:=1) rfl,?_⟩
 walk_at "rd"
 refine ⟨hd,hc,ha,?_⟩
 walk_at "rd"
 refine ⟨_,_,_,.inr (.inr ⟨u,rfl,hU⟩),rfl,br (j:=2) rfl,?_⟩
 walk_at "rd"
 refine ⟨hd,ha,hb,?_⟩
 walk_at "rd"
 refine ⟨ha,hb,hc,?_⟩
 walk_at "rd"
 exact h
theorem vt (T:Txt K mg t):Binds K t.jk ["_law_t","_law_d"] []:=T.kE.binds fun _ _ _ _ _ _ us hl=>match us,hl with | [_,_],_=>rfl
def wG:sW:=fun ds Q=> ∃ u v w d:Pl,ds= [tD [u,v,w],d.d]∧u.Ok 140∧v.Ok 140∧w.Ok 140∧d.Ok 140∧tw u v w≠0∧∀ r:Bool,(r=true↔pq u v w d)→Q (.bl r)
theorem Dy {a b c d:Pl} (hn:tw a b c≠0) (s1:¬ aT b a) (s2:¬ aT c a):pq a b c d↔(if dep a b c d*tw a b c≠0∨(d=a∨d=b∨d=c) then 0 < dep a b c d*tw a b c else aT d a∨tw b c a*tw b c d < 0):=by
 by_cases h0:dep a b c d=0
 ·rw [h0,Int.zero_mul]
  by_cases hd:d=a∨d=b∨d=c
  ·rw [if_pos (.inr hd)]
   have:=Cc h0
   constructor
   ·rintro (k | ⟨_,n1,n2,n3,_⟩)
    ·omega
    ·rcases hd with e | e | e
     ·exact absurd e n1
     ·exact absurd e n2
     ·exact absurd e n3
   ·intro k;omega
  ·rw [if_neg (by simp [hd])]
   have e:=xj hn (Cc h0) hd (.refl _) s1 s2
   have nz:tw b c d≠0:=fun z=>by
    rcases Hl hn h0 z with e | e
    ·exact hd (.inr (.inl e))
    ·exact hd (.inr (.inr e))
   have na:tw b c a≠0:=by rw [gu];exact hn
   rw [← decide_eq_true_iff (p:=pq a b c d),e]
   by_cases k:aT d a
   ·simp [k]
   ·rw [if_neg k,decide_eq_true_iff]
    generalize tw b c d=X at *
    generalize tw b c a=Y at *
    rcases dU X with ⟨x1,x2⟩ | ⟨x1,x2⟩ | ⟨x1,x2⟩
    ·rcases dU Y with ⟨y1,y2⟩ | ⟨y1,y2⟩ | ⟨y1,y2⟩
     ·have:=Int.mul_pos_of_neg_of_neg y1 x1
      rw [x2,y2]
      simp [k]
      omega
     ·exact absurd y1 na
     ·have:=Int.mul_neg_of_pos_of_neg y1 x1
      rw [x2,y2]
      simp [k]
      omega
    ·exact absurd x1 nz
    ·rcases dU Y with ⟨y1,y2⟩ | ⟨y1,y2⟩ | ⟨y1,y2⟩
     ·have:=Int.mul_neg_of_neg_of_pos y1 x1
      rw [x2,y2]
      simp [k]
      omega
     ·exact absurd y1 na
     ·have:=Int.mul_pos y1 x1
      rw [x2,y2]
      simp [k]
      omega
 ·have np:dep a b c d*tw a b c≠0:=fun z=>by
   rcases Int.mul_eq_zero.mp z with z | z
   ·exact h0 z
   ·exact hn z
  rw [if_pos (.inl np),GR hn h0]
  unfold rg
  generalize dep a b c d=X at *
  generalize tw a b c=Y at *
  rcases dU X with ⟨x1,x2⟩ | ⟨x1,x2⟩ | ⟨x1,x2⟩
  ·rcases dU Y with ⟨y1,y2⟩ | ⟨y1,y2⟩ | ⟨y1,y2⟩
   ·have:=Int.mul_pos_of_neg_of_neg x1 y1
    rw [x2,y2]
    simp
    omega
   ·exact absurd y1 hn
   ·have:=Int.mul_neg_of_neg_of_pos x1 y1
    rw [x2,y2]
    simp
    omega
  ·exact absurd x1 h0
  ·rcases dU Y with ⟨y1,y2⟩ | ⟨y1,y2⟩ | ⟨y1,y2⟩
   ·have:=Int.mul_neg_of_pos_of_neg x1 y1
    rw [x2,y2]
    simp
    omega
   ·exact absurd y1 hn
   ·have:=Int.mul_pos x1 y1
    rw [x2,y2]
    simp
    omega
theorem BO {a b c u v w:Pl} (h: [a,b,c].Perm [u,v,w]) (hn:tw u v w≠0):tw a b c≠0:=by
 have e1:=gu u v w
 have e2:=gu v w u
 have e3:=dN u v w
 have e4:=iW u v w
 have e5:=dN v w u
 have e6:=dN w u v
 rcases tU h with ⟨rfl,rfl,rfl⟩ | ⟨rfl,rfl,rfl⟩ | ⟨rfl,rfl,rfl⟩ | ⟨rfl,rfl,rfl⟩ | ⟨rfl,rfl,rfl⟩ | ⟨rfl,rfl,rfl⟩ <;> omega
theorem vv (T:Txt K mg t):bP P w K mg base dZ 3 t.kh t.jk ["_law_t","_law_d"] (rY K wG):=by
 refine wW T.kE dY (fun ds Q h=>by (first | (obtain ⟨_,rfl,_⟩:=h;rfl) | (obtain ⟨_,_,rfl,_⟩:=h;rfl) | (obtain ⟨_,_,_,rfl,_⟩:=h;rfl) | (obtain ⟨_,_,_,_,rfl,_⟩:=h;rfl) | (obtain ⟨_,_,_,_,_,rfl,_⟩:=h;rfl) | (obtain ⟨_,_,_,_,_,_,rfl,_⟩:=h;rfl) | (obtain ⟨_,_,_,_,_,_,_,rfl,_⟩:=h;rfl))) (fun cdv A outer s H hr=>?_)
 have hu:=hr.units
 refine ⟨_,(ao (Iv (aK Bj (by rfl) T.dI cy (af (aa 0) ak)) (Ec rfl (iH (bg (i:=2) dY.nd rfl (Or.inl rfl)) (iH (bg (i:=3) dY.nd rfl (Or.inl rfl)) (iH (bg (i:=4) dY.nd rfl (Or.inl rfl)) AS)))))
  (ao (aM (i:=5) dY.nd rfl (Or.inl rfl) (aE (vq T) (hr.mono (by decide)) (by rfl) T.vU T.kC.kp (vp T) (af (aa 2) (af (aa 3) (af (aa 4) (af (aa 1) ak))))))
  (ao (aZ (nK.pt (qg (aD (kP hu) (aa 5) aj (az _)) (kK (aD (D8 hu) (aa 1) (aa 0) (by with_unfolding_all rfl))))) (ay (aC (dG AO (aa 5) aj (az _)))) aN)
  (ay (aC (OJ (dG (jy hu) (aa 1) (aa 2) (az _)) (m7 (dG (jy hu) (aq cZ (aE (bE T) (hr.mono (by decide)) (by rfl) T.bT T.bu.kp (bD T) (af (aa 3) (af (aa 4) (af (aa 2) ak)))) (aE (bE T) (hr.mono (by decide)) (by rfl) T.bT T.bu.kp (bD T) (af (aa 3) (af (aa 4) (af (aa 1) ak))))) aj (az _))))))))),fun ds Q h=>?_⟩
 obtain ⟨u,v,w',d,rfl,hu1,hv1,hw1,hd,hn,h⟩:=h
 refine ⟨_,rfl,?_⟩
 refine ⟨[u,v,w'],rfl,by show 3 < 64;decide,fun p qs hp bF dP=>?_⟩
 obtain ⟨a,b,c,rfl⟩:=nR bF.length_eq
 obtain ⟨oa,ob,oc⟩:=tW bF hu1 hv1 hw1
 have nz:=BO bF hn
 have s1:¬ aT b a:=(List.pairwise_cons.mp dP).1 b (by simp)
 have s2:¬ aT c a:=(List.pairwise_cons.mp dP).1 c (by simp)
 have key:=(zL (d:=d) bF).symm.trans (Dy nz s1 s2)
 have hin:(d=u∨d=v∨d=w')↔(d=a∨d=b∨d=c):=by
  have:=bF.mem_iff (a:=d)
  simp only [List.mem_cons,List.not_mem_nil,or_false] at this
  exact this.symm
 refine ⟨_,.inr ⟨p,rfl,ah⟩,rfl,?_⟩
 walk_at "rd"
 refine ⟨oa,ob,oc,hd,?_⟩
 walk_at "rd"
 rw [iX]
 have t1:=nQ ob oc oa
 have t2:=nQ ob oc hd
 refine aR (fun k=>?_) (fun k=>?_)
 ·have k:dep a b c d*tw a b c≠0:=of_decide_eq_true k
  rw [if_pos (.inl k)] at key
  walk_at "rd"
  refine h _ ?_
  rw [key,decide_eq_true_iff]
 ·have k:¬ dep a b c d*tw a b c≠0:=fun z=>k (decide_eq_true z)
  refine ⟨_,rfl,?_⟩
  refine ⟨_,rfl,?_⟩
  refine ⟨_,Or.inl rfl,rfl,rfl,?_⟩
  walk_at "rd"
  rw [iJ]
  refine aR (fun k2=>?_) (fun k2=>?_)
  ·have k2:d∈[u,v,w']:=of_decide_eq_true k2
   simp only [List.mem_cons,List.not_mem_nil,or_false] at k2
   rw [if_pos (.inr (hin.mp k2))] at key
   walk_at "rd"
   refine h _ ?_
   rw [key,decide_eq_true_iff]
  ·have k2:¬ d∈[u,v,w']:=fun z=>k2 (decide_eq_true z)
   simp only [List.mem_cons,List.not_mem_nil,or_false] at k2
   rw [if_neg (fun z=>z.elim k (fun z=>k2 (hin.mpr z)))] at key
   walk_at "rd"
   rw [cM]
   cases c1:decide (aT d a) with
   | true=>
     walk_at "rd"
     exact h true ⟨fun _=>key.mpr (.inl (of_decide_eq_true c1)),fun _=>rfl⟩
   | false=>
     walk_at "rd"
     refine ⟨ob,oc,oa,?_⟩
     walk_at "rd"
     refine ⟨ob,oc,hd,?_⟩
     walk_at "rd"
     refine h _ ?_
     rw [key,decide_eq_true_iff]
     exact ⟨.inr,fun z=>z.resolve_left (of_decide_eq_false c1)⟩
theorem pF (T:Txt K mg t):Binds K t.eV ["_law_places_here","_law_triples"] []:=T.fF.binds fun _ _ _ _ _ _ us hl=>match us,hl with | [_,_],_=>rfl
def qc:m9:=fun ds M Q=> ∃ l c:Addr,ds= [.ref l,.ref c]∧∃ (ps:List Pl) (ts:List (List Pl)),M l=some (.lst (ps.map Pl.d))∧M c=some (.lst (ts.map tD))∧(∀ t∈ts,Tr t∧kT t)∧ts.length≤200∧ps.length < 64∧(∀ q∈ps,q.Ok 140)∧∀ r:Option Flt,Kz ps ts r→Q (fD r) M
theorem pG (T:Txt K mg t):bP P w K mg base dZ 4 t.fE t.eV ["_law_places_here","_law_triples"] (nv K qc):=by
 refine pJ T.fF cW (fun ds M Q h=>by (first | (obtain ⟨_,rfl,_⟩:=h;rfl) | (obtain ⟨_,_,rfl,_⟩:=h;rfl) | (obtain ⟨_,_,_,rfl,_⟩:=h;rfl) | (obtain ⟨_,_,_,_,rfl,_⟩:=h;rfl) | (obtain ⟨_,_,_,_,_,rfl,_⟩:=h;rfl) | (obtain ⟨_,_,_,_,_,_,rfl,_⟩:=h;rfl) | (obtain ⟨_,_,_,_,_,_,_,rfl,_⟩:=h;rfl))) (fun cdv A outer s H hr=>?_)
 have hu:=hr.units
 refine ⟨_,(ao (A0 (j:=2) (J9 (ys:=["_law_triples"]) (fs:=[1]) rfl (by show nU (au di) ["_law_places_here","_law_triples","_law_unused","_law_t","_law_d"] _ _ _ _=true;decide +kernel) (aa 0) (fun cl C s0 H0 ex=>nc (aD (dj hu) (aK cU (by rfl) T.cj aQ (af (rZ (iB (ys:=["_law_p"]) (fs:=[0]) rfl (by kernel_rfl) (aa 1) (fun cl C s0 H0 ex=>nc (aD (D8 hu) (aa 1) (aa 0) (by with_unfolding_all rfl))) (fun cl C s0 H0 ex=>(aa 0)))) ak)) aj (az _))) (fun cl C s0 H0 ex=>(aa 0))) cW.nd rfl (Or.inl rfl))
  (ao (aZ (nK.pt (kL (aD (qZ hu) (aa 2) (bN ak) (az _)) (gU (k_not (fW (bf (lC T) (hr.mono (by decide)) (by rfl) T.nj T.fj.kp (k9 T) (af (aa 0) ak))))))) (ay (aC (aY (af m6 (af (aK (Be hu rfl) (by rfl) T.gE c6 (af (aa 2) ak)) ak))))) aN)
  (ao (eS PassesOwn.never rfl (aa 1) (bg (i:=3) cW.nd rfl (Or.inl rfl)) (ay (eS PassesOwn.never rfl (aK kQ (by rfl) T.dI cy (af (aa 0) ak)) (bg (i:=4) cW.nd rfl (Or.inl rfl)) (ay (aZ (fW (aE (vv T) (hr.mono (by decide)) (by rfl) T.vV T.kE.kp (vt T) (af (aa 3) (af (aa 4) ak)))) (ay (aC (aY (af m6 (af (aa 3) (af (aa 4) ak)))))) aN)))))
  (ay (aC cG))))),fun ds M Q h=>?_⟩
 obtain ⟨l,c,rfl,ps,ts,hM,hC,hts,Az,h64,ho,h⟩:=h
 have sl:(1000:Nat) < sizeLine:=by decide
 walk_at "rd"
 refine ⟨l,_,rfl,hM,by rw [List.length_map];omega,aI.mk (bR (fun i acc M4=>Le M M4∧M4 l=some (.lst (ps.map Pl.d))∧M4 c=some (.lst (ts.map tD))∧acc=((ps.take i).filter (fun q=>decide (∀ t∈ts,q∉t))).map Pl.d) _ ?_ ?_ ⟨Le.refl _,hM,hC,rfl⟩)⟩
 ·rintro i d acc M4 N hx ⟨le,hM,hC,rfl⟩ hN
  obtain ⟨q,hq,rfl⟩:=fq hx
  refine ⟨hM,?_⟩
  walk_at "rd"
  refine ⟨c,_,rfl,hC,by rw [List.length_map];omega,aI.mk (bR (fun j KU M5=>M5=M4∧KU=((ts.take j).filter (fun t=>decide (q∈t))).map tD) _ ?_ ?_ ⟨rfl,rfl⟩)⟩
  ·rintro j d KU M5 N2 mY ⟨rfl,rfl⟩ pP
   obtain ⟨t,ht,rfl⟩:=c8 mY
   refine ⟨hC,?_⟩
   refine ⟨_,rfl,?_⟩
   refine ⟨_,rfl,?_⟩
   refine ⟨_,Or.inl rfl,rfl,bH t,?_⟩
   walk_at "rd"
   rw [iJ]
   refine aR (fun k=>?_) (fun k=>?_)
   ·have k:decide (q∈t)=true:=k
    walk_at "rd"
    refine pP _ _ ⟨rfl,?_⟩
    rw [bO ht,if_pos k,List.map_append]
    rfl
   ·have k:¬ decide (q∈t)=true:=k
    refine pP _ _ ⟨rfl,?_⟩
    rw [bO ht,if_neg k,List.append_nil]
  rintro KU M5 ⟨rfl,rfl⟩
  refine ⟨hC,fun u eL=>?_⟩
  rw [List.length_map,List.take_length]
  have mf:∀ t,t∈ts.filter (fun t=>decide (q∈t))↔(t∈ts∧q∈t):=fun t=>by rw [List.mem_filter];simp
  generalize ts.filter (fun t=>decide (q∈t))=fs at mf ⊢
  walk_at "rd"
  refine ⟨_,_,rfl,.inr (.inr ⟨u,rfl,ah⟩),?_⟩
  rw [List.length_map]
  walk_at "rd"
  rw [bM]
  refine aR (fun k=>?_) (fun k=>?_)
  ·have k:(fs.length:Int)=0:=eq_of_beq k
   have k2:∀ t∈ts,q∉t:=fun t ht Sj=>by
    have:=List.length_pos_of_mem ((mf t).mpr ⟨ht,Sj⟩)
    omega
   walk_at "rd"
   refine hN _ _ ⟨le.trans (Le.new eL),ai hM eL,ai hC eL,?_⟩
   rw [cz hq,if_pos (decide_eq_true k2),List.map_append]
   rfl
  ·have k:fs≠[]:=fun z=>k (by rw [z];rfl)
   obtain ⟨t,ht⟩:=List.exists_mem_of_ne_nil fs k
   have ht:=(mf t).mp ht
   refine hN _ _ ⟨le.trans (Le.new eL),ai hM eL,ai hC eL,?_⟩
   rw [cz hq,if_neg (fun z=>absurd ht.2 (of_decide_eq_true (p:= ∀ t∈ts,q∉t) z t ht.1)),List.append_nil]
 rintro acc M4 ⟨le,hM,hC,rfl⟩
 refine ⟨hM,fun u eL=>?_⟩
 rw [List.length_map,List.take_length]
 have mf:∀ q,q∈ps.filter (fun q=>decide (∀ t∈ts,q∉t))↔HC ps ts q:=fun q=>by unfold HC;rw [List.mem_filter];simp
 generalize ps.filter (fun q=>decide (∀ t∈ts,q∉t))=us at mf ⊢
 obtain ⟨m0,m1⟩:=Cv mf
 have le:=le.trans (Le.new (o:=MO.lst (us.map Pl.d)) eL)
 have hM:=ai (u:=MO.lst (us.map Pl.d)) hM eL
 have hC:=ai (u:=MO.lst (us.map Pl.d)) hC eL
 have hU:aA M4 u (.lst (us.map Pl.d)) u=some (.lst (us.map Pl.d)):=ah
 generalize aA M4 u (.lst (us.map Pl.d))=M5 at hM hC hU le ⊢
 walk_at "rd"
 intro e he
 refine ⟨_,_,.of (ai hU he),.of ah,bH _,rfl,?_⟩
 rw [fY]
 have le:=le.trans (Le.new (o:=MO.lst []) he)
 have hM:=ai (u:=MO.lst []) hM he
 have hC:=ai (u:=MO.lst []) hC he
 have hU:=ai (u:=MO.lst []) hU he
 generalize aA M5 e (.lst [])=M6 at hM hC hU le ⊢
 have fin:∀ lo:Option Pl,rA (HC ps ts) lo→(lo=none∨Flat ps)→∀ sp:Option (List Pl ×Pl),IE ts ps sp→∀ M',Le M M'→aI (∃ M0,Le M0 M'∧Q (fD (match sp with
  | some (t,d)=>some (.rB t d)
  | none=>none)) M0):=fun lo hlo hor sp CS M' le'=>aI.mk ⟨M,le',h _ ⟨lo,sp,hlo,fun _=>CS,fun _=>rfl,fun nf p hp=>by
  rcases hor with z | z
  ·rw [z] at hp;cases hp
  ·exact absurd z nf⟩⟩
 obtain ⟨lo,hlo⟩:∃ lo,rA (HC ps ts) lo:=by
  by_cases hz:us= []
  ·exact ⟨none,m0 hz⟩
  ·obtain ⟨m,mm,lm⟩:=yk us hz
   exact ⟨some m,m1 m mm lm⟩
 cases es:us with
 | nil=>
   have hor:lo=none∨Flat ps:=by
    left
    cases lo with
    | none=>rfl
    | some p=>
      have:=(mf p).mpr hlo.1
      rw [es] at this
      cases this
   walk_at "rd"
   walk_at "rd"
   refine ⟨c,_,rfl,hC,?_⟩
   refine aF (fun i ρ M'=>Le M M'∧M' l=some (.lst (ps.map Pl.d))∧M' c=some (.lst (ts.map tD))∧(∃ y1 y2:Option L3.D,ρ= [some (.ref l),some (.ref c),some (.ref u),y1,y2])∧∀ (j:Nat) (v:List Pl),j < i→ts[j]?=some v→¬ ∃ d∈ps,Bq v d) _ ?_ ?_ ⟨le,hM,hC,⟨_,_,rfl⟩,fun j u z=>by omega⟩
   ·rintro i x ρ M' N hx ⟨le,hM,hC,⟨y1,y2,rfl⟩,hf⟩ hN
    obtain ⟨t,ht,rfl⟩:=c8 hx
    obtain ⟨⟨a,b,d,et,oa,ob,oc⟩,Np⟩:=hts t (List.mem_of_getElem? ht)
    subst et
    have nz:tw a b d≠0:=by have:=Np.2;omega
    refine ⟨hC,?_⟩
    walk_at "rd"
    refine ⟨l,ps,rfl,hM,h64,fun s qs hs bF dP=>?_⟩
    have hS:aA M' s (.lst (qs.map Pl.d)) s=some (.lst (qs.map Pl.d)):=ah
    have le:=le.trans (Le.new (o:=MO.lst (qs.map Pl.d)) hs)
    have hM:=ai (u:=MO.lst (qs.map Pl.d)) hM hs
    have hC:=ai (u:=MO.lst (qs.map Pl.d)) hC hs
    generalize aA M' s (.lst (qs.map Pl.d))=M7 at hS le hM hC ⊢
    refine ⟨s,_,rfl,hS,?_⟩
    refine aF (fun j ρ M2=>M2=M7∧(∃ y2:Option L3.D,ρ= [some (.ref l),some (.ref c),some (.ref u),some (tD [a,b,d]),y2])∧∀ q∈qs.take j,¬ pq a b d q) _ ?_ ?_ ⟨rfl,⟨_,rfl⟩,fun q hq=>by cases hq⟩
    ·rintro j x ρ M2 N2 mY ⟨rfl,⟨y2,rfl⟩,hg⟩ pP
     obtain ⟨q,hq,rfl⟩:=fq mY
     have mq:=bF.mem_iff.mp (List.mem_of_getElem? hq)
     refine ⟨hS,?_⟩
     refine ⟨_,rfl,?_⟩
     refine ⟨_,rfl,?_⟩
     refine ⟨a,b,d,q,rfl,oa,ob,oc,ho q mq,nz,fun r hr'=>?_⟩
     walk_at "rd"
     refine aR (fun k=>?_) (fun k=>?_)
     ·have sp:=hr'.mp k
      walk_at "rd"
      refine fin lo hlo hor (some ([a,b,d],q)) ⟨⟨i,ht,⟨q,mq,sp⟩,hf⟩,⟨mq,sp⟩,fun z hz=>?_⟩ _ le
      obtain ⟨m,hm⟩:=List.mem_iff_getElem?.mp (bF.mem_iff.mpr hz.1)
      obtain ⟨hm1,hm2⟩:=List.getElem?_eq_some_iff.mp hm
      obtain ⟨hj1,hj2⟩:=List.getElem?_eq_some_iff.mp hq
      rcases Nat.lt_trichotomy m j with e | e | e
      ·refine absurd hz.2 (hg z ?_)
       rw [List.mem_iff_getElem?]
       exact ⟨m,by rw [List.getElem?_take_of_lt e];exact hm⟩
      ·subst e
       rw [hq] at hm
       cases hm
       exact bL _
      ·have:=List.pairwise_iff_getElem.mp dP j m hj1 hm1 e
       rw [hm2,hj2] at this
       exact this
     ·refine pP _ _ ⟨rfl,⟨_,rfl⟩,fun z hz=>?_⟩
      rw [List.take_succ,hq] at hz
      rcases List.mem_append.mp hz with hz | hz
      ·exact hg z hz
      ·rw [List.mem_singleton.mp hz]
       exact fun y=>k (hr'.mpr y)
    ·rintro ρ M2 ⟨rfl,⟨y2,rfl⟩,hg⟩
     rw [List.length_map,List.take_length] at hg
     refine ⟨hS,hN _ _ ⟨le,hM,hC,⟨_,_,rfl⟩,fun j v hj hv=>?_⟩⟩
     by_cases ej:j=i
     ·subst ej
      rw [ht] at hv
      cases hv
      rintro ⟨q,mq,Nq⟩
      exact hg q (bF.mem_iff.mpr mq) Nq
     ·exact hf j v (by omega) hv
   ·rintro ρ M' ⟨le,hM,hC,⟨y1,y2,rfl⟩,hf⟩
    refine ⟨hC,?_⟩
    walk_at "rd"
    refine fin lo hlo hor none (fun t ht d hd sp=>?_) _ le
    obtain ⟨j,hj⟩:=List.mem_iff_getElem?.mp ht
    exact hf j t (by rw [List.length_map];exact (List.getElem?_eq_some_iff.mp hj).1) hj ⟨d,hd,sp⟩
 | cons s0 sr=>
   rw [← es]
   have hne:us≠[]:=by rw [es];simp
   have en:(us.map Pl.d).isEmpty=false:=by rw [es];rfl
   rw [en]
   walk_at "rd"
   refine ⟨l,ps,rfl,hM,h64,ho,fun r hr'=>?_⟩
   cases r with
   | true=>
     have hor:lo=none∨Flat ps:= .inr (hr'.mp rfl)
     walk_at "rd"
     walk_at "rd"
     refine ⟨c,_,rfl,hC,?_⟩
     refine aF (fun i ρ M'=>Le M M'∧M' l=some (.lst (ps.map Pl.d))∧M' c=some (.lst (ts.map tD))∧(∃ y1 y2:Option L3.D,ρ= [some (.ref l),some (.ref c),some (.ref u),y1,y2])∧∀ (j:Nat) (v:List Pl),j < i→ts[j]?=some v→¬ ∃ d∈ps,Bq v d) _ ?_ ?_ ⟨le,hM,hC,⟨_,_,rfl⟩,fun j u z=>by omega⟩
     ·rintro i x ρ M' N hx ⟨le,hM,hC,⟨y1,y2,rfl⟩,hf⟩ hN
      obtain ⟨t,ht,rfl⟩:=c8 hx
      obtain ⟨⟨a,b,d,et,oa,ob,oc⟩,Np⟩:=hts t (List.mem_of_getElem? ht)
      subst et
      have nz:tw a b d≠0:=by have:=Np.2;omega
      refine ⟨hC,?_⟩
      walk_at "rd"
      refine ⟨l,ps,rfl,hM,h64,fun s qs hs bF dP=>?_⟩
      have hS:aA M' s (.lst (qs.map Pl.d)) s=some (.lst (qs.map Pl.d)):=ah
      have le:=le.trans (Le.new (o:=MO.lst (qs.map Pl.d)) hs)
      have hM:=ai (u:=MO.lst (qs.map Pl.d)) hM hs
      have hC:=ai (u:=MO.lst (qs.map Pl.d)) hC hs
      generalize aA M' s (.lst (qs.map Pl.d))=M7 at hS le hM hC ⊢
      refine ⟨s,_,rfl,hS,?_⟩
      refine aF (fun j ρ M2=>M2=M7∧(∃ y2:Option L3.D,ρ= [some (.ref l),some (.ref c),some (.ref u),some (tD [a,b,d]),y2])∧∀ q∈qs.take j,¬ pq a b d q) _ ?_ ?_ ⟨rfl,⟨_,rfl⟩,fun q hq=>by cases hq⟩
      ·rintro j x ρ M2 N2 mY ⟨rfl,⟨y2,rfl⟩,hg⟩ pP
       obtain ⟨q,hq,rfl⟩:=fq mY
       have mq:=bF.mem_iff.mp (List.mem_of_getElem? hq)
       refine ⟨hS,?_⟩
       refine ⟨_,rfl,?_⟩
       refine ⟨_,rfl,?_⟩
       refine ⟨a,b,d,q,rfl,oa,ob,oc,ho q mq,nz,fun r hr'=>?_⟩
       walk_at "rd"
       refine aR (fun k=>?_) (fun k=>?_)
       ·have sp:=hr'.mp k
        walk_at "rd"
        refine fin lo hlo hor (some ([a,b,d],q)) ⟨⟨i,ht,⟨q,mq,sp⟩,hf⟩,⟨mq,sp⟩,fun z hz=>?_⟩ _ le
        obtain ⟨m,hm⟩:=List.mem_iff_getElem?.mp (bF.mem_iff.mpr hz.1)
        obtain ⟨hm1,hm2⟩:=List.getElem?_eq_some_iff.mp hm
        obtain ⟨hj1,hj2⟩:=List.getElem?_eq_some_iff.mp hq
        rcases Nat.lt_trichotomy m j with e | e | e
        ·refine absurd hz.2 (hg z ?_)
         rw [List.mem_iff_getElem?]
         exact ⟨m,by rw [List.getElem?_take_of_lt e];exact hm⟩
        ·subst e
         rw [hq] at hm
         cases hm
         exact bL _
        ·have:=List.pairwise_iff_getElem.mp dP j m hj1 hm1 e
         rw [hm2,hj2] at this
         exact this
       ·refine pP _ _ ⟨rfl,⟨_,rfl⟩,fun z hz=>?_⟩
        rw [List.take_succ,hq] at hz
        rcases List.mem_append.mp hz with hz | hz
        ·exact hg z hz
        ·rw [List.mem_singleton.mp hz]
         exact fun y=>k (hr'.mpr y)
      ·rintro ρ M2 ⟨rfl,⟨y2,rfl⟩,hg⟩
       rw [List.length_map,List.take_length] at hg
       refine ⟨hS,hN _ _ ⟨le,hM,hC,⟨_,_,rfl⟩,fun j v hj hv=>?_⟩⟩
       by_cases ej:j=i
       ·subst ej
        rw [ht] at hv
        cases hv
        rintro ⟨q,mq,Nq⟩
        exact hg q (bF.mem_iff.mpr mq) Nq
       ·exact hf j v (by omega) hv
     ·rintro ρ M' ⟨le,hM,hC,⟨y1,y2,rfl⟩,hf⟩
      refine ⟨hC,?_⟩
      walk_at "rd"
      refine fin lo hlo hor none (fun t ht d hd sp=>?_) _ le
      obtain ⟨j,hj⟩:=List.mem_iff_getElem?.mp ht
      exact hf j t (by rw [List.length_map];exact (List.getElem?_eq_some_iff.mp hj).1) hj ⟨d,hd,sp⟩
   | false=>
     have nf:¬ Flat ps:=fun z=>absurd (hr'.mpr z) (by decide)
     walk_at "rd"
     refine ⟨u,us,rfl,hU,hne,fun m mm lm=>?_⟩
     walk_at "rd"
     exact aI.mk ⟨M,le,h (some (.nY m)) ⟨some m,none,m1 m mm lm,fun z=>z.elim (fun z=>by cases z) (fun z=>absurd z nf),fun z=>z.elim (fun z=>absurd z nf) (fun z=>by cases z),fun _ p hp=>by cases hp;rfl⟩⟩
theorem wH (T:Txt K mg t):Binds K t.ki ["_law_places_here","_law_triples"] []:=T.mV.binds fun _ _ _ _ _ _ us hl=>match us,hl with | [_,_],_=>rfl
def ze:m9:=fun ds M Q=> ∃ l c:Addr,ds= [.ref l,.ref c]∧∃ (ps:List Pl) (ts:List (List Pl)),M l=some (.lst (ps.map Pl.d))∧M c=some (.lst (ts.map tD))∧(∀ t∈ts,Tr t)∧ts.length≤21∧ps.length < 30∧(∀ q∈ps,q.Ok 140)∧∀ r:Option Flt,(∃ c s p:Option Flt,Ky ps ts c∧(c=none→KA ps ts s)∧(c=none→s=none→Kz ps ts p)∧r=(c.or (s.or p)))→Q (fD r) M
theorem wI (T:Txt K mg t):bP P w K mg base dZ 5 t.mH t.ki ["_law_places_here","_law_triples"] (nv K ze):=by
 refine pJ T.mV gM (fun ds M Q h=>by (first | (obtain ⟨_,rfl,_⟩:=h;rfl) | (obtain ⟨_,_,rfl,_⟩:=h;rfl) | (obtain ⟨_,_,_,rfl,_⟩:=h;rfl) | (obtain ⟨_,_,_,_,rfl,_⟩:=h;rfl) | (obtain ⟨_,_,_,_,_,rfl,_⟩:=h;rfl) | (obtain ⟨_,_,_,_,_,_,rfl,_⟩:=h;rfl) | (obtain ⟨_,_,_,_,_,_,_,rfl,_⟩:=h;rfl))) (fun cdv A outer s H hr=>?_)
 have hu:=hr.units
 refine ⟨_,(ao (aM (i:=2) gM.nd rfl (Or.inl rfl) (bf (oU T) (hr.mono (by decide)) (by rfl) T.pC T.eW.kp (oR T) (af (aa 0) (af (aa 1) ak))))
  (ao (aZ (aD iD (aa 2) cG (az _)) (ay (aM (i:=2) gM.nd rfl (Or.inl rfl) (bf (qb T) (hr.mono (by decide)) (by rfl) T.qK T.gi.kp (qa T) (af (aa 0) (af (aa 1) ak))))) aN)
  (ao (aZ (aD iD (aa 2) cG (az _)) (ay (aM (i:=2) gM.nd rfl (Or.inl rfl) (bf (pG T) (hr.mono (by decide)) (by rfl) T.p9 T.fF.kp (pF T) (af (aa 0) (af (aa 1) ak))))) aN)
  (ay (aC (aa 2)))))),fun ds M Q h=>?_⟩
 obtain ⟨l,c,rfl,ps,ts,hM,hC,hts,Az,h30,ho,h⟩:=h
 walk_at "rd"
 refine ⟨ps,ts,hM,hC,hts,fun r1 hr1=>?_⟩
 cases r1 with
 | some f1=>
   have fin:aI (∃ M0,Le M0 M∧Q (fD (some f1)) M0):=aI.mk ⟨M,Le.refl _,h _ ⟨some f1,none,none,hr1,(fun z=>by cases z),(fun z=>by cases z),rfl⟩⟩
   cases f1 <;> (walk_at "rd";exact fin)
 | none=>
   walk_at "rd"
   refine ⟨ps,ts,hM,hC,hts,Az,h30,ho,fun r2 hr2=>?_⟩
   cases r2 with
   | some f2=>
     have fin:aI (∃ M0,Le M0 M∧Q (fD (some f2)) M0):=aI.mk ⟨M,Le.refl _,h _ ⟨none,some f2,none,hr1,fun _=>hr2,(fun _ z=>by cases z),rfl⟩⟩
     cases f2 <;> (walk_at "rd";exact fin)
   | none=>
     walk_at "rd"
     refine ⟨ps,ts,hM,hC,fun t ht=>⟨hts t ht,?_⟩,by omega,by omega,ho,fun r3 Sk=>?_⟩
     ·obtain ⟨al,fl,h1,h2,h3⟩:=hr1
      cases al with
      | some t=>cases h3
      | none=>
        cases fl with
        | some t=>cases h3
        | none=>exact Classical.byContradiction fun z=>h2 rfl t ht z
     ·have fin:aI (∃ M0,Le M0 M∧Q (fD r3) M0):=aI.mk ⟨M,Le.refl _,h _ ⟨none,none,r3,hr1,fun _=>hr2,fun _ _=>Sk,rfl⟩⟩
      walk_at "rd"
      exact fin
theorem Qh (T:Txt K mg t):Binds K t.BE ["_law_script"] []:=T.IG.binds fun _ _ _ _ _ _ us hl=>match us,hl with | [_],_=>rfl
abbrev FN:=EF
theorem Sl {p:Pl} (h:p.Ok 136):(⟨3*p.x,3*p.y⟩:Pl).Ok 139:=by
 obtain ⟨h1,h2⟩:=h
 have e:(2:Nat) ^ 139=8*2 ^ 136:=by decide
 constructor
 ·show (3*p.x).natAbs < 2 ^ 139
  have:p.x.natAbs < 2 ^ 136:=h1
  omega
 ·show (3*p.y).natAbs < 2 ^ 139
  have:p.y.natAbs < 2 ^ 136:=h2
  omega
theorem Au:∀ {ps:List Pl},ps.Nodup→(ps.map (fun p=>(⟨3*p.x,3*p.y⟩:Pl))).Nodup
 | [],_=> .nil
 | p :: ps,h=>by
   obtain ⟨h1,h2⟩:=List.nodup_cons.mp h
   rw [List.map_cons]
   refine List.nodup_cons.mpr ⟨fun z=>?_,Au h2⟩
   obtain ⟨q,hq,e⟩:=List.mem_map.mp z
   injection e with e1 e2
   have:q=p:=by
    cases q
    cases p
    simp only at e1 e2
    rw [Pl.mk.injEq]
    omega
   exact h1 (this▸hq)
theorem KW (T:Txt K mg t):bP P w K mg base dZ 9 t.Fj t.BE ["_law_script"] (rY K FN):=by
 refine wW T.IG gn (fun ds Q h=>by (first | (obtain ⟨_,rfl,_⟩:=h;rfl) | (obtain ⟨_,_,rfl,_⟩:=h;rfl) | (obtain ⟨_,_,_,rfl,_⟩:=h;rfl) | (obtain ⟨_,_,_,_,rfl,_⟩:=h;rfl) | (obtain ⟨_,_,_,_,_,rfl,_⟩:=h;rfl) | (obtain ⟨_,_,_,_,_,_,rfl,_⟩:=h;rfl) | (obtain ⟨_,_,_,_,_,_,_,rfl,_⟩:=h;rfl))) (fun cdv A outer s H hr=>?_)
 have hu:=hr.units
 refine ⟨_,(ao (aM (i:=1) gn.nd rfl (Or.inl rfl) (bf (uQ T) (hr.mono (by decide)) (by rfl) T.vN T.kj.kp (uP T) (af (aa 0) (af aj ak))))
  (ao (aZ (aD (dj hu) (aq aW (aE (bJ T) (hr.mono (by decide)) (by rfl) T.bV T.bC.kp (bI T) (af (aa 0) (af aj ak))) aj) aj (az _)) (ay (A0 (j:=1) (iB (ys:=[]) (fs:=[]) rfl (by show b8 (au BQ) ["_law_script","_law_places_here","_law_triples","_law_cut","_law_k","_law_other","_law_place_here","_law_handed","_law_found"] _ _ _ _=true;decide +kernel) (aa 1) (fun cl C s0 H0 ex=>t6) (fun cl C s0 H0 ex=>(aY (af (aq cZ aj (aJ (aa 0) aj)) (af (aq cZ aj (aJ (aa 0) aj)) ak))))) gn.nd rfl (Or.inl rfl))) aN)
  (ao (aM (i:=2) gn.nd rfl (Or.inl rfl) (bf (we T) (hr.mono (by decide)) (by rfl) T.yC T.mP.kp (wc T) (af (aa 0) (af aj (af (Cb yc (by rfl) T.dO bY (af (bf (FI T) (hr.mono (by decide)) (by rfl) T.HJ T.yH.kp (FH T) (af (Cb yc (by rfl) T.dO bY (af (aa 1) ak)) ak)) ak)) ak)))))
  (ao (aM (i:=1) gn.nd rfl (Or.inl rfl) (bf (yU T) (hr.mono (by decide)) (by rfl) T.Ah T.oj.kp (yS T) (af (aa 0) (af (aa 1) (af (aa 2) ak)))))
  (ao (aM (i:=3) gn.nd rfl (Or.inl rfl) (aq aW (aE (bJ T) (hr.mono (by decide)) (by rfl) T.bV T.bC.kp (bI T) (af (aa 0) (af aj ak))) (aq cC (aK cU (by rfl) T.cj aQ (af (aa 2) ak)) aj)))
  (ao (aM (i:=2) gn.nd rfl (Or.inl rfl) (aq fJ (c7 (aa 2) (gw (aa 3)) qY) (c7 (aa 2) qY (gw (aa 3)))))
  (ao (iV PassesOwn.never rfl (by rfl) T.dH (af (aq aW (aE (bJ T) (hr.mono (by decide)) (by rfl) T.bV T.bC.kp (bI T) (af (aa 0) (af aj ak))) aj) ak) (bg (i:=4) gn.nd rfl (Or.inl rfl)) (ao (aM (i:=5) gn.nd rfl (Or.inl rfl) (aE (kH T) (hr.mono (by decide)) (by rfl) T.mK T.gc.kp (kG T) (af (aE (bJ T) (hr.mono (by decide)) (by rfl) T.bV T.bC.kp (bI T) (af (aa 0) (af (aq cC aj (aa 4)) ak))) ak)))
  (ao (aM (i:=6) gn.nd rfl (Or.inl rfl) (aa 5))
  (ao (aZ (aD (qZ hu) (aa 1) (bN ak) (az _)) (ay (aM (i:=6) gn.nd rfl (Or.inl rfl) (aJ (aa 1) (aq aW (aE (bJ T) (hr.mono (by decide)) (by rfl) T.bV T.bC.kp (bI T) (af (aa 0) (af (aq cC aj (aa 4)) ak))) (aK cU (by rfl) T.cj aQ (af (aa 1) ak)))))) aN)
  (ay (aM (i:=2) gn.nd rfl (Or.inl rfl) (bf (sL T) (hr.mono (by decide)) (by rfl) T.uM T.jq.kp (sJ T) (af (aa 2) (af (aE (bJ T) (hr.mono (by decide)) (by rfl) T.bV T.bC.kp (bI T) (af (aa 0) (af (aq cC aj (aa 4)) ak))) (af (aa 6) (af (aa 5) ak)))))))))))
  (ao (aM (i:=7) gn.nd rfl (Or.inl rfl) (bN (af (Cb yc (by rfl) T.dO bY (af (aa 1) ak)) (af (Cb yc (by rfl) T.dO bY (af (aa 2) ak)) ak))))
  (ao (aM (i:=8) gn.nd rfl (Or.inl rfl) (bf (FF T) (hr.mono (by decide)) (by rfl) T.HH T.yG.kp (FE T) (af (aJ (aa 7) aj) (af (aJ (aa 7) aj) ak))))
  (ay (aC (iU (dG (Hf hu) (aa 7) (bN (af (aa 1) (af (aa 2) ak))) (az _)) (m7 (bf (wB T) (hr.mono (by decide)) (by rfl) T.gg T.cA.kp (e9 T) (af (aa 8) (af (bf (wI T) (hr.mono (by decide)) (by rfl) T.yI T.mV.kp (wH T) (af (aa 1) (af (aa 2) ak))) ak)))))))))))))))),fun ds Q h=>?_⟩
 obtain ⟨ns,rfl,hl,hb,h⟩:=h
 have sl:(1000:Nat) < sizeLine:=by decide
 walk_at "rd"
 refine ⟨hb,hl,by decide,by decide,fun l ps Uu nd ho hlen=>?_⟩
 have l7:ps.length≤7:=by omega
 have hM:aA LN l (.lst (ps.map Pl.d)) l=some (.lst (ps.map Pl.d)):=ah
 generalize aA LN l (.lst (ps.map Pl.d))=M0 at hM ⊢
 walk_at "rd"
 refine ⟨hb,hl,by decide,by decide,fun Uv _=>?_⟩
 walk_at "rd"
 rw [bM]
 refine aR (fun k=>?_) (fun k=>?_)
 ·walk_at "rd"
  refine ⟨l,_,rfl,hM,by rw [List.length_map];omega,aI.mk (bR (fun j acc M5=>M5=M0∧acc=((ps.take j).map (fun p=>(⟨3*p.x,3*p.y⟩:Pl))).map Pl.d) _ ?_ ?_ ⟨rfl,rfl⟩)⟩
  ·rintro j d acc M5 N2 mY ⟨rfl,rfl⟩ pP
   obtain ⟨p,hp,rfl⟩:=fq mY
   have op:=ho p (List.mem_of_getElem? hp)
   refine ⟨hM,?_⟩
   walk_at "rd"
   refine ⟨⟨2,136,by decide,op.1,by decide⟩,?_⟩
   walk_at "rd"
   refine ⟨⟨2,136,by decide,op.2,by decide⟩,?_⟩
   walk_at "rd"
   refine pP _ _ ⟨rfl,?_⟩
   rw [List.take_succ,hp,List.map_append,List.map_append]
   rfl
  ·rintro acc M5 ⟨rfl,rfl⟩
   refine ⟨hM,fun e he=>?_⟩
   rw [List.length_map,List.take_length]
   have zf:∀ q∈ps.map (fun p=>(⟨3*p.x,3*p.y⟩:Pl)),q.Ok 139:=fun q hq=>by
    obtain ⟨p,hp,rfl⟩:=List.mem_map.mp hq
    exact Sl (ho p hp)
   have nd:(ps.map (fun p=>(⟨3*p.x,3*p.y⟩:Pl))).Nodup:=Au nd
   have l7:(ps.map (fun p=>(⟨3*p.x,3*p.y⟩:Pl))).length≤7:=by rw [List.length_map];exact l7
   clear ho hlen
   generalize ps.map (fun p=>(⟨3*p.x,3*p.y⟩:Pl))=ps' at zf nd l7 ⊢
   clear hM
   have hM:aA M5 e (.lst (ps'.map Pl.d)) e=some (.lst (ps'.map Pl.d)):=ah
   generalize aA M5 e (.lst (ps'.map Pl.d))=M0 at hM ⊢
   revert ps'
   intro ps zf nd l7 hM
   have uS:∀ q∈ps,q.Ok 140:=fun q hq=>⟨(zf q hq).1.le (by decide),(zf q hq).2.le (by decide)⟩
   have sl:(1000:Nat) < sizeLine:=by decide
   walk_at "rd"
   refine ⟨_,_,rfl,.of hM,fun l2 hl2=>?_⟩
   have hL:aA M0 l2 (.lst (ps.map Pl.d)) l2=some (.lst (ps.map Pl.d)):=ah
   have hM:=ai (u:=MO.lst (ps.map Pl.d)) hM hl2
   generalize aA M0 l2 (.lst (ps.map Pl.d))=M1 at hM hL ⊢
   walk_at "rd"
   refine ⟨ps,hL,nd,l7,uS,fun c ts hc hT lt=>?_⟩
   have hC:aA M1 c (.lst (ts.map tD)) c=some (.lst (ts.map tD)):=ah
   have hM:=ai (u:=MO.lst (ts.map tD)) hM hc
   generalize aA M1 c (.lst (ts.map tD))=M2 at hM hC ⊢
   walk_at "rd"
   refine ⟨_,_,rfl,.of hC,fun c2 hc2=>?_⟩
   have KY:aA M2 c2 (.lst (ts.map tD)) c2=some (.lst (ts.map tD)):=ah
   have hM:=ai (u:=MO.lst (ts.map tD)) hM hc2
   generalize aA M2 c2 (.lst (ts.map tD))=M3 at hM KY ⊢
   walk_at "rd"
   refine ⟨hb,hl,by decide,by decide,ps,ts,KY,hT,lt,uS,fun c3 us M4 le hU hTU lU=>?_⟩
   have hM:=le _ _ hM
   walk_at "rd"
   refine ⟨hb,hl,ps,us,hM,hU,nd,zf,l7,hTU,lU,fun q qs M5 HR hQ zk sub oq lq=>?_⟩
   have hU:=HR _ _ hU
   have FZ:∀ t∈us,Tr t:=fun t ht=>(hTU t ht).tr uS
   clear hTU hM KY hL le HR hC
   walk_at "rd"
   refine ⟨hb,hl,by decide,by decide,fun zg _=>?_⟩
   walk_at "rd"
   refine ⟨_,_,rfl,.inr (.inr ⟨c3,rfl,hU⟩),?_⟩
   rw [List.length_map]
   walk_at "rd"
   have c0:0≤zg % ((us.length:Int)+1):=Int.emod_nonneg _ (by omega)
   have c1:zg % ((us.length:Int)+1) < (us.length:Int)+1:=Int.emod_lt_of_pos _ (by omega)
   obtain ⟨m,hm⟩:∃ m:Nat,zg % ((us.length:Int)+1)=(m:Int):=⟨(zg % ((us.length:Int)+1)).toNat,by omega⟩
   have lm:m≤us.length:=by omega
   have f1:cutD (us.map tD) none (some (zg % ((us.length:Int)+1)))=(us.take m).map tD:=by rw [hm];exact gP tD us m lm
   have f2:cutD (us.map tD) (some (zg % ((us.length:Int)+1))) none=(us.drop m).map tD:=by rw [hm];exact iY tD us m lm
   refine ⟨_,.of hU,fun g1 Ay=>?_⟩
   rw [show cutD (us.map tD) (some ((fun i j=>i % j) zg ((fun i j=>i+j) (us.length:Int) 1))) none=(us.drop m).map tD from f2]
   have m1:(us.take m).length=m:=by rw [List.length_take];omega
   have m2:(us.drop m).length=us.length - m:=List.length_drop
   have S1:∀ t∈us.take m,Tr t:=fun t ht=>FZ t (List.mem_of_mem_take ht)
   have S2:∀ t∈us.drop m,Tr t:=fun t ht=>FZ t (List.mem_of_mem_drop ht)
   generalize us.take m=As at *
   generalize us.drop m=Bs at *
   have hU:=ai (u:=MO.lst (Bs.map tD)) hU Ay
   have hQ:=ai (u:=MO.lst (Bs.map tD)) hQ Ay
   have hA:aA M5 g1 (.lst (Bs.map tD)) g1=some (.lst (Bs.map tD)):=ah
   generalize aA M5 g1 (.lst (Bs.map tD))=M6 at hU hQ hA ⊢
   walk_at "rd"
   refine ⟨_,.of hU,fun g2 yV=>?_⟩
   rw [show cutD (us.map tD) none (some ((fun i j=>i % j) zg ((fun i j=>i+j) (us.length:Int) 1)))=As.map tD from f1]
   have hA:=ai (u:=MO.lst (As.map tD)) hA yV
   have hQ:=ai (u:=MO.lst (As.map tD)) hQ yV
   have hB:aA M6 g2 (.lst (As.map tD)) g2=some (.lst (As.map tD)):=ah
   generalize aA M6 g2 (.lst (As.map tD))=M7 at hA hB hQ ⊢
   walk_at "rd"
   refine ⟨g1,g2,_,_,rfl,rfl,hA,hB,by rw [List.length_map,List.length_map];omega,fun g3 CC=>?_⟩
   rw [← List.map_append]
   have Qi:(Bs ++ As).length≤15:=by rw [List.length_append];omega
   have Nu:∀ t∈Bs ++ As,Tr t:=fun t ht=>(List.mem_append.mp ht).elim (S2 t) (S1 t)
   clear hA hB hU f1 f2 S1 S2 m1 m2
   generalize Bs ++ As=vs at Qi Nu ⊢
   have hV:aA M7 g3 (.lst (vs.map tD)) g3=some (.lst (vs.map tD)):=ah
   have hQ:=ai (u:=MO.lst (vs.map tD)) hQ CC
   generalize aA M7 g3 (.lst (vs.map tD))=M8 at hV hQ ⊢
   walk_at "rd"
   refine ⟨hb,hl,by decide,by decide,fun Qj _=>?_⟩
   walk_at "rd"
   obtain ⟨w4,Qk,w0,w3⟩:∃ w4,(fun i j:Int=>i % j) Qj 4=w4∧0≤w4∧w4 < 4:=⟨_,rfl,Int.emod_nonneg _ (by decide),Int.emod_lt_of_pos _ (by decide)⟩
   rw [Qk]
   generalize (fun i j:Int=>i % j) zg ((fun i j:Int=>i+j) (us.length:Int) 1)=cut
   refine ⟨by omega,by omega,?_⟩
   clear FZ hT hc hc2 Ay yV CC c0 c1
   refine aF (fun i ρ M'=> ∃ (a:Addr) (vs:List (List Pl)) (y1 y2 y3 y4 y5:Option L3.D),ρ= [some (.tF (ns.map L3.D.int)),some (.ref q),some (.ref a),some (.int cut),y1,y2,y3,y4,y5]∧M' q=some (.lst (qs.map Pl.d))∧M' a=some (.lst (vs.map tD))∧(∀ t∈vs,Tr t)∧vs.length≤15+i) _ ?_ ?_ ⟨g3,vs,_,_,_,_,_,rfl,hQ,hV,Nu,by omega⟩
   ·rintro i v ρ M' N qO ⟨a,vs,y1,y2,y3,y4,y5,rfl,hQ,hV,tV,lV⟩ hN
    obtain ⟨hi,rfl⟩:=bQ qO
    have hi:i < 4:=by omega
    refine ⟨trivial,?_⟩
    walk_at "rd"
    refine ⟨hb,hl,by dsimp only;omega,by dsimp only;omega,fun z1 Nl=>?_⟩
    walk_at "rd"
    refine ⟨Nl,fun o oo=>?_⟩
    have oo:o.Ok 140:=⟨oo.1.le (by decide),oo.2.le (by decide)⟩
    walk_at "rd"
    intro e he
    refine ⟨_,_,.of (ai hQ he),.of ah,bH _,rfl,?_⟩
    rw [fY]
    have hQ:=ai (u:=MO.lst []) hQ he
    have hV:=ai (u:=MO.lst []) hV he
    generalize aA M' e (.lst [])=M1 at hQ hV ⊢
    cases es:qs with
    | nil=>
      have ou:=oo
      walk_at "rd"
      refine ⟨hb,hl,by dsimp only;omega,by dsimp only;omega,fun z3 KZ=>?_⟩
      walk_at "rd"
      refine ⟨KZ,ou,oo,vs,hV,tV,by omega,fun p K0 M9 K1 K2 K3 Ql=>?_⟩
      exact hN _ _ ⟨p,K0,_,_,_,_,_,rfl,K1 _ _ hQ,K2,K3,by omega⟩
    | cons q0 qr=>
      rw [← es]
      have en:(qs.map Pl.d).isEmpty=false:=by rw [es];rfl
      have lu:0 < qs.length:=by rw [es];simp
      rw [en]
      walk_at "rd"
      refine ⟨hb,hl,by dsimp only;omega,by dsimp only;omega,fun z2 P7=>?_⟩
      walk_at "rd"
      refine ⟨_,_,rfl,.inr (.inr ⟨q,rfl,hQ⟩),?_⟩
      rw [List.length_map]
      walk_at "rd"
      have j0:0≤z2 % (qs.length:Int):=Int.emod_nonneg _ (by omega)
      have j1:z2 % (qs.length:Int) < (qs.length:Int):=Int.emod_lt_of_pos _ (by omega)
      obtain ⟨j,hj⟩:∃ j:Nat,z2 % (qs.length:Int)=(j:Int):=⟨(z2 % (qs.length:Int)).toNat,by omega⟩
      have lj:j < qs.length:=by omega
      obtain ⟨u,ht⟩:∃ t',qs[j]?=some t':=⟨qs[j],List.getElem?_eq_getElem lj⟩
      have ou:=oq u (List.mem_of_getElem? ht)
      refine ⟨_,_,_,.inr (.inr ⟨q,rfl,hQ⟩),rfl,(show pR (qs.map Pl.d) (z2 % (qs.length:Int))=some u.d from by rw [hj];exact br (by rw [List.getElem?_map,ht];rfl)),?_⟩
      walk_at "rd"
      refine ⟨hb,hl,by dsimp only;omega,by dsimp only;omega,fun z3 KZ=>?_⟩
      walk_at "rd"
      refine ⟨KZ,ou,oo,vs,hV,tV,by omega,fun p K0 M9 K1 K2 K3 Ql=>?_⟩
      exact hN _ _ ⟨p,K0,_,_,_,_,_,rfl,K1 _ _ hQ,K2,K3,by omega⟩
   ·rintro ρ M' ⟨a,vs,y1,y2,y3,y4,y5,rfl,hQ,hV,tV,lV⟩
    refine ⟨trivial,?_⟩
    rw [List.length_map,List.length_range] at lV
    have lV:vs.length≤18:=by omega
    walk_at "rd"
    refine ⟨_,_,rfl,.of hQ,fun l3 hl3=>?_⟩
    have n1:l3≠q:=fun z=>by rw [z,hQ] at hl3;cases hl3
    have hH:aA M' l3 (.lst (qs.map Pl.d)) l3=some (.lst (qs.map Pl.d)):=ah
    have hQ:=ai (u:=MO.lst (qs.map Pl.d)) hQ hl3
    have hV:=ai (u:=MO.lst (qs.map Pl.d)) hV hl3
    generalize aA M' l3 (.lst (qs.map Pl.d))=M1 at hH hQ hV ⊢
    walk_at "rd"
    refine ⟨_,_,rfl,.of hV,fun l4 FO=>?_⟩
    have n2:l4≠a:=fun z=>by rw [z,hV] at FO;cases FO
    have hW:aA M1 l4 (.lst (vs.map tD)) l4=some (.lst (vs.map tD)):=ah
    have hH:=ai (u:=MO.lst (vs.map tD)) hH FO
    have hQ:=ai (u:=MO.lst (vs.map tD)) hQ FO
    have hV:=ai (u:=MO.lst (vs.map tD)) hV FO
    generalize aA M1 l4 (.lst (vs.map tD))=M2 at hH hQ hV hW ⊢
    walk_at "rd"
    intro g hg
    have hG:aA M2 g (.lst [.ref l3,.ref l4]) g=some (.lst [.ref l3,.ref l4]):=ah
    have hH:=ai (u:=MO.lst [.ref l3,.ref l4]) hH hg
    have hQ:=ai (u:=MO.lst [.ref l3,.ref l4]) hQ hg
    have hV:=ai (u:=MO.lst [.ref l3,.ref l4]) hV hg
    have hW:=ai (u:=MO.lst [.ref l3,.ref l4]) hW hg
    generalize aA M2 g (.lst [.ref l3,.ref l4])=M3 at hH hQ hV hW hG ⊢
    walk_at "rd"
    refine ⟨_,_,_,.inr (.inr ⟨g,rfl,hG⟩),rfl,br (j:=0) rfl,?_⟩
    walk_at "rd"
    refine ⟨_,_,_,.inr (.inr ⟨g,rfl,hG⟩),rfl,br (j:=1) rfl,?_⟩
    refine ⟨l3,l4,rfl,qs,vs,hH,hW,tV,by omega,by omega,oq,fun ss r sp so hr1=>?_⟩
    walk_at "rd"
    intro f hf
    refine ⟨g,f,l3,l4,q,a,_,_,_,_,rfl,rfl,ai hG hf,ah,ai hH hf,ai hW hf,ai hQ hf,ai hV hf,n1,n2,bH qs,bq vs,bH qs,bq vs,?_⟩
    rw [o5 (bH qs),o5 (bq vs)]
    have hQ:=ai (u:=MO.lst [.ref q,.ref a]) hQ hf
    have hV:=ai (u:=MO.lst [.ref q,.ref a]) hV hf
    generalize aA M3 f (.lst [.ref q,.ref a])=M4 at hQ hV ⊢
    walk_at "rd"
    refine ⟨qs,vs,hQ,hV,tV,by omega,by omega,oq,fun r2 hr2=>?_⟩
    obtain ⟨cc,ss2,pp,k1,k2,k3,k4⟩:=hr2
    have Qm:r=r2:=by rw [k4];exact Af sp so zk oq hr1 k1 k2 k3
    subst Qm
    walk_at "rd"
    refine ⟨.inl ⟨rfl,Fc hr1 tV⟩,?_⟩
    walk_at "rd"
    exact h
 ·have zf:∀ q∈ps,q.Ok 139:=fun q hq=>⟨(ho q hq).1.le (by decide),(ho q hq).2.le (by decide)⟩
  clear ho
  have uS:∀ q∈ps,q.Ok 140:=fun q hq=>⟨(zf q hq).1.le (by decide),(zf q hq).2.le (by decide)⟩
  have sl:(1000:Nat) < sizeLine:=by decide
  walk_at "rd"
  refine ⟨_,_,rfl,.of hM,fun l2 hl2=>?_⟩
  have hL:aA M0 l2 (.lst (ps.map Pl.d)) l2=some (.lst (ps.map Pl.d)):=ah
  have hM:=ai (u:=MO.lst (ps.map Pl.d)) hM hl2
  generalize aA M0 l2 (.lst (ps.map Pl.d))=M1 at hM hL ⊢
  walk_at "rd"
  refine ⟨ps,hL,nd,l7,uS,fun c ts hc hT lt=>?_⟩
  have hC:aA M1 c (.lst (ts.map tD)) c=some (.lst (ts.map tD)):=ah
  have hM:=ai (u:=MO.lst (ts.map tD)) hM hc
  generalize aA M1 c (.lst (ts.map tD))=M2 at hM hC ⊢
  walk_at "rd"
  refine ⟨_,_,rfl,.of hC,fun c2 hc2=>?_⟩
  have KY:aA M2 c2 (.lst (ts.map tD)) c2=some (.lst (ts.map tD)):=ah
  have hM:=ai (u:=MO.lst (ts.map tD)) hM hc2
  generalize aA M2 c2 (.lst (ts.map tD))=M3 at hM KY ⊢
  walk_at "rd"
  refine ⟨hb,hl,by decide,by decide,ps,ts,KY,hT,lt,uS,fun c3 us M4 le hU hTU lU=>?_⟩
  have hM:=le _ _ hM
  walk_at "rd"
  refine ⟨hb,hl,ps,us,hM,hU,nd,zf,l7,hTU,lU,fun q qs M5 HR hQ zk sub oq lq=>?_⟩
  have hU:=HR _ _ hU
  have FZ:∀ t∈us,Tr t:=fun t ht=>(hTU t ht).tr uS
  clear hTU hM KY hL le HR hC
  walk_at "rd"
  refine ⟨hb,hl,by decide,by decide,fun zg _=>?_⟩
  walk_at "rd"
  refine ⟨_,_,rfl,.inr (.inr ⟨c3,rfl,hU⟩),?_⟩
  rw [List.length_map]
  walk_at "rd"
  have c0:0≤zg % ((us.length:Int)+1):=Int.emod_nonneg _ (by omega)
  have c1:zg % ((us.length:Int)+1) < (us.length:Int)+1:=Int.emod_lt_of_pos _ (by omega)
  obtain ⟨m,hm⟩:∃ m:Nat,zg % ((us.length:Int)+1)=(m:Int):=⟨(zg % ((us.length:Int)+1)).toNat,by omega⟩
  have lm:m≤us.length:=by omega
  have f1:cutD (us.map tD) none (some (zg % ((us.length:Int)+1)))=(us.take m).map tD:=by rw [hm];exact gP tD us m lm
  have f2:cutD (us.map tD) (some (zg % ((us.length:Int)+1))) none=(us.drop m).map tD:=by rw [hm];exact iY tD us m lm
  refine ⟨_,.of hU,fun g1 Ay=>?_⟩
  rw [show cutD (us.map tD) (some ((fun i j=>i % j) zg ((fun i j=>i+j) (us.length:Int) 1))) none=(us.drop m).map tD from f2]
  have m1:(us.take m).length=m:=by rw [List.length_take];omega
  have m2:(us.drop m).length=us.length - m:=List.length_drop
  have S1:∀ t∈us.take m,Tr t:=fun t ht=>FZ t (List.mem_of_mem_take ht)
  have S2:∀ t∈us.drop m,Tr t:=fun t ht=>FZ t (List.mem_of_mem_drop ht)
  generalize us.take m=As at *
  generalize us.drop m=Bs at *
  have hU:=ai (u:=MO.lst (Bs.map tD)) hU Ay
  have hQ:=ai (u:=MO.lst (Bs.map tD)) hQ Ay
  have hA:aA M5 g1 (.lst (Bs.map tD)) g1=some (.lst (Bs.map tD)):=ah
  generalize aA M5 g1 (.lst (Bs.map tD))=M6 at hU hQ hA ⊢
  walk_at "rd"
  refine ⟨_,.of hU,fun g2 yV=>?_⟩
  rw [show cutD (us.map tD) none (some ((fun i j=>i % j) zg ((fun i j=>i+j) (us.length:Int) 1)))=As.map tD from f1]
  have hA:=ai (u:=MO.lst (As.map tD)) hA yV
  have hQ:=ai (u:=MO.lst (As.map tD)) hQ yV
  have hB:aA M6 g2 (.lst (As.map tD)) g2=some (.lst (As.map tD)):=ah
  generalize aA M6 g2 (.lst (As.map tD))=M7 at hA hB hQ ⊢
  walk_at "rd"
  refine ⟨g1,g2,_,_,rfl,rfl,hA,hB,by rw [List.length_map,List.length_map];omega,fun g3 CC=>?_⟩
  rw [← List.map_append]
  have Qi:(Bs ++ As).length≤15:=by rw [List.length_append];omega
  have Nu:∀ t∈Bs ++ As,Tr t:=fun t ht=>(List.mem_append.mp ht).elim (S2 t) (S1 t)
  clear hA hB hU f1 f2 S1 S2 m1 m2
  generalize Bs ++ As=vs at Qi Nu ⊢
  have hV:aA M7 g3 (.lst (vs.map tD)) g3=some (.lst (vs.map tD)):=ah
  have hQ:=ai (u:=MO.lst (vs.map tD)) hQ CC
  generalize aA M7 g3 (.lst (vs.map tD))=M8 at hV hQ ⊢
  walk_at "rd"
  refine ⟨hb,hl,by decide,by decide,fun Qj _=>?_⟩
  walk_at "rd"
  obtain ⟨w4,Qk,w0,w3⟩:∃ w4,(fun i j:Int=>i % j) Qj 4=w4∧0≤w4∧w4 < 4:=⟨_,rfl,Int.emod_nonneg _ (by decide),Int.emod_lt_of_pos _ (by decide)⟩
  rw [Qk]
  generalize (fun i j:Int=>i % j) zg ((fun i j:Int=>i+j) (us.length:Int) 1)=cut
  refine ⟨by omega,by omega,?_⟩
  clear FZ hT hc hc2 Ay yV CC c0 c1
  refine aF (fun i ρ M'=> ∃ (a:Addr) (vs:List (List Pl)) (y1 y2 y3 y4 y5:Option L3.D),ρ= [some (.tF (ns.map L3.D.int)),some (.ref q),some (.ref a),some (.int cut),y1,y2,y3,y4,y5]∧M' q=some (.lst (qs.map Pl.d))∧M' a=some (.lst (vs.map tD))∧(∀ t∈vs,Tr t)∧vs.length≤15+i) _ ?_ ?_ ⟨g3,vs,_,_,_,_,_,rfl,hQ,hV,Nu,by omega⟩
  ·rintro i v ρ M' N qO ⟨a,vs,y1,y2,y3,y4,y5,rfl,hQ,hV,tV,lV⟩ hN
   obtain ⟨hi,rfl⟩:=bQ qO
   have hi:i < 4:=by omega
   refine ⟨trivial,?_⟩
   walk_at "rd"
   refine ⟨hb,hl,by dsimp only;omega,by dsimp only;omega,fun z1 Nl=>?_⟩
   walk_at "rd"
   refine ⟨Nl,fun o oo=>?_⟩
   have oo:o.Ok 140:=⟨oo.1.le (by decide),oo.2.le (by decide)⟩
   walk_at "rd"
   intro e he
   refine ⟨_,_,.of (ai hQ he),.of ah,bH _,rfl,?_⟩
   rw [fY]
   have hQ:=ai (u:=MO.lst []) hQ he
   have hV:=ai (u:=MO.lst []) hV he
   generalize aA M' e (.lst [])=M1 at hQ hV ⊢
   cases es:qs with
   | nil=>
     have ou:=oo
     walk_at "rd"
     refine ⟨hb,hl,by dsimp only;omega,by dsimp only;omega,fun z3 KZ=>?_⟩
     walk_at "rd"
     refine ⟨KZ,ou,oo,vs,hV,tV,by omega,fun p K0 M9 K1 K2 K3 Ql=>?_⟩
     exact hN _ _ ⟨p,K0,_,_,_,_,_,rfl,K1 _ _ hQ,K2,K3,by omega⟩
   | cons q0 qr=>
     rw [← es]
     have en:(qs.map Pl.d).isEmpty=false:=by rw [es];rfl
     have lu:0 < qs.length:=by rw [es];simp
     rw [en]
     walk_at "rd"
     refine ⟨hb,hl,by dsimp only;omega,by dsimp only;omega,fun z2 P7=>?_⟩
     walk_at "rd"
     refine ⟨_,_,rfl,.inr (.inr ⟨q,rfl,hQ⟩),?_⟩
     rw [List.length_map]
     walk_at "rd"
     have j0:0≤z2 % (qs.length:Int):=Int.emod_nonneg _ (by omega)
     have j1:z2 % (qs.length:Int) < (qs.length:Int):=Int.emod_lt_of_pos _ (by omega)
     obtain ⟨j,hj⟩:∃ j:Nat,z2 % (qs.length:Int)=(j:Int):=⟨(z2 % (qs.length:Int)).toNat,by omega⟩
     have lj:j < qs.length:=by omega
     obtain ⟨u,ht⟩:∃ t',qs[j]?=some t':=⟨qs[j],List.getElem?_eq_getElem lj⟩
     have ou:=oq u (List.mem_of_getElem? ht)
     refine ⟨_,_,_,.inr (.inr ⟨q,rfl,hQ⟩),rfl,(show pR (qs.map Pl.d) (z2 % (qs.length:Int))=some u.d from by rw [hj];exact br (by rw [List.getElem?_map,ht];rfl)),?_⟩
     walk_at "rd"
     refine ⟨hb,hl,by dsimp only;omega,by dsimp only;omega,fun z3 KZ=>?_⟩
     walk_at "rd"
     refine ⟨KZ,ou,oo,vs,hV,tV,by omega,fun p K0 M9 K1 K2 K3 Ql=>?_⟩
     exact hN _ _ ⟨p,K0,_,_,_,_,_,rfl,K1 _ _ hQ,K2,K3,by omega⟩
  ·rintro ρ M' ⟨a,vs,y1,y2,y3,y4,y5,rfl,hQ,hV,tV,lV⟩
   refine ⟨trivial,?_⟩
   rw [List.length_map,List.length_range] at lV
   have lV:vs.length≤18:=by omega
   walk_at "rd"
   refine ⟨_,_,rfl,.of hQ,fun l3 hl3=>?_⟩
   have n1:l3≠q:=fun z=>by rw [z,hQ] at hl3;cases hl3
   have hH:aA M' l3 (.lst (qs.map Pl.d)) l3=some (.lst (qs.map Pl.d)):=ah
   have hQ:=ai (u:=MO.lst (qs.map Pl.d)) hQ hl3
   have hV:=ai (u:=MO.lst (qs.map Pl.d)) hV hl3
   generalize aA M' l3 (.lst (qs.map Pl.d))=M1 at hH hQ hV ⊢
   walk_at "rd"
   refine ⟨_,_,rfl,.of hV,fun l4 FO=>?_⟩
   have n2:l4≠a:=fun z=>by rw [z,hV] at FO;cases FO
   have hW:aA M1 l4 (.lst (vs.map tD)) l4=some (.lst (vs.map tD)):=ah
   have hH:=ai (u:=MO.lst (vs.map tD)) hH FO
   have hQ:=ai (u:=MO.lst (vs.map tD)) hQ FO
   have hV:=ai (u:=MO.lst (vs.map tD)) hV FO
   generalize aA M1 l4 (.lst (vs.map tD))=M2 at hH hQ hV hW ⊢
   walk_at "rd"
   intro g hg
   have hG:aA M2 g (.lst [.ref l3,.ref l4]) g=some (.lst [.ref l3,.ref l4]):=ah
   have hH:=ai (u:=MO.lst [.ref l3,.ref l4]) hH hg
   have hQ:=ai (u:=MO.lst [.ref l3,.ref l4]) hQ hg
   have hV:=ai (u:=MO.lst [.ref l3,.ref l4]) hV hg
   have hW:=ai (u:=MO.lst [.ref l3,.ref l4]) hW hg
   generalize aA M2 g (.lst [.ref l3,.ref l4])=M3 at hH hQ hV hW hG ⊢
   walk_at "rd"
   refine ⟨_,_,_,.inr (.inr ⟨g,rfl,hG⟩),rfl,br (j:=0) rfl,?_⟩
   walk_at "rd"
   refine ⟨_,_,_,.inr (.inr ⟨g,rfl,hG⟩),rfl,br (j:=1) rfl,?_⟩
   refine ⟨l3,l4,rfl,qs,vs,hH,hW,tV,by omega,by omega,oq,fun ss r sp so hr1=>?_⟩
   walk_at "rd"
   intro f hf
   refine ⟨g,f,l3,l4,q,a,_,_,_,_,rfl,rfl,ai hG hf,ah,ai hH hf,ai hW hf,ai hQ hf,ai hV hf,n1,n2,bH qs,bq vs,bH qs,bq vs,?_⟩
   rw [o5 (bH qs),o5 (bq vs)]
   have hQ:=ai (u:=MO.lst [.ref q,.ref a]) hQ hf
   have hV:=ai (u:=MO.lst [.ref q,.ref a]) hV hf
   generalize aA M3 f (.lst [.ref q,.ref a])=M4 at hQ hV ⊢
   walk_at "rd"
   refine ⟨qs,vs,hQ,hV,tV,by omega,by omega,oq,fun r2 hr2=>?_⟩
   obtain ⟨cc,ss2,pp,k1,k2,k3,k4⟩:=hr2
   have Qm:r=r2:=by rw [k4];exact Af sp so zk oq hr1 k1 k2 k3
   subst Qm
   walk_at "rd"
   refine ⟨.inl ⟨rfl,Fc hr1 tV⟩,?_⟩
   walk_at "rd"
   exact h
end
theorem all_mk {P:Program} {w:World} {h:Heap} {mg:Str→Option Value} {fa:Addr} (Y:HD.YP fs bs h) (G:h.Ns mainGlobals mg) (P4:mg "law" =some (.ref fa)):∃ (K:PySem.W.Frag) (fd:FuncData),K.In h∧(∀ (s:Shared) (v:Value),BindsTo s fd ⟨[v],[]⟩ [("_law_script",v)])∧∀ base:Heap,K.In base→base.Ns mainGlobals mg→bP P w K mg base dZ 9 fa fd ["_law_script"] (rY K FN):=by
 obtain ⟨K,X,H,B⟩:=Y
 unfold fs at H
 unfold bs at B
 obtain ⟨⟨f0,d0,a0,F0⟩,H⟩:=H
 obtain ⟨⟨f1,d1,a1,F1⟩,H⟩:=H
 obtain ⟨⟨f2,d2,a2,F2⟩,H⟩:=H
 obtain ⟨⟨f3,d3,a3,F3⟩,H⟩:=H
 obtain ⟨⟨f4,d4,a4,F4⟩,H⟩:=H
 obtain ⟨⟨f5,d5,a5,F5⟩,H⟩:=H
 obtain ⟨⟨f6,d6,a6,F6⟩,H⟩:=H
 obtain ⟨⟨f7,d7,a7,F7⟩,H⟩:=H
 obtain ⟨⟨f8,d8,a8,F8⟩,H⟩:=H
 obtain ⟨⟨f9,d9,a9,F9⟩,H⟩:=H
 obtain ⟨⟨Uw,Ux,Sn,So⟩,H⟩:=H
 obtain ⟨⟨Uy,Uz,Sq,Ss⟩,H⟩:=H
 obtain ⟨⟨GO,UA,Su,Sv⟩,H⟩:=H
 obtain ⟨⟨UB,UC,Sx,Sy⟩,H⟩:=H
 obtain ⟨⟨UD,UE,Sz,SA⟩,H⟩:=H
 obtain ⟨⟨UG,UH,SD,SE⟩,H⟩:=H
 obtain ⟨⟨UI,UJ,SG,SH⟩,H⟩:=H
 obtain ⟨⟨UK,UL,SI,SJ⟩,H⟩:=H
 obtain ⟨⟨UM,UN,SK,SM⟩,H⟩:=H
 obtain ⟨⟨UO,UP,SN,SO⟩,H⟩:=H
 obtain ⟨⟨UQ,UR,SQ,SR⟩,H⟩:=H
 obtain ⟨⟨US,UT,SS,SV⟩,H⟩:=H
 obtain ⟨⟨UU,UW,SW,SX⟩,H⟩:=H
 obtain ⟨⟨UX,UY,SY,S0⟩,H⟩:=H
 obtain ⟨⟨UZ,U0,S3,S4⟩,H⟩:=H
 obtain ⟨⟨U1,U3,S5,S6⟩,H⟩:=H
 obtain ⟨⟨U4,U5,S7,S8⟩,H⟩:=H
 obtain ⟨⟨U6,U7,S9,Tc⟩,H⟩:=H
 obtain ⟨⟨U8,U9,Td,Te⟩,H⟩:=H
 obtain ⟨⟨Va,Vb,Tf,Tg⟩,H⟩:=H
 obtain ⟨⟨Vc,Vd,Th,Ti⟩,H⟩:=H
 obtain ⟨⟨Ve,Vf,Tj,Tn⟩,H⟩:=H
 obtain ⟨⟨f32,Vg,a32,To⟩,H⟩:=H
 obtain ⟨⟨Vh,Vi,Tp,Tq⟩,H⟩:=H
 obtain ⟨⟨Vj,Vk,Tt,Tu⟩,H⟩:=H
 obtain ⟨⟨Vl,Vm,Tv,Tw⟩,H⟩:=H
 obtain ⟨⟨Vn,Vo,Tz,TF⟩,H⟩:=H
 obtain ⟨⟨Vp,Vq,TH,TJ⟩,H⟩:=H
 obtain ⟨⟨Vr,Vs,TL,TM⟩,H⟩:=H
 obtain ⟨⟨Vt,Vu,TN,TQ⟩,H⟩:=H
 obtain ⟨⟨Vv,Vw,TR,TU⟩,H⟩:=H
 obtain ⟨⟨Vx,Vy,TV,TX⟩,H⟩:=H
 obtain ⟨⟨Vz,VA,TY,TZ⟩,H⟩:=H
 obtain ⟨⟨VB,VC,T3,T4⟩,H⟩:=H
 obtain ⟨⟨VD,VE,T5,T6⟩,H⟩:=H
 obtain ⟨⟨VF,VG,T7,T8⟩,H⟩:=H
 obtain ⟨⟨VH,VI,T9,Ua⟩,H⟩:=H
 obtain ⟨⟨VJ,VL,Ub,Uc⟩,H⟩:=H
 obtain ⟨⟨VM,VN,Q4,Q5⟩,H⟩:=H
 obtain ⟨z0,B⟩:=B
 obtain ⟨z1,B⟩:=B
 obtain ⟨z2,B⟩:=B
 obtain ⟨z3,B⟩:=B
 obtain ⟨z4,B⟩:=B
 obtain ⟨z5,B⟩:=B
 obtain ⟨z6,B⟩:=B
 obtain ⟨z7,B⟩:=B
 obtain ⟨z8,B⟩:=B
 obtain ⟨z9,B⟩:=B
 obtain ⟨Ud,B⟩:=B
 obtain ⟨Ue,B⟩:=B
 obtain ⟨Ug,B⟩:=B
 have e:=P4.symm.trans (PySem.W.mg_of X G Q4)
 cases e
 have T:Txt K mg ⟨_,_,_,_,_,_,_,_,_,_,_,_,_,_,_,_,_,_,_,_,_,_,_,_,_,_,_,_,_,_,_,_,_,_,_,_,_,_,_,_,_,_,_,_,_,_,_,_,_,_,_,_,_,_,_,_,_,_,_,_,_,_,_,_,_,_,_,_,_,_,_,_,_,_,_,_,_,_,_,_,_,_,_,_,_,_,_,_,_,_,_,_,_,_,_,_,_,_⟩:=⟨F0,PySem.W.mg_of X G a0,F1,PySem.W.mg_of X G a1,F2,PySem.W.mg_of X G a2,F3,PySem.W.mg_of X G a3,F4,PySem.W.mg_of X G a4,F5,PySem.W.mg_of X G a5,F6,PySem.W.mg_of X G a6,F7,PySem.W.mg_of X G a7,F8,PySem.W.mg_of X G a8,F9,PySem.W.mg_of X G a9,So,PySem.W.mg_of X G Sn,Ss,PySem.W.mg_of X G Sq,Sv,PySem.W.mg_of X G Su,Sy,PySem.W.mg_of X G Sx,SA,PySem.W.mg_of X G Sz,SE,PySem.W.mg_of X G SD,SH,PySem.W.mg_of X G SG,SJ,PySem.W.mg_of X G SI,SM,PySem.W.mg_of X G SK,SO,PySem.W.mg_of X G SN,SR,PySem.W.mg_of X G SQ,SV,PySem.W.mg_of X G SS,SX,PySem.W.mg_of X G SW,S0,PySem.W.mg_of X G SY,S4,PySem.W.mg_of X G S3,S6,PySem.W.mg_of X G S5,S8,PySem.W.mg_of X G S7,Tc,PySem.W.mg_of X G S9,Te,PySem.W.mg_of X G Td,Tg,PySem.W.mg_of X G Tf,Ti,PySem.W.mg_of X G Th,Tn,PySem.W.mg_of X G Tj,To,PySem.W.mg_of X G a32,Tq,PySem.W.mg_of X G Tp,Tu,PySem.W.mg_of X G Tt,Tw,PySem.W.mg_of X G Tv,TF,PySem.W.mg_of X G Tz,TJ,PySem.W.mg_of X G TH,TM,PySem.W.mg_of X G TL,TQ,PySem.W.mg_of X G TN,TU,PySem.W.mg_of X G TR,TX,PySem.W.mg_of X G TV,TZ,PySem.W.mg_of X G TY,T4,PySem.W.mg_of X G T3,T6,PySem.W.mg_of X G T5,T8,PySem.W.mg_of X G T7,Ua,PySem.W.mg_of X G T9,Uc,PySem.W.mg_of X G Ub,Q5,PySem.W.mg_of X G Q4,PySem.W.mg_none_of X G z0,PySem.W.mg_none_of X G z1,PySem.W.mg_none_of X G z2,PySem.W.mg_none_of X G z3,PySem.W.mg_none_of X G z4,PySem.W.mg_none_of X G z5,PySem.W.mg_none_of X G z6,PySem.W.mg_none_of X G z7,PySem.W.mg_none_of X G z8,PySem.W.mg_none_of X G z9,PySem.W.mg_none_of X G Ud,PySem.W.mg_none_of X G Ue,PySem.W.mg_none_of X G Ug⟩
 refine ⟨K,_,X,fun s v=>?_,fun base _ _=>KW T⟩
 obtain ⟨_,_,_,_,_,_,_,_,_,rfl,_,_⟩:=Q5.ex
 exact .of_eq rfl
end Pf
open PySem PySem.W PyProof.Rows
set_option maxRecDepth 100000 in
set_option maxHeartbeats 0 in
theorem PySem.Challenge.cw_nearland_k25_lists_looked_through_holds : PySem.Challenge.rw_nearland_k25_lists_looked_through.Holds := by
 refine holds_law Pf.said fun said=>?_
 refine holds_open (q:=Pf.view) (loose:=Pf.loose) (Xt:=fun s=>xlAt Pf.view [] s && recOk (RowW.records (OpenRow.toRowW PySem.Challenge.rw_nearland_k25_lists_looked_through.row)) s) (XP:=XL Pf.view []) (Yf:=HD.AA Pf.fs Pf.bs) (Ya:=fun _=>HD.good Pf.fs Pf.bs) (YP:=fun _ h=>HD.YP Pf.fs Pf.bs h) (N:=4656) Pf.left (fun _ _ e=>HD.KD e) (fun _ _ _ y k=>HD.keeps y k) (fun s e=>xl_of s (Bool.and_eq_true_iff.mp e).1) XL.keeps (by rfl) (by rfl) (by rfl) (fun s e=>recFacts_of (Bool.and_eq_true_iff.mp e).2) (by rfl) said (by decide +kernel) ⟨rfl,rfl,rfl,rfl,rfl,by decide +kernel⟩ (by w_witness2) ?hc
 refine HD.Fi (l:=PySem.Challenge.rw_nearland_k25_lists_looked_through) (n:=63) (k:=9) (x:= "_law_script") (CX:=L2.dZ) (sp:=fun K=>L3.rY K Pf.FN) rfl (by decide) rfl ⟨rfl,by decide,by decide⟩ (fun w mg fa h Y G hmg=>Pf.all_mk Y G hmg) (fun K H a ns hl hb hO hS=>L3.Hg hl hb hO hS) (fun _ _ _ _ z=>z)
