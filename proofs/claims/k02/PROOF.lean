import PyProof.Rows.All
import Wide.All
import OpenK.AllK
import Wide.FinOn
import Lean
import PyProof.EqAt
import PyProof.EqKinds
import PyProof.TupleCall
import PyProof.P3Eq
import PyProof.NeData
import PyProof.ListRange
import PyProof.Rows.CallKwBuiltin
import PyProof.Rows.Range3
import PyProof.DictWalks
import PyProof.MinMaxWalk
import PyProof.WalkInts
import PyProof.Walk
import PyProof.WalkLemmas
import PyProof.RulesTry
import PyProof.Rows.SortShell
import PyProof.Rows.SortWalk
import PyProof.Rows.SortRuns
import PyProof.Rows.SetFrom
import PyProof.SetKind
import PyProof.SetScanFacts
import PyProof.FactsAll.subtypes_4
import PyProof.FactsAll.set_1
import PyProof.DictDisplay
import OpenK.KOwn
import KE.KTryMore
import KE.RegKTryMore
import PyProof.Rows.Catch
import KE.KIsAll
import KE.RegKIsAll
import PyProof.ExcArgsOwn
import PyProof.SetRoads
import PySem.Challenge.RW_bentrows_k02_sheets_of_points
set_option tactic.hygienic false
set_option genSizeOf false
set_option Elab.async false
noncomputable section
set_option linter.all false
set_option maxRecDepth 100000
set_option maxHeartbeats 4000000
section
abbrev FG:=PySem.W.Frag
open PySem PySem.Spec PyProof.Rows
abbrev ET:=@wpAny_bind
abbrev EU:=@wpAny_pure
abbrev EV:=@wpAny_holding
abbrev EW:=@List.mem_cons_self
abbrev EY:=@List.mem_cons_of_mem
abbrev EZ:=@Heap.get?_push_of_some
abbrev E2:=@Option.map_eq_some_iff
abbrev E3:=@List.mem_append_left
abbrev E4:=@List.mem_append_right
abbrev E5:=@List.mem_cons
abbrev E6:=@List.getElem?_eq_getElem
abbrev E7:=@Heap.lt_size
abbrev E8:=@List.mem_append
abbrev E9:=@Heap.get?_push_size
abbrev Fa:=@List.length_map
abbrev Fb:=@List.getElem?_eq_some_iff
abbrev Fc:=@List.mem_of_getElem?
abbrev Fd:=@List.sublist_append_right
abbrev Fe:=@List.mem_map
abbrev Ff:=@List.getElem?_map
abbrev Fg:=@Nat.le_refl
abbrev Fh:=@Bool.false_ne_true
abbrev Fi:=@Nat.ne_of_lt
abbrev Fj:=@List.size_toArray
abbrev Fm:=@List.map_cons
abbrev Fo:=@decide_eq_true
abbrev Fp:=@decide_eq_false
abbrev Fq:=@Nat.lt_of_lt_of_le
abbrev xZ7:=@Nat.zero_add
abbrev Fs:=@Heap.get?_update_self
abbrev Ft:=@List.length_append
abbrev Fu:=@List.length_cons
abbrev Fv:=@List.length_take
abbrev Fw:=@Option.map_some
abbrev Fy:=@Option.bind_eq_some_iff
abbrev Fz:=@List.mem_singleton
abbrev FA:=@Bool.false_eq_true
abbrev FC:=@List.mem_filter
abbrev FD:=@Heap.get?_update_other
abbrev FE:=@Heap.size_push
abbrev FF:=@wpAny_truthy_bool
abbrev FH:=@Nat.le_trans
abbrev FI:=@List.filter_eq_self
abbrev FJ:=@List.map_map
abbrev FK:=@List.map_congr_left
abbrev FL:=@Option.some.inj
end
section
namespace L2
open PySem
def aH (s:Stmt):Arguments:=match s with
 | .FunctionDef _ a _ _ _ _ _ _ _ _=>a
 | _=>{ posonlyargs:=[],args:=[],vararg:=none,kwonlyargs:=[],kw_defaults:=[],kwarg:=none,defaults:=[] }
def aw (s:Stmt):List Stmt:=match s with
 | .FunctionDef _ _ b _ _ _ _ _ _ _=>b
 | _=>[]
def ad (s:Stmt):Scope:=match s with
 | .FunctionDef _ _ _ _ _ _ sc _ _ _=>sc
 | _=>{ kind:=.function,names:=[],isGenerator:=false,isCoroutine:=false }
def qm (p:Nat×Obj):Option (Nat×Obj):=match p.2 with
 | ⟨_,_,.freed,_⟩=>none
 | o=>some (p.1,o)
def yT (h:Heap):FG:=((List.range h.objs.size).zip h.objs.toList).filterMap qm
def ah (K:FG) (n:Str):Addr:=match PySem.W.nsIn K mainGlobals n with
 | some (some (.ref f))=>f
 | _=>0
abbrev pp:=Str×Str×Arguments×FuncBody×Scope×Addr×List (Str×Addr)×Value×Addr×Bool
def qy (K:FG) (n:Str):Option pp:=match PySem.W.nsIn K mainGlobals n with
 | some (some (.ref f))=>(match K.lookup f with
  | some ⟨_,_,.func fd,_⟩=>some (fd.name,fd.qualname,fd.params,fd.body,fd.scope,fd.globals,fd.closure,fd.defaults,fd.builtins,PySem.W.codeIn K fd.code n)
  | _=>none)
 | _=>none
def lQ (n:Str) (st:Stmt):Option pp:=some (n,n,aH st,.stmts (aw st),ad st,mainGlobals,[],.none,builtinsNs,true)
def oR (K:FG) (n:Str):Option Int:=match PySem.W.nsIn K mainGlobals n with
 | some (some (.int v _))=>some v
 | _=>none
def wE (K:FG) (n:Str):Option Str:=match PySem.W.nsIn K mainGlobals n with
 | some (some (.str v _))=>some v
 | _=>none
open PySem.W PyProof.Rows in
theorem vz {p q:Program} {loose:List Str} {c:Shared → Bool} {α:Type} {d:Shared → α} {g:World → α} {N m:Nat} {ann:Option Value}
  (e:opening p=plainProg p.main.scope.names) (i:Nat.ble 600 N=true) (f:∀ s,fenceModules? p s=some s)
  (sz:∀ w:World,((boot_heap w.params).isNs mainGlobals && (Array.mk []:Array GenState).size == 0,(boot_heap w.params).objs.size,(boot_heap w.params).nsMap mainGlobals "__annotations__")=(true,m,ann))
  (go:∀ (w:World) (os:OsState),(PySem.W.Fast.tw14082659384304107361 PySem.W.Fast.tw14364793385576792824 p w m ann N ⟨boot_heap w.params,Array.mk [],boot_drawn,boot_toks,os⟩ (topStub p)).map (λs=>((staticsOk (importedModules p.main.body) (boot_heap w.params) s.heap && namesBound p s.heap && gensDone s && laidKept (boot_heap w.params) s.heap),PySem.W.Fast.tw4187177175401517315 q loose (importedModules p.main.body) c true s,d s))=some (true,openGood q loose,g w)):LeftO p q loose c d g N:=λw=>by
 obtain ⟨⟨l,o,n,tk,os⟩,j,h⟩:=E2.mp (boot_open e i f w)
 obtain ⟨rfl,rfl,rfl,rfl⟩:l=boot_heap w.params ∧ o=Array.mk [] ∧ n=boot_drawn ∧ tk=boot_toks:=by simpa using h
 have sw:=sz w
 have a:=go w os
 rw[← PySem.W.Fast.te14082659384304107361,← PySem.W.Fast.te14364793385576792824,← PySem.W.Fast.te4187177175401517315] at a
 simp only[Prod.mk.injEq] at sw
 obtain ⟨s,k,b⟩:=E2.mp a
 simp only[Prod.mk.injEq] at b
 have tt:topFrom treeTable p w N ⟨boot_heap w.params,Array.mk [],boot_drawn,boot_toks,os⟩=some s:=by
  unfold topFrom
  dsimp only
  rw[sw.1,sw.2.1,sw.2.2,k]
  change (match staticsOk (importedModules p.main.body) (boot_heap w.params) s.heap && namesBound p s.heap && gensDone s && laidKept (boot_heap w.params) s.heap with | true=>some s | false=>none)=some s
  rw[b.1]
 unfold openEnds
 rw[j]
 change Option.map _ (topFrom treeTable p w N _)=_
 rw[tt]
 exact congrArg some (Prod.ext b.2.1 b.2.2)
theorem uU (h:PySem.W.Fast.tw9446332074065402090 l=true):l.wellSaid=true:=by rw[← PySem.W.Fast.te9446332074065402090] at h; exact h
abbrev iz:List Value:=[.type "ValueError",.type "Exception",.type "BaseException",.type "object"]
def Bi (s:Stmt) (j:Nat):Stmt:=match s with
 | .ClassDef _ _ _ body _ _ _ _ _ _ _=>body.getD j (.Pass ⟨0,0,0,0⟩)
 | _=>.Pass ⟨0,0,0,0⟩
def tM:List Value → Bool
 | .ref _::r=>tM r
 | l=>l == iz
def oW (K:FG) (C:Addr):Bool:=match K.lookup C with
 | some ⟨.type "type",_,.cls cd,sl⟩=>(match cd.mro,sl.toList with
  | .ref C1::bm,[_,_,_,_,some (.builtin n),_]=>PySem.W.nsOkIn K cd.ns && (PySem.W.tailIn K iz bm && (!cd.hasDel && (n == "ValueError.__new__" && C1 == C)))
  | _,_=>false)
 | _=>false
end L2
namespace L3
open PySem L2
def ir (K:FG) (n:Str):Bool:=match PySem.W.nsIn K mainGlobals n with
 | some (some (.ref _))=>true
 | _=>false
abbrev l7:=Bool×Option (Option Value)×Option (Option Value)×Bool×Option (Option Value)×Option Bool×Option Bool×Bool
def nG (K:FG) (r:Str):l7:=(ir K r,PySem.W.findIn K (.ref (ah K r)) "__getattribute__",PySem.W.findIn K (.ref (ah K r)) "__getattr__",PySem.W.isClsIn K (ah K r),PySem.W.findIn K (.ref (ah K r)) "__class__",PySem.W.mroIn K (ah K r) (.type "object"),PySem.W.mroIn K (ah K r) (.type "BaseException"),PySem.W.excIn K (ah K r) iz "ValueError.__new__")
def oZ:l7:=(true,some (some (.builtin "BaseException.__getattribute__")),some none,true,some (some (.builtin "object.__class__")),some true,some true,true)
def jU (K:FG):Option (Option Value)×Option Bool:=(PySem.W.specialIn K (.builtin "object.__class__") "__get__",PySem.W.takesIn K (.builtin "object.__class__"))
def iw:Option (Option Value)×Option Bool:=(some (some (.builtin "getset_descriptor.__get__")),some true)
def nQ (K:FG):Bool:=match K.lookup sysModules with
 | some ⟨_,_,.dict _ _,_⟩=>true
 | _=>false
abbrev zJ:=Value×Str×Str×Arguments×FuncBody×Scope×Addr×List (Str×Addr)×Value×Addr×Bool
def B8 (K:FG) (C:Addr):Option zJ:=match PySem.W.findIn K (.ref C) "__init__" with
 | some (some (.ref f))=>(match K.lookup f with
  | some ⟨c,_,.func fd,_⟩=>some (c,fd.name,fd.qualname,fd.params,fd.body,fd.scope,fd.globals,fd.closure,fd.defaults,fd.builtins,PySem.W.codeIn K fd.code fd.qualname)
  | _=>none)
 | _=>none
abbrev po:=l7×Bool×Option (Option Value)×Bool×Option (Option Value)×Option zJ
def t7 (K:FG) (r n:Str):po:=(nG K r,oW K (ah K r),PySem.W.findIn K (.ref (ah K r)) "__setattr__",(PySem.W.clsIn K (ah K r)).any (λcd=>tM cd.mro && cd.hasDict),PySem.W.findIn K (.ref (ah K r)) n,B8 K (ah K r))
def oS (q:Str) (st:Stmt):po:=((true,some (some (.builtin "BaseException.__getattribute__")),some none,true,some (some (.builtin "object.__class__")),some true,some true,false),true,some (some (.builtin "object.__setattr__")),true,some none,some (.type "function","__init__",q,aH st,.stmts (aw st),ad st,mainGlobals,[],.none,builtinsNs,true))
end L3
namespace Bn
open PySem L2 L3
def top (i:Nat):Stmt:=PySem.Challenge.pw_bentrows_k02_sheets_of_points.main.body.getD i (.Pass ⟨0,0,0,0⟩)
abbrev eY:Stmt:=top 13
abbrev eZ:Stmt:=top 14
abbrev dw:Stmt:=top 17
abbrev cn:Stmt:=top 18
abbrev n4:Stmt:=top 19
abbrev i6:Stmt:=top 20
abbrev bY:Stmt:=top 21
abbrev eW:Stmt:=top 22
abbrev jb:Stmt:=top 24
abbrev ky:Stmt:=top 25
abbrev kA:Stmt:=top 26
abbrev i7:Stmt:=top 27
abbrev ie:Stmt:=top 28
abbrev du:Stmt:=top 29
abbrev jc:Stmt:=top 30
abbrev ja:Stmt:=top 31
abbrev ig:Stmt:=top 32
abbrev ku:Stmt:=top 33
abbrev eX:Stmt:=top 34
abbrev i9:Stmt:=top 35
abbrev io:Stmt:=top 36
abbrev i8:Stmt:=top 37
abbrev kz:Stmt:=top 38
abbrev fX:Stmt:=top 39
abbrev dsL:List (Str×Stmt):=[(("is_whole":Str),eY),(("is_point":Str),eZ),(("are_points":Str),dw),(("has_rising_x":Str),cn),(("bend":Str),n4),(("threes":Str),i6),(("first_on_line":Str),bY),(("sheet_of":Str),eW),(("_law_cell":Str),jb),(("_law_mix":Str),ky),(("_law_box":Str),kA),(("_law_take":Str),i7),(("_law_whole":Str),ie),(("_law_mixed_up":Str),du),(("_law_bend":Str),jc),(("_law_free":Str),ja),(("_law_sheet":Str),ig),(("_law_odd":Str),ku),(("_law_points":Str),eX),(("_law_line":Str),i9),(("_law_marks":Str),io),(("_law_said":Str),i8),(("_law_due":Str),kz),(("law":Str),fX)]
abbrev blL:List Str:=[("len":Str),("range":Str),("abs":Str),("divmod":Str),("enumerate":Str),("tuple":Str),("isinstance":Str),("int":Str),("bool":Str),("all":Str),("str":Str),("max":Str),("min":Str),("list":Str),("dict":Str),("repr":Str),("sorted":Str),("set":Str),("zip":Str),("reversed":Str)]
abbrev ciL:List (Str×Int):=[(("MOST_POINTS":Str),(24:Int))]
abbrev csL:List (Str×Str):=[]
abbrev xrL:List String:=["NoSheet"]
abbrev xcL:List Str:=[("NoSheet":Str),("OnLine":Str),("Apart":Str),("Bare":Str),("BentError":Str),("NoNumber":Str),("NoPlace":Str),("NoRing":Str),("NoRow":Str),("NoText":Str),("TooMany":Str)]
abbrev xbL:List Str:=[("ValueError":Str)]
abbrev mK:Stmt:=Bi (top 10) 0
def Ah (K:FG):List (Option pp)×List (Option (Option Value))×List (Option Int)×List (Option Str)×List l7×List Bool×List (Option (Option Value))×(Option (Option Value)×Option Bool)×List (Option Bool)×List (Option Bool)×po×Bool:=(dsL.map (λp=>qy K p.1),blL.map (PySem.W.nsIn K mainGlobals),ciL.map (λp=>oR K p.1),csL.map (λp=>wE K p.1),xrL.map (λr:String=>nG K r),xcL.map (ir K),xbL.map (PySem.W.nsIn K mainGlobals),jU K,[PySem.W.kitOne K (.ref (ah K "NoSheet")) (.ref (ah K "Apart")),PySem.W.kitOne K (.ref (ah K "OnLine")) (.ref (ah K "Apart")),PySem.W.kitOne K (.ref (ah K "NoSheet")) (.ref (ah K "Bare")),PySem.W.kitOne K (.ref (ah K "OnLine")) (.ref (ah K "Bare")),PySem.W.kitOne K (.ref (ah K "NoSheet")) (.ref (ah K "BentError")),PySem.W.kitOne K (.ref (ah K "OnLine")) (.ref (ah K "BentError")),PySem.W.kitOne K (.ref (ah K "NoSheet")) (.ref (ah K "NoNumber")),PySem.W.kitOne K (.ref (ah K "OnLine")) (.ref (ah K "NoNumber")),PySem.W.kitOne K (.ref (ah K "NoSheet")) (.ref (ah K "NoPlace")),PySem.W.kitOne K (.ref (ah K "OnLine")) (.ref (ah K "NoPlace")),PySem.W.kitOne K (.ref (ah K "NoSheet")) (.ref (ah K "NoRing")),PySem.W.kitOne K (.ref (ah K "OnLine")) (.ref (ah K "NoRing")),PySem.W.kitOne K (.ref (ah K "NoSheet")) (.ref (ah K "NoRow")),PySem.W.kitOne K (.ref (ah K "OnLine")) (.ref (ah K "NoRow")),PySem.W.kitOne K (.ref (ah K "NoSheet")) (.ref (ah K "NoSheet")),PySem.W.kitOne K (.ref (ah K "OnLine")) (.ref (ah K "NoSheet")),PySem.W.kitOne K (.ref (ah K "NoSheet")) (.ref (ah K "NoText")),PySem.W.kitOne K (.ref (ah K "OnLine")) (.ref (ah K "NoText")),PySem.W.kitOne K (.ref (ah K "NoSheet")) (.ref (ah K "OnLine")),PySem.W.kitOne K (.ref (ah K "OnLine")) (.ref (ah K "OnLine")),PySem.W.kitOne K (.ref (ah K "NoSheet")) (.ref (ah K "TooMany")),PySem.W.kitOne K (.ref (ah K "OnLine")) (.ref (ah K "TooMany")),PySem.W.kitOne K (.ref (ah K "NoSheet")) (.type "ValueError"),PySem.W.kitOne K (.ref (ah K "OnLine")) (.type "ValueError")],[PySem.W.exmOne K (.ref (ah K "NoSheet")) (.ref (ah K "BentError")),PySem.W.exmOne K (.ref (ah K "OnLine")) (.ref (ah K "BentError"))],t7 K "OnLine" "three",nQ K)
def ub:List (Option pp)×List (Option (Option Value))×List (Option Int)×List (Option Str)×List l7×List Bool×List (Option (Option Value))×(Option (Option Value)×Option Bool)×List (Option Bool)×List (Option Bool)×po×Bool:=(dsL.map (λp=>lQ p.1 p.2),blL.map (λ_=>some none),ciL.map (λp=>some p.2),csL.map (λp=>some p.2),xrL.map (λ_:String=>oZ),xcL.map (λ_=>true),xbL.map (λ_=>some none),iw,[some false,some false,some false,some false,some true,some true,some false,some false,some false,some false,some false,some false,some false,some false,some true,some false,some false,some false,some false,some true,some false,some false,some true,some true],[some true,some true],oS "OnLine.__init__" mK,true)
theorem okL:PySem.Challenge.rw_bentrows_k02_sheets_of_points.wellSaid=true:=uU (by kernel_rfl)
abbrev loL:List Str:=[("BentError":Str),("NoSheet":Str),("NoPlace":Str),("NoNumber":Str),("NoRow":Str),("Apart":Str),("NoRing":Str),("TooMany":Str),("Bare":Str),("OnLine":Str),("NoText":Str),("is_whole":Str),("is_point":Str),("MOST_POINTS":Str),("are_points":Str),("has_rising_x":Str),("bend":Str),("threes":Str),("first_on_line":Str),("sheet_of":Str),("_law_cell":Str),("_law_mix":Str),("_law_box":Str),("_law_take":Str),("_law_whole":Str),("_law_mixed_up":Str),("_law_bend":Str),("_law_free":Str),("_law_sheet":Str),("_law_odd":Str),("_law_points":Str),("_law_line":Str),("_law_marks":Str),("_law_said":Str),("_law_due":Str)]
abbrev viL:Program:=PySem.W.view PySem.Challenge.rw_bentrows_k02_sheets_of_points.row.prog [39]
theorem leftL:PySem.W.LeftO PySem.Challenge.rw_bentrows_k02_sheets_of_points.row.prog viL loL (λs=>PySem.W.recOk (PySem.W.RowW.records PySem.Challenge.rw_bentrows_k02_sheets_of_points.row.toRowW) s) (λs=>Ah (yT s.heap)) (λ_=>ub) 40000 :=
 vz (m:=11) (ann:=some (.ref 6)) (by kernel_rfl) rfl (λ_=>rfl) (λw=>by kernel_rfl) (λw os=>by kernel_rfl)
end Bn
end
section
namespace L2
open PySem PySem.Spec PyProof.Rows
abbrev Key:=Sum Int Str
def nh:Key->Value->Bool
 | .inl k,v=>Value.isInt k v
 | .inr x,v=>Value.isStrOf x v
def keyH (w:World):Key->Int
 | .inl k=>hashInt k
 | .inr x=>hashStr w x
theorem aZ:∀ {k:Key} {v:Value},nh k v=true->(∃ i t,k=Sum.inl i/\v=Value.int i t)\/(∃ x t,k=Sum.inr x/\v=Value.str x t)
 | .inl i,v,h=>by
  obtain ⟨t,e⟩:=Value.isInt_shape (k:=i) (v:=v) h
  exact .inl ⟨i,t,rfl,e⟩
 | .inr x,v,h=>by
  obtain ⟨t,e⟩:=Value.isStrOf_shape (x:=x) (v:=v) h
  exact .inr ⟨x,t,rfl,e⟩
theorem vD (i:Int) (t:Tok):nh (.inl i) (.int i t)=true:=by simp[nh,Value.isInt]
theorem vC (x:Str) (t:Tok):nh (.inr x) (.str x t)=true:=by simp[nh,Value.isStrOf]
theorem Eg (a b:Int):decide ((Sum.inl a:Key)=Sum.inl b)=(a == b):=by
 by_cases e:a=b
 ·subst e;simp
 ·have h:¬ (Sum.inl a:Key)=Sum.inl b:=λq=>e (Sum.inl.inj q)
  rw[Fp h]
  exact (beq_eq_false_iff_ne.mpr e).symm
theorem Ed (a b:Str):decide ((Sum.inr a:Key)=Sum.inr b)=decide (a=b):=by
 by_cases e:a=b
 ·subst e;simp
 ·have h:¬ (Sum.inr a:Key)=Sum.inr b:=λq=>e (Sum.inr.inj q)
  rw[Fp h,Fp e]
theorem Ef (a:Int) (b:Str):decide ((Sum.inl a:Key)=Sum.inr b)=false:=Fp (λq=>nomatch q)
theorem Ee (a:Str) (b:Int):decide ((Sum.inr a:Key)=Sum.inl b)=false:=Fp (λq=>nomatch q)
def bE (prog:Program) (w:World):PySem.KeyKind prog w Key where
 is:=nh
 hash:=keyH w
 inj:=λv a b f d=>by
  rcases aZ f with ⟨i,t,rfl,rfl⟩ | ⟨x,t,rfl,rfl⟩
  ·rcases aZ d with ⟨j,u,rfl,e⟩ | ⟨y,u,rfl,e⟩
   ·injection e with e1 _;rw[e1]
   ·exact nomatch e
  ·rcases aZ d with ⟨j,u,rfl,e⟩ | ⟨y,u,rfl,e⟩
   ·exact nomatch e
   ·injection e with e1 _;rw[e1]
 byValue:=λk v h=>by
  rcases aZ h with ⟨i,t,rfl,rfl⟩ | ⟨x,t,rfl,rfl⟩ <;> rfl
 pyHash:=λc h=>by
  rcases aZ c with ⟨i,t,rfl,rfl⟩ | ⟨x,t,rfl,rfl⟩
  ·exact wpAny_pyHash_int h
  ·exact wpAny_pyHash_str h
 eqBool:=λhu c h=>by
  rcases aZ hu with ⟨i,t,rfl,rfl⟩ | ⟨x,t,rfl,rfl⟩
  ·rcases aZ c with ⟨j,u,rfl,rfl⟩ | ⟨y,u,rfl,rfl⟩
   ·rw[Eg] at h;exact wpAny_eqBool_int h
   ·rw[Ef] at h;exact SeqAt.EqAt.int_str i t y u _ _ _ _ h
  ·rcases aZ c with ⟨j,u,rfl,rfl⟩ | ⟨y,u,rfl,rfl⟩
   ·rw[Ee] at h;exact SeqAt.EqAt.str_int x t j u _ _ _ _ h
   ·rw[Ed] at h;exact wpAny_eqBool_str h
 «strs»:=λk x t v h=>by
  rcases aZ h with ⟨i,u,rfl,e⟩ | ⟨y,u,rfl,e⟩
  ·exact nomatch e
  ·injection e with e1 _
   subst e1
   cases v <;> rfl
theorem p9 (prog:Program) (w:World) (i:Int) (t:Tok):(bE prog w).is (.inl i) (.int i t)=true:=vD i t
theorem p8 (prog:Program) (w:World) (x:Str) (t:Tok):(bE prog w).is (.inr x) (.str x t)=true:=vC x t
end L2
namespace L2
open PySem PySem.Spec PyProof.Rows
inductive V where
 | non | bl (b:Bool) | int (i:Int) | str (x:Str) | byt (b:Array UInt8) | flt (b:UInt64) | ref (a:Addr) | ty (n:String)
 deriving DecidableEq
def RelV:V->Value->Prop
 | .non,u=>u=Value.none
 | .bl b,u=>u=Value.bool b
 | .int i,u=>∃ t,u=Value.int i t
 | .str x,u=>∃ t,u=Value.str x t
 | .byt b,u=>∃ t,u=Value.bytes b t
 | .flt b,u=>∃ t,u=Value.float b t
 | .ref a,u=>u=Value.ref a
 | .ty n,u=>u=Value.type n
abbrev Vals:List V->List Value->Prop:=Paired RelV
theorem Vals.length (r:Vals xs us):xs.length=us.length:=Paired.length r
theorem Vals.get:∀ {xs:List V} {us:List Value} {i:Nat} {x:V},Vals xs us->xs[i]?=some x->∃ u,us[i]?=some u/\RelV x u
 | _,_,_,_,.nil,e=>by simp at e
 | _,_,0,_,.cons r _,e=>by simp at e;subst e;exact ⟨_,rfl,r⟩
 | _,_,i+1,x,.cons _ t,e=>by
  obtain ⟨u,h1,h2⟩:=Vals.get (i:=i) (x:=x) t (by simpa using e)
  exact ⟨u,by simpa using h1,h2⟩
theorem Vals.set (r:RelV x u):∀ {xs:List V} {us:List Value} (i:Nat),Vals xs us->Vals (xs.set i x) (us.set i u)
 | _,_,_,.nil=>.nil
 | _,_,0,.cons _ t=>.cons r t
 | _,_,i+1,.cons q t=>.cons q (Vals.set r i t)
theorem Vals.append:∀ {xs ys:List V} {us ws:List Value},Vals xs us->Vals ys ws->Vals (xs++ys) (us++ws)
 | _,_,_,_,.nil,s=>s
 | _,_,_,_,.cons r t,s=>.cons r (Vals.append t s)
theorem Vals.take:∀ {xs:List V} {us:List Value} (n:Nat),Vals xs us->Vals (xs.take n) (us.take n)
 | _,_,0,_=>.nil
 | _,_,_+1,.nil=>.nil
 | _,_,n+1,.cons r t=>.cons r (Vals.take n t)
theorem Vals.drop:∀ {xs:List V} {us:List Value} (n:Nat),Vals xs us->Vals (xs.drop n) (us.drop n)
 | _,_,0,r=>r
 | _,_,_+1,.nil=>.nil
 | _,_,n+1,.cons _ t=>Vals.drop n t
def RelO:Option V->Option Value->Prop
 | some v,some u=>RelV v u
 | none,none=>True
 | _,_=>False
def KV {κ:Type}:List (κ×V)->List (κ×Value)->Prop:=Paired λ(p:κ×V) (q:κ×Value)=>p.1=q.1/\RelV p.2 q.2
def kV:Key->V
 | .inl i=>.int i
 | .inr x=>.str x
inductive HO where
 | lst (xs:List V)
 | tup (xs:List V)
 | dK (kvs:List (Key×V)) | dT (kvs:List (List Key×V))
 | set (S:Int->Bool) (n:Nat)
 | ins (C dx:Addr) (fs:List (Str×V))
 | own (x:Addr)
 | xd (fs:List (Str×V))
 | met (f x:Addr)
 | rng (lo hi:Int)
 | frz (o:Obj) (u:HO)
 | tbl (ps:Array Value)
 | ext (φ:Heap->Prop)
abbrev Hp:=Addr->Option HO
def upd (H:Hp) (a:Addr) (o:HO):Hp:=λb=>if b=a then some o else H b
theorem aA:upd H a o a=some o:=by unfold upd;rw[if_pos rfl]
theorem ak (h:b≠a):upd H a o b=H b:=by unfold upd;rw[if_neg h]
theorem B4 {H:Hp} (h:H a=some o) (h':H b=some u) (d:o≠u):a≠b:=by
 intro e;subst e;rw[h] at h';exact d (FL h')
theorem aO {H:Hp} (h:H a=some o) (h':H b=none):a≠b:=by
 intro e;subst e;rw[h] at h';cases h'
def DictOfE {prog:Program} {w:World} {κ:Type} [DecidableEq κ] (knd:KeyKind prog w κ) (h:Heap) (a:Addr) (kvs:List (κ×Value)):Prop :=
 ∃ o es b,h.get? a=some o/\o.ExactDict/\o.data=.dict es b/\KeysOf knd es/\Pairs knd es.toList kvs/\(kvs.map (·.1)).Nodup/\b=es.size
theorem DictOfE.of [DecidableEq κ] {knd:KeyKind prog w κ} {kvs:List (κ×Value)} (x:DictOfE knd h a kvs):h.DictOf knd a kvs:=let ⟨o,es,b,h1,h2,h3,c,e,d,_⟩:=x;⟨o,es,b,h1,h2,h3,c,e,d⟩
def IsTupD (h:Heap) (a:Addr) (items:Array Value):Prop:=∃ o,h.get? a=some o/\o.cls=.type "tuple"/\∃ n,(o.data,o.dict)=(Data.seq items n,none)
theorem IsTupD.tup {h:Heap} {a:Addr} {items:Array Value} (x:IsTupD h a items):IsTup h a items:=let ⟨o,e,c,n,d⟩:=x;⟨o,e,c,n,congrArg Prod.fst d⟩
theorem IsTupD.lt (x:IsTupD h a items):a < h.objs.size:=x.tup.lt
theorem IsTupD.new (h:Heap) (items:Array Value):IsTupD (h.push { cls:=.type "tuple",data:=.seq items }) h.objs.size items:=⟨_,E9 h rfl,rfl,_,rfl⟩
section
variable (P:Program) (w:World)
def ObjOk (H:Hp) (h:Heap) (a:Addr):HO->Prop
 | .lst xs=>xs.length<=sizeLine/\∃ (its:List Value) (n:Nat),Vals xs its/\h.get? a=some { cls:=.type "list",data:=.seq its.toArray n }
 | .tup xs=>xs.length<=sizeLine/\∃ its:List Value,Vals xs its/\IsTupD h a its.toArray
 | .dK kvs=>kvs.length<=sizeLine/\(a == sysModules)=false/\∃ vs,KV kvs vs/\DictOfE (bE P w) h a vs
 | .dT kvs=>kvs.length<=sizeLine/\(a == sysModules)=false/\∃ xs:List (List Key×Addr×Value),
   Paired (λ(p:List Key×V) (q:List Key×Addr×Value)=>p.1=q.1/\H q.2.1=some (.tup (p.1.map kV))/\RelV p.2 q.2.2) kvs xs /\
   ∃ o es c,h.get? a=some o/\o.ExactDict/\o.data=.dict es c/\es.toList=xs.map (entryOfKey (tupleKind (bE P w)))/\(xs.map (·.1)).Nodup/\c=es.size
 | .set S n=>h.SetOf (intKind P w) a S n
 | .ins C dx fs=>H dx=some (.own a)/\fs.length<=1000/\dx≠a/\h.get? a=some (PySem.W.instObj C dx) /\
   ∃ b,h.Ns1 dx b/\(∀ f,RelO (fs.lookup f) (b f))/\PySem.Within b (fs.map (·.1))
 | .own _=>∃ o,h.get? a=some o
 | .xd fs=>∃ b,h.Ns1 a b/\∀ f,RelO (fs.lookup f) (b f)
 | .rng lo hi=>∃ t u v,h.get? a=some { cls:=.type "range",data:=.fields #[.int lo t,.int hi u,.int 1 v] }
 | .frz o u=>h.get? a=some o/\ObjOk H h a u
 | .tbl ps=>h.get? a=some { cls:=.none,data:=.fields ps }
 | .met f x=>h.get? a=some (PySem.W.methodObj (.ref f) (.ref x))
 | .ext φ=>φ h/\(∃ o,h.get? a=some o)/\∀ h1 h2:Heap,φ h1->(∀ o,h1.get? a=some o->h2.get? a=some o)->φ h2
def HOk (H:Hp) (h:Heap):Prop:=∀ a o,H a=some o->ObjOk P w H h a o
end
section
variable {P:Program} {w:World} {H H':Hp} {h h':Heap} {a:Addr} {o:HO}
theorem ObjOk.lt (x:ObjOk P w H h a o):a < h.objs.size:=by
 cases o with
 | lst xs=>obtain ⟨_,_,_,_,e⟩:=x;exact E7 e
 | tup xs=>obtain ⟨_,_,_,p⟩:=x;exact p.lt
 | dK kvs=>obtain ⟨_,_,_,_,o,_,_,e,_⟩:=x;exact E7 e
 | dT kvs=>obtain ⟨_,_,_,_,o,_,_,e,_⟩:=x;exact E7 e
 | set S n=>obtain ⟨o,_,_,_,e,_⟩:=x;exact E7 e
 | ins C dx fs=>obtain ⟨_,_,_,e,_⟩:=x;exact E7 e
 | own y=>obtain ⟨_,e⟩:=x;exact E7 e
 | xd fs=>obtain ⟨_,⟨_,_,_,e,_⟩,_⟩:=x;exact E7 e
 | rng lo hi=>obtain ⟨_,_,_,e⟩:=x;exact E7 e
 | frz ob u=>obtain ⟨e,_⟩:=x;exact E7 e
 | tbl ps=>exact E7 (show h.get? a=some _ from x)
 | met f y=>exact E7 (show h.get? a=some _ from x)
 | ext φ=>obtain ⟨_,⟨_,e⟩,_⟩:=x;exact E7 e
theorem Paired.mapP:∀ {d:List α} {c:List β},Paired F d c->(∀ a b,F a b->G a b)->Paired G d c
 | _,_,.nil,_=>.nil
 | _,_,.cons r t,f=>.cons (f _ _ r) (Paired.mapP t f)
theorem ObjOk.stay (x:ObjOk P w H h a o) (k:∀ b u,(b=a\/H b=some (.own a))->h.get? b=some u->h'.get? b=some u)
  (j:∀ b,H b=some (.own a)->H' b=some (.own a)) (l:∀ b xs,H b=some (.tup xs)->H' b=some (.tup xs)):ObjOk P w H' h' a o:=by
 induction o with
 | lst xs=>obtain ⟨z,its,n,r,e⟩:=x;exact ⟨z,its,n,r,k _ _ (.inl rfl) e⟩
 | tup xs=>obtain ⟨z,its,r,ob,e,c⟩:=x;exact ⟨z,its,r,ob,k _ _ (.inl rfl) e,c⟩
 | dK kvs=>obtain ⟨z,y,vs,r,ob,es,g,e,c⟩:=x;exact ⟨z,y,vs,r,ob,es,g,k _ _ (.inl rfl) e,c⟩
 | dT kvs =>
  obtain ⟨z,y,xs,r,ob,es,g,e,c⟩:=x
  exact ⟨z,y,xs,Paired.mapP r λp q z=>⟨z.1,l _ _ z.2.1,z.2.2⟩,ob,es,g,k _ _ (.inl rfl) e,c⟩
 | set S n=>obtain ⟨ob,es,g,t,e,c⟩:=x;exact ⟨ob,es,g,t,k _ _ (.inl rfl) e,c⟩
 | ins C dx fs =>
  obtain ⟨d,z,ne,e,i,⟨od,es,g,m,c⟩,r⟩:=x
  exact ⟨j _ d,z,ne,k _ _ (.inl rfl) e,i,⟨od,es,g,k _ _ (.inr d) m,c⟩,r⟩
 | own y=>obtain ⟨ob,e⟩:=x;exact ⟨ob,k _ _ (.inl rfl) e⟩
 | xd fs=>obtain ⟨i,⟨od,es,g,e,c⟩,r⟩:=x;exact ⟨i,⟨od,es,g,k _ _ (.inl rfl) e,c⟩,r⟩
 | rng lo hi=>obtain ⟨t,u,v,e⟩:=x;exact ⟨t,u,v,k _ _ (.inl rfl) e⟩
 | frz ob u ih=>obtain ⟨e,q⟩:=x;exact ⟨k _ _ (.inl rfl) e,ih q⟩
 | tbl ps =>
  have e:h.get? a=some { cls:=.none,data:=.fields ps }:=x
  show h'.get? a=some { cls:=.none,data:=.fields ps }
  exact k a _ (.inl rfl) e
 | met f y =>
  have e:h.get? a=some (PySem.W.methodObj (.ref f) (.ref y)):=x
  show h'.get? a=some (PySem.W.methodObj (.ref f) (.ref y))
  exact k a _ (.inl rfl) e
 | ext φ=>obtain ⟨p,⟨o,e⟩,st⟩:=x;exact ⟨st _ _ p λo q=>k _ _ (.inl rfl) q,⟨o,k _ _ (.inl rfl) e⟩,st⟩
theorem HOk.lt (x:HOk P w H h) (e:H a=some o):a < h.objs.size:=(x a o e).lt
theorem HOk.fresh (x:HOk P w H h) (e:h.objs.size<=a):H a=none:=by
 cases q:H a with
 | none=>rfl
 | some u=>exact absurd (Fq (x.lt q) e) (Nat.lt_irrefl _)
theorem HOk.kept (x:HOk P w H h) (k:∀ b u,h.get? b=some u->h'.get? b=some u):HOk P w H h':=λa o e =>
 (x a o e).stay (λb u _ q=>k b u q) (λ_ q=>q) λ_ _ q=>q
theorem HOk.laid (x:HOk P w H h) (k:∀ b u,h.get? b=some u->h'.get? b=some u) (g:h.objs.size<=a) (new:ObjOk P w (upd H a o) h' a o):HOk P w (upd H a o) h':=λb u e=>by
 have f:=x.fresh g
 by_cases d:b=a
 ·subst d;rw[aA] at e;cases e;exact new
 ·rw[ak d] at e
  exact (x b u e).stay (λc v _ q=>k c v q) (λc q=>by rw[ak (aO q f)];exact q) λc xs q=>by rw[ak (aO q f)];exact q
end
def Rd (H:Hp) (a:Addr) (u:HO):Prop:=H a=some u\/∃ o,H a=some (.frz o u)
theorem Rd.ok (r:Rd H a u) (x:HOk P w H h):ObjOk P w H h a u:=by
 rcases r with r | ⟨o,r⟩
 ·exact x a u r
 ·obtain ⟨_,q⟩:=x a _ r
  exact q
def Mut:Option HO->Prop
 | some (.lst _)=>True
 | some (.dK _)=>True
 | some (.dT _)=>True
 | some (.set _ _)=>True
 | some (.ins _ _ _)=>True
 | some (.ext _)=>True
 | _=>False
section
variable {P:Program} {w:World} {H:Hp} {h h':Heap} {x e:Addr} {o':HO}
theorem HOk.write (ok:HOk P w H h) (j:Mut (H x)) (he:e=x\/H e=some (.own x)) (k:∀ b u,b≠e->h.get? b=some u->h'.get? b=some u) (l:∃ u,h'.get? e=some u)
  (new:ObjOk P w (upd H x o') h' x o'):HOk P w (upd H x o') h':=λb u q=>by
 have d:∀ c y,H c=some (.own y)->c≠x:=λc y r z=>by subst z;rw[r] at j;exact j
 have f:∀ c xs,H c=some (.tup xs)->c≠x:=λc xs r z=>by subst z;rw[r] at j;exact j
 by_cases i:b=x
 ·subst i;rw[aA] at q;cases q;exact new
 ·rw[ak i] at q
  by_cases a:b=e
  ·have m:H b=some (.own x):=by
    rcases he with z | z
    ·exact absurd (a.trans z) i
    ·rw[a];exact z
   rw[q] at m;cases m
   obtain ⟨v,n⟩:=l
   exact ⟨v,by rw[a];exact n⟩
  ·refine (ok b u q).stay (λc v g r=>k c v ?_ r) (λc r=>by rw[ak (d c b r)];exact r) λc xs r=>by rw[ak (f c xs r)];exact r
   rcases g with rfl | g
   ·exact a
   ·rintro rfl
    rcases he with z | z
    ·exact d c b g z
    ·rw[g] at z;cases z;exact i rfl
end
structure Un (fs ex:List Addr) (H H':Hp) (h h':Heap):Prop where
 keep:∀ b o,h.get? b=some o->H b=none->b ∉ fs->b ∉ ex->h'.get? b=some o
 slot:∀ b o,h.get? b=some o->H b=none->b∈fs->b ∉ ex->∃ sl,h'.get? b=some { o with slots:=sl }
 free:∀ b o,h.get? b=some o->H b=none->b ∉ ex->H' b=none
 there:∀ b o,h.get? b=some o->b ∉ ex->∃ o',h'.get? b=some o'
 tups:∀ b xs,H b=some (.tup xs)->H' b=some (.tup xs)
 frzs:∀ b o u,H b=some (.frz o u)->H' b=some (.frz o u)
 tbls:∀ b ps,H b=some (.tbl ps)->∃ more,H' b=some (.tbl (ps++more))
section
variable {fs fs' ex ex':List Addr} {H H1 H2:Hp} {h h1 h2 h':Heap} {a x e:Addr} {o:HO}
theorem Un.any (u:Un fs ex H H1 h h1) (q:h.get? b=some ob) (n:H b=none) (c:b ∉ ex):∃ sl,h1.get? b=some { ob with slots:=sl }:=by
 by_cases a:b∈fs
 ·exact u.slot b ob q n a c
 ·exact ⟨ob.slots,u.keep b ob q n a c⟩
theorem Un.trans (a:Un fs ex H H1 h h1) (b:Un fs ex H1 H2 h1 h2):Un fs ex H H2 h h2 where
 keep:=λc ob q n e d=>b.keep c ob (a.keep c ob q n e d) (a.free c ob q n d) e d
 slot:=λc ob q n e d=>by
  obtain ⟨sl,e1⟩:=a.slot c ob q n e d
  obtain ⟨g,f⟩:=b.slot c _ e1 (a.free c ob q n d) e d
  exact ⟨g,f⟩
 free:=λc ob q n d=>by
  obtain ⟨o',e1⟩:=a.there c ob q d
  exact b.free c o' e1 (a.free c ob q n d) d
 there:=λc ob q d=>by
  obtain ⟨o',e1⟩:=a.there c ob q d
  exact b.there c o' e1 d
 tups:=λc xs q=>b.tups c xs (a.tups c xs q)
 frzs:=λc ob xs q=>b.frzs c ob xs (a.frzs c ob xs q)
 tbls:=λc ps q=>by
  obtain ⟨j,e1⟩:=a.tbls c ps q
  obtain ⟨i,f⟩:=b.tbls c _ e1
  exact ⟨j++i,by rw[f,Array.append_assoc]⟩
theorem Un.kept (k:∀ b u,h.get? b=some u->h'.get? b=some u):Un fs ex H H h h' :=
 ⟨λb ob q _ _ _=>k b ob q,λb ob q _ _ _=>⟨ob.slots,k b ob q⟩,λ_ _ _ n _=>n,λb ob q _=>⟨ob,k b ob q⟩,λ_ _ q=>q,λ_ _ _ q=>q,λ_ ps q=>⟨#[],by rw[q];simp⟩⟩
theorem Un.refl:Un fs ex H H h h:=Un.kept λ_ _ q=>q
theorem Un.laid (k:∀ b u,h.get? b=some u->h'.get? b=some u) (d:h.objs.size<=a) (c:H a=none):Un fs ex H (upd H a o) h h' where
 keep:=λb u q _ _ _=>k b u q
 slot:=λb u q _ _ _=>⟨u.slots,k b u q⟩
 free:=λb u q n _=>by rw[ak (Fi (Fq (E7 q) d))];exact n
 there:=λb u q _=>⟨u,k b u q⟩
 tups:=λb xs q=>by rw[ak (aO q c)];exact q
 frzs:=λb u xs q=>by rw[ak (aO q c)];exact q
 tbls:=λb ps q=>⟨#[],by rw[ak (aO q c),q];simp⟩
theorem Un.write (c:Mut (H x)) (he:e=x\/H e=some (.own x)) (k:∀ b u,b≠e->h.get? b=some u->h'.get? b=some u) (d:∃ u,h'.get? e=some u):Un fs ex H (upd H x o) h h':=by
 have g:∀ b,H b=none->b≠x:=λb n z=>by subst z;rw[n] at c;exact c
 have f:∀ b,H b=none->b≠e:=λb n z=>by
  subst z
  rcases he with r | r
  ·exact g b n r
  ·rw[n] at r;cases r
 have hm:∀ b u,H b=some u->¬ Mut (some u)->b≠x:=λb u q nm z=>by subst z;rw[q] at c;exact nm c
 refine ⟨λb u q n _ _=>k b u (f b n) q,λb u q n _ _=>⟨u.slots,k b u (f b n) q⟩,λb u q n _=>by rw[ak (g b n)];exact n,λb u q _=>?_,
  λb xs q=>by rw[ak (hm b _ q λz=>z)];exact q,λb u xs q=>by rw[ak (hm b _ q λz=>z)];exact q,λb ps q=>⟨#[],by rw[ak (hm b _ q λz=>z),q];simp⟩⟩
 by_cases a:b=e
 ·subst a;exact d
 ·exact ⟨u,k b u a q⟩
end
def trk (h:Heap) (H:Hp):List Addr:=(List.range h.objs.size).filter λa=>(H a).isSome
def oT (h:Heap) (H:Hp):Heap:=PySem.W.hideAll h (trk h H)
theorem vG (h:Heap) (H:Hp):(oT h H).objs.size=h.objs.size:=PySem.W.hideAll_size _ _
theorem yN (e:h.get? b=some o) (n:H b=none):(oT h H).get? b=some o :=
 PySem.W.hideAll_get _ e λhm=>by
  have q:(H b).isSome=true:=(FC.mp hm).2
  rw[n] at q;simp at q
theorem AQ (e:(oT h H).get? b=some o):h.get? b=some o/\H b=none:=by
 have a:h.get? b=some o:=PySem.W.of_hideAll (trk h H) e
 refine ⟨a,?_⟩
 cases q:H b with
 | none=>rfl
 | some x =>
  have hm:b∈trk h H:=FC.mpr ⟨List.mem_range.mpr (E7 a),by simp[q]⟩
  have z:(oT h H).get? b=none:=PySem.W.hideAll_none (trk h H) hm
  rw[z] at e;cases e
def BI (g h:Heap) (L:Addr):List (Addr×Obj):=(List.range h.objs.size).filterMap λa=>if a=L\/(g.get? a).isSome=true then none else (h.get? a).map λo=>(a,o)
def rest (g h:Heap) (L d:Addr):List (Addr×Obj):=(BI g h L).filter λp=>decide (p.1≠d)
end L2
namespace L2
open PySem PySem.Spec PyProof.Rows
structure Mod (K:FG) (mg:Str->Option Value) (base:Heap):Prop where
 kin:K.In base
 glob:base.Ns mainGlobals mg
 blt:∃ mb,base.Ns builtinsNs mb/\∀ x:Str,x≠"__name__"->mb x=bootBuiltins x
 nolimit:base.NoLimit
structure Cx where
 prog:Program
 w:World
 K:FG
 mg:Str->Option Value
 base:Heap
 A:Around
 N:List Str
 s₀:Shared
 H₀:Hp
 env:Env
 outer:List Env
 stack:List Env
 ex:List Addr
 fn:Str->Bool
 calm:Bool
 pn:List (Addr×Obj)
 xe:Value->Shared->Prop
def frs (l:List Env):List Addr:=l.filterMap (·.frame)
abbrev Cx.fs (X:Cx):List Addr:=frs X.outer
def Vis (sc:Scope) (x:Str):Prop:=sc.names.lookup x=some .local\/sc.names.lookup x=some .cell\/sc.names.lookup x=some .free
def Loc (sc:Scope) (x:Str):Prop:=sc.names.lookup x=some .local\/sc.names.lookup x=some .cell
def Look (env:Env) (h:Heap) (m:Str->Option Value) (x:Str) (u:Value):Prop :=
 (env.kindOf x=some .local/\m x=some u)\/((env.kindOf x=some .cell\/env.kindOf x=some .free)/\∃ c,env.cells.lookup x=some c/\h.IsCell c (some u))
structure Cx.Ok (X:Cx):Prop where
 mod:Mod X.K X.mg X.base
 kind:X.env.scope.kind=.function
 glob:X.env.globals=mainGlobals
 blt:X.env.builtins=builtinsNs
 above:X.s₀.heap.objs.size<=X.env.locals
 inj:∀ x y c,X.env.cells.lookup x=some c->X.env.cells.lookup y=some c->x=y
 has:∀ x,(X.env.kindOf x=some .cell\/X.env.kindOf x=some .free)->∃ c,X.env.cells.lookup x=some c
 cab:∀ x c,X.fn x=true->X.env.cells.lookup x=some c->X.s₀.heap.objs.size<=c
 hd:X.calm=true->X.A.handled=none
 frames:X.A.frames=some X.stack
 stk:X.stack=X.outer\/(X.stack=X.env::X.outer/\X.env.frame=some X.env.locals)
 exf:∀ b∈X.ex,b≠X.env.locals/\∀ x c,X.env.cells.lookup x=some c->c≠b
 bs:∀ b o,X.base.get? b=some o->X.s₀.heap.get? b=some o/\X.H₀ b=none
 bsz:X.base.objs.size<=X.s₀.heap.objs.size
 noex:∀ b o,X.base.get? b=some o->b ∉ X.ex
 exfs:∀ b∈X.ex,b ∉ X.fs
 funs:X.s₀.heap.FunFrames X.base X.outer
 frf:∀ b∈X.fs,X.H₀ b=none
structure Inv (X:Cx) (pins:List (Addr×Obj)) (σ:List (Option V)) (H:Hp) (s:Shared):Prop where
 ok:X.Ok
 os:s.os=X.s₀.os
 bare:AllBare s.gens
 base:Un X.fs X.ex X.H₀ H X.s₀.heap s.heap
 loc:∃ m,s.heap.Ns X.env.locals m/\∀ (i:Nat) (x:Str) (v:V),X.N[i]?=some x->σ[i]?=some (some v)->Vis X.env.scope x->∃ u,RelV v u/\Look X.env s.heap m x u
 cell:∀ x c,X.env.cells.lookup x=some c->∃ v,s.heap.IsCell c v
 free:H X.env.locals=none
 freeC:∀ x c,X.env.cells.lookup x=some c->H c=none
 pin:∀ p∈X.pn++pins,s.heap.get? p.1=some p.2/\H p.1=none/\p.1≠X.env.locals/\p.1 ∉ X.fs/\∀ v,p.2.data≠.cell v
 hok:HOk X.prog X.w H s.heap
 len:σ.length=X.N.length
section
variable {X:Cx} {pins:List (Addr×Obj)} {σ:List (Option V)} {H H':Hp} {s:Shared} {h':Heap}
theorem Cx.Ok.nofr (ok:X.Ok) (e:X.base.get? b=some o):b ∉ X.fs:=λa=>by
 have:=(ok.funs.mem a).1
 rw[e] at this;cases this
theorem Inv.bs (I:Inv X pins σ H s):∀ b o,X.base.get? b=some o->s.heap.get? b=some o/\H b=none:=λb o e =>
 ⟨I.base.keep b o (I.ok.bs b o e).1 (I.ok.bs b o e).2 (I.ok.nofr e) (I.ok.noex b o e),I.base.free b o (I.ok.bs b o e).1 (I.ok.bs b o e).2 (I.ok.noex b o e)⟩
theorem Inv.bk (I:Inv X pins σ H s):∀ b o,X.base.get? b=some o->s.heap.get? b=some o:=λb o e=>(I.bs b o e).1
theorem Inv.mod (I:Inv X pins σ H s):Mod X.K X.mg X.base:=I.ok.mod
theorem Inv.kIn (I:Inv X pins σ H s):X.K.In s.heap:=I.ok.mod.kin.keeps I.bk
theorem Inv.lt (I:Inv X pins σ H s):X.env.locals < s.heap.objs.size:=let ⟨_,a,_⟩:=I.loc;a.lt
theorem Inv.sz (I:Inv X pins σ H s):X.s₀.heap.objs.size<=s.heap.objs.size:=FH I.ok.above (Nat.le_of_lt I.lt)
theorem Inv.nofs (I:Inv X pins σ H s) (h:s.heap.objs.size<=a):a ∉ X.fs:=λc=>by
 obtain ⟨_,o,b,_⟩:=I.ok.funs.mem c
 exact absurd (Fq (E7 b) (FH I.sz h)) (Nat.lt_irrefl _)
theorem Inv.cne (I:Inv X pins σ H s):∀ x c,X.env.cells.lookup x=some c->c≠X.env.locals:=λx c e z=>by
 obtain ⟨v,o,d,hd⟩:=I.cell x c e
 obtain ⟨m,⟨o',es,f,b,a,_⟩,_⟩:=I.loc
 rw[z,b] at d;cases d;rw[a] at hd;cases hd
theorem Inv.funs (I:Inv X pins σ H s):s.heap.FunFrames X.base X.outer:=by
 have all:∀ (l:List Env),(∀ b∈frs l,b∈X.fs)->X.s₀.heap.FunFrames X.base l->s.heap.FunFrames X.base l:=by
  intro l
  induction l with
  | nil=>intro _ _;trivial
  | cons env r ih =>
   intro hs hl
   obtain ⟨g,⟨L,o,hf,h,f,hd⟩,d⟩:=hl
   have a:L∈X.fs:=hs L (by unfold frs;rw[List.filterMap_cons,hf];exact EW)
   obtain ⟨sl,e⟩:=I.base.slot L o f (I.ok.frf L a) a λz=>I.ok.exfs L z a
   exact ⟨g,⟨L,_,hf,h,e,hd⟩,ih (λb c=>hs b (by unfold frs;rw[List.filterMap_cons,hf];exact EY _ c)) d⟩
 exact all X.outer (λ_ c=>c) I.ok.funs
theorem Inv.stack (I:Inv X pins σ H s):s.heap.FunFrames X.base X.stack:=by
 rcases I.ok.stk with e | ⟨e,hf⟩
 ·rw[e];exact I.funs
 ·rw[e]
  obtain ⟨m,a,_⟩:=I.loc
  refine .cons (by rw[I.ok.kind];decide) hf a ?_ I.funs
  exact Heap.get?_none_of_le (FH I.ok.bsz I.ok.above)
theorem Inv.stkSub (I:Inv X pins σ H s):∀ b∈frs X.stack,b∈X.env.locals::X.fs:=λb a=>by
 rcases I.ok.stk with e | ⟨e,hf⟩
 ·rw[e] at a;exact EY _ a
 ·rw[e] at a
  unfold frs at a
  rw[List.filterMap_cons,hf] at a
  exact a
theorem Inv.stkFree (I:Inv X pins σ H s):∀ b∈frs X.stack,H b=none:=λb a=>by
 rcases E5.mp (I.stkSub b a) with e | a
 ·rw[e];exact I.free
 ·obtain ⟨_,o,c,_⟩:=I.ok.funs.mem a
  exact I.base.free b o c (I.ok.frf b a) λz=>I.ok.exfs b z a
theorem Inv.step {t':Nat} {ch:List Addr} (I:Inv X pins σ H s) (g:∀ b∈ch,(b∈X.ex\/X.s₀.heap.objs.size<=b)/\b≠X.env.locals/\(∀ x c,X.env.cells.lookup x=some c->c≠b)/\∀ p∈X.pn++pins,p.1≠b) (keep:∀ b o,b≠X.env.locals->b ∉ X.fs->b ∉ ch->s.heap.get? b=some o->H b=none->h'.get? b=some o) (slot:∀ b o,b≠X.env.locals->b∈X.fs->b ∉ ch->s.heap.get? b=some o->H b=none->∃ sl,h'.get? b=some { o with slots:=sl }) (free:∀ b o,b ∉ ch->s.heap.get? b=some o->H b=none->H' b=none) (there:∀ b o,b ∉ ch->s.heap.get? b=some o->∃ o',h'.get? b=some o') (tups:∀ b xs,H b=some (.tup xs)->H' b=some (.tup xs)) (frzs:∀ b o u,H b=some (.frz o u)->H' b=some (.frz o u)) (tbls:∀ b ps,H b=some (.tbl ps)->∃ more,H' b=some (.tbl (ps++more))) (ns:∀ m,s.heap.Ns X.env.locals m->h'.Ns X.env.locals m) (hok:HOk X.prog X.w H' h') (G:AllBare g') :
  Inv X pins σ H' { s with heap:=h',gens:=g',drawn:=d',toks:=t' }:=by
 have y:∀ b o,X.s₀.heap.get? b=some o->b≠X.env.locals:=λb o e=>Fi (Fq (E7 e) I.ok.above)
 have h:∀ b o,X.s₀.heap.get? b=some o->b ∉ X.ex->b ∉ ch:=λb o e a j=>by
  rcases (g b j).1 with z | z
  ·exact a z
  ·exact absurd (Fq (E7 e) z) (Nat.lt_irrefl _)
 have cellK:∀ x c,X.env.cells.lookup x=some c->∀ v,s.heap.IsCell c v->h'.IsCell c v:=λx c e v ⟨o,t,hd⟩=>by
  have f:c ∉ ch:=λz=>(g c z).2.2.1 x c e rfl
  by_cases C:c∈X.fs
  ·obtain ⟨sl,q⟩:=slot c o (I.cne x c e) C f t (I.freeC x c e)
   exact ⟨_,q,hd⟩
  ·exact ⟨o,keep c o (I.cne x c e) C f t (I.freeC x c e),hd⟩
 refine ⟨I.ok,I.os,G,⟨λb o e n j a=>?_,λb o e n j a=>?_,λb o e n a=>?_,λb o e a=>?_,λb xs e=>tups b xs (I.base.tups b xs e),λb o xs e=>frzs b o xs (I.base.frzs b o xs e),λb ps e=>?_⟩,?_,λx c e=>?_,?_,λx c e=>?_,λp D=>?_,hok,I.len⟩
 ·exact keep b o (y b o e) j (h b o e a) (I.base.keep b o e n j a) (I.base.free b o e n a)
 ·obtain ⟨sl,e1⟩:=I.base.slot b o e n j a
  obtain ⟨B,A⟩:=slot b _ (y b o e) j (h b o e a) e1 (I.base.free b o e n a)
  exact ⟨B,A⟩
 ·obtain ⟨o',e1⟩:=I.base.there b o e a
  exact free b o' (h b o e a) e1 (I.base.free b o e n a)
 ·obtain ⟨o',e1⟩:=I.base.there b o e a
  exact there b o' (h b o e a) e1
 ·obtain ⟨J,e1⟩:=I.base.tbls b ps e
  obtain ⟨F,A⟩:=tbls b _ e1
  exact ⟨J++F,by rw[A,Array.append_assoc]⟩
 ·obtain ⟨m,L,hl⟩:=I.loc
  refine ⟨m,ns m L,λi x v e1 A K=>?_⟩
  obtain ⟨u,r,l⟩:=hl i x v e1 A K
  refine ⟨u,r,?_⟩
  rcases l with l | ⟨k,c,e,z⟩
  ·exact .inl l
  ·exact .inr ⟨k,c,e,cellK x c e _ z⟩
 ·obtain ⟨v,z⟩:=I.cell x c e
  exact ⟨v,cellK x c e v z⟩
 ·obtain ⟨m,⟨o,_,_,t,_⟩,_⟩:=I.loc
  exact free _ o (λz=>(g _ z).2.1 rfl) t I.free
 ·obtain ⟨v,o,t,hd⟩:=I.cell x c e
  exact free c o (λz=>(g c z).2.2.1 x c e rfl) t (I.freeC x c e)
 ·obtain ⟨e,n,ne,E,d⟩:=I.pin p D
  have f:p.1 ∉ ch:=λz=>(g p.1 z).2.2.2 p D rfl
  exact ⟨keep p.1 p.2 ne E f e n,free p.1 p.2 f e n,ne,E,d⟩
theorem Inv.un {t':Nat} (I:Inv X pins σ H s) (u:Un X.fs [] H H' s.heap h') (hok:HOk X.prog X.w H' h'):Inv X pins σ H' { s with heap:=h',toks:=t' }:=by
 obtain ⟨m,⟨o,es,j,g,r⟩,_⟩:=id I.loc
 obtain ⟨sl,h⟩:=u.any g I.free (by simp)
 exact I.step (g':=s.gens) (d':=s.drawn) (ch:=[]) (λ_ z=>nomatch z) (λb o _ d _ e n=>u.keep b o e n d (by simp)) (λb o _ d _ e n=>u.slot b o e n d (by simp)) (λb o _ e n=>u.free b o e n (by simp)) (λb o _ e=>u.there b o e (by simp)) u.tups u.frzs u.tbls (λm' hm=>by
  obtain ⟨o',f,c,a,i⟩:=hm
  rw[g] at a;cases a
  exact ⟨_,f,c,h,i⟩) hok I.bare
theorem Inv.call {t':Nat} (I:Inv X pins σ H s) (u:Un (frs X.stack) ch H H' s.heap h') (hok:HOk X.prog X.w H' h') (k:AllBare g') (f:∀ b∈ch,(b∈X.ex\/X.s₀.heap.objs.size<=b)/\b≠X.env.locals/\(∀ x c,X.env.cells.lookup x=some c->c≠b)/\∀ p∈X.pn++pins,p.1≠b) :
  Inv X pins σ H' { s with heap:=h',gens:=g',drawn:=d',toks:=t' }:=by
 obtain ⟨m,⟨o,es,t,j,r⟩,_⟩:=id I.loc
 obtain ⟨sl,g⟩:=u.any j I.free λz=>(f _ z).2.1 rfl
 exact I.step (ch:=ch) f (λb o g l a e n=>u.keep b o e n (λz=>(E5.mp (I.stkSub b z)).elim g l) a) (λb o _ _ a e n=>u.any e n a) (λb o a e n=>u.free b o e n a) (λb o a e=>u.there b o e a) u.tups u.frzs u.tbls (λm' hm=>by
  obtain ⟨o',i,h,d,q⟩:=hm
  rw[j] at d;cases d
  exact ⟨_,i,h,g,q⟩) hok k
theorem Inv.turned {t':Nat} (I:Inv X pins σ H s) (k:∀ b o,b≠it->s.heap.get? b=some o->h'.get? b=some o) (j:H it=none) (f:it≠X.env.locals) (h1:it∈X.ex\/X.s₀.heap.objs.size<=it) (h2:∀ x c,X.env.cells.lookup x=some c->c≠it) (h3:∀ p∈X.pn++pins,p.1≠it):Inv X pins σ H { s with heap:=h',toks:=t' }:=by
 have d:∀ b u,H b=some u->b≠it:=λb u e z=>by rw[z,j] at e;cases e
 refine I.step (g':=s.gens) (d':=s.drawn) (ch:=[it]) (λb i=>?_) (λb o _ _ a e _=>k b o (λz=>a (by simp[z])) e) (λb o _ _ a e _=>⟨o.slots,k b o (λz=>a (by simp[z])) e⟩) (λ_ _ _ _ n=>n)
  (λb o a e=>⟨o,k b o (λz=>a (by simp[z])) e⟩) (λ_ _ e=>e) (λ_ _ _ e=>e) (λb ps e=>⟨#[],by rw[e];simp⟩) (λm hm=>?_) (λb u e=>?_) I.bare
 ·have e:b=it:=by simpa using i
  subst e
  exact ⟨h1,f,h2,h3⟩
 ·obtain ⟨o,es,g,h,r⟩:=hm
  exact ⟨o,es,g,k _ o (Ne.symm f) h,r⟩
 ·refine (I.hok b u e).stay (λc v a q=>k c v ?_ q) (λ_ q=>q) λ_ _ q=>q
  rcases a with z | z
  ·rw[z];exact d b u e
  ·exact d c _ z
theorem Inv.tok (I:Inv X pins σ H s) (t:Nat):Inv X pins σ H { s with toks:=t }:=I.un (h':=s.heap) (t':=t) Un.refl I.hok
theorem Inv.kept {t':Nat} (I:Inv X pins σ H s) (k:∀ b u,s.heap.get? b=some u->h'.get? b=some u):Inv X pins σ H { s with heap:=h',toks:=t' }:=I.un (Un.kept k) (I.hok.kept k)
theorem Inv.laid {t':Nat} (I:Inv X pins σ H s) (k:∀ b u,s.heap.get? b=some u->h'.get? b=some u) (c:s.heap.objs.size<=a) (new:ObjOk X.prog X.w (upd H a o) h' a o) :
  Inv X pins σ (upd H a o) { s with heap:=h',toks:=t' }:=I.un (Un.laid k c (I.hok.fresh c)) (I.hok.laid k c new)
theorem Inv.write {t':Nat} (I:Inv X pins σ H s) (c:Mut (H x)) (he:e=x\/H e=some (.own x)) (k:∀ b u,b≠e->s.heap.get? b=some u->h'.get? b=some u) (a:∃ u,h'.get? e=some u) (new:ObjOk X.prog X.w (upd H x o) h' x o):Inv X pins σ (upd H x o) { s with heap:=h',toks:=t' }:=I.un (Un.write c he k a) (I.hok.write c he k a new)
theorem Inv.pins_of (I:Inv X pins σ H s) (h:∀ p∈pins',s.heap.get? p.1=some p.2/\H p.1=none/\p.1≠X.env.locals/\p.1 ∉ X.fs/\∀ v,p.2.data≠.cell v):Inv X pins' σ H s :=
 ⟨I.ok,I.os,I.bare,I.base,I.loc,I.cell,I.free,I.freeC,λp a=>(E8.mp a).elim (λz=>I.pin p (E3 _ z)) (h p),I.hok,I.len⟩
theorem p5 {N:List Str} (d:N.Nodup) {i j:Nat} (a:N[i]?=some x) (b:N[j]?=some x):i=j:=by
 obtain ⟨h1,e1⟩:=Fb.mp a
 obtain ⟨h2,c⟩:=Fb.mp b
 exact (List.getElem_inj d).mp (e1.trans c.symm)
theorem mG {i:Nat} (I:Inv X pins σ H s) (hN:X.N.Nodup) (hi:X.N[i]?=some x) (l:Loc X.env.scope x) (r:RelV v u) (h:∀ s',Inv X pins (σ.set i (some v)) H s'->(∃ a,Heap.SameBut a s.heap s'.heap/\(a=X.env.locals\/X.env.cells.lookup x=some a))->Q () s') (hf:X.fn x=true\/X.env.scope.names.lookup x=some .local:=by first | exact .inl rfl | exact .inr rfl | assumption):wpAny M A (storeName X.env x u) Q E s:=by
 obtain ⟨m,Y,hl⟩:=id I.loc
 have L:(X.env.scope.kind == .class || (X.env.scope.kind == .module && X.env.locals != X.env.globals))=false:=by rw[I.ok.kind];rfl
 have hiσ:i < σ.length:=by rw[I.len];exact (Fb.mp hi).1
 have cne:=I.cne
 have f:∀ {a:Addr} {h':Heap},(∃ o,s.heap.get? a=some o/\H a=none)->Heap.SameBut a s.heap h'->HOk X.prog X.w H h':=λ{a h'} ha hs b ob e=>by
  obtain ⟨_,_,t⟩:=ha
  refine (I.hok b ob e).stay (λc S g q=>(hs.2 c ?_).trans q) (λ_ q=>q) λ_ _ q=>q
  rintro rfl
  rcases g with rfl | g
  ·rw[t] at e;cases e
  ·rw[t] at g;cases g
 rcases l with C | C
 ·refine wpAny_storeName_local C Y (λh' U hs=>?_) L
  obtain ⟨oL,_,_,T,_⟩:=id Y
  refine h _ ⟨I.ok,I.os,I.bare,⟨λb o e n D l=>?_,λb o e n D l=>?_,I.base.free,λb o e l=>?_,I.base.tups,I.base.frzs,I.base.tbls⟩,⟨_,U,λj y Z e1 B V=>?_⟩,λy c e=>?_,I.free,I.freeC,λp hp=>?_,f ⟨oL,T,I.free⟩ hs,by simpa using I.len⟩ ⟨_,hs,.inl rfl⟩
  ·exact (hs.2 b (Fi (Fq (E7 e) I.ok.above))).trans (I.base.keep b o e n D l)
  ·obtain ⟨sl,e1⟩:=I.base.slot b o e n D l
   exact ⟨sl,(hs.2 b (Fi (Fq (E7 e) I.ok.above))).trans e1⟩
  ·obtain ⟨o',e1⟩:=I.base.there b o e l
   exact ⟨o',(hs.2 b (Fi (Fq (E7 e) I.ok.above))).trans e1⟩
  ·by_cases F:j=i
   ·subst F
    rw[hi] at e1;cases e1
    rw[List.getElem?_set_self hiσ] at B
    cases B
    exact ⟨u,r,.inl ⟨C,by simp⟩⟩
   ·rw[List.getElem?_set_ne (Ne.symm F)] at B
    obtain ⟨W,r',q⟩:=hl j y Z e1 B V
    refine ⟨W,r',?_⟩
    rcases q with ⟨k,e⟩ | ⟨k,c,e,z⟩
    ·refine .inl ⟨k,?_⟩
     have:y≠x:=λe=>F (p5 hN e1 (e ▸ hi))
     simp[this,e]
    ·exact .inr ⟨k,c,e,z.sameBut hs (cne y c e)⟩
  ·obtain ⟨S,z⟩:=I.cell y c e
   exact ⟨S,z.sameBut hs (cne y c e)⟩
  ·obtain ⟨e,n,ne,nf,d⟩:=I.pin p hp
   exact ⟨(hs.2 p.1 ne).trans e,n,ne,nf,d⟩
 ·have G:X.fn x=true:=by
   rcases hf with z | z
   ·exact z
   ·rw[z] at C;cases C
  obtain ⟨c,g⟩:=I.ok.has x (.inl C)
  obtain ⟨S,z⟩:=I.cell x c g
  refine wpAny_storeName_cell I.ok.kind C g z (λh' J hs=>?_)
  obtain ⟨oc,O,P⟩:=id z
  refine h { s with heap:=h' } ⟨I.ok,I.os,I.bare,⟨λb o e n D l=>?_,λb o e n D l=>?_,I.base.free,λb o e l=>?_,I.base.tups,I.base.frzs,I.base.tbls⟩,⟨m,Y.sameBut hs (Ne.symm (cne x c g)),λj y Z e1 B V=>?_⟩,λy R e=>?_,I.free,I.freeC,λp hp=>?_,f ⟨oc,O,I.freeC x c g⟩ hs,by simpa using I.len⟩ ⟨c,hs,.inr g⟩
  ·exact (hs.2 b (Fi (Fq (E7 e) (I.ok.cab x c G g)))).trans (I.base.keep b o e n D l)
  ·obtain ⟨sl,e1⟩:=I.base.slot b o e n D l
   exact ⟨sl,(hs.2 b (Fi (Fq (E7 e) (I.ok.cab x c G g)))).trans e1⟩
  ·obtain ⟨o',e1⟩:=I.base.there b o e l
   exact ⟨o',(hs.2 b (Fi (Fq (E7 e) (I.ok.cab x c G g)))).trans e1⟩
  ·by_cases F:j=i
   ·subst F
    rw[hi] at e1;cases e1
    rw[List.getElem?_set_self hiσ] at B
    cases B
    exact ⟨u,r,.inr ⟨.inl C,c,g,J⟩⟩
   ·rw[List.getElem?_set_ne (Ne.symm F)] at B
    obtain ⟨W,r',q⟩:=hl j y Z e1 B V
    refine ⟨W,r',?_⟩
    rcases q with q | ⟨k,R,e,z'⟩
    ·exact .inl q
    ·refine .inr ⟨k,R,e,z'.sameBut hs ?_⟩
     rintro rfl
     exact F (p5 hN e1 (I.ok.inj _ _ _ e g ▸ hi))
  ·by_cases K:R=c
   ·subst K;exact ⟨_,J⟩
   ·obtain ⟨w2,z2⟩:=I.cell y R e
    exact ⟨w2,z2.sameBut hs K⟩
  ·obtain ⟨e,n,ne,nf,d⟩:=I.pin p hp
   refine ⟨(hs.2 p.1 ?_).trans e,n,ne,nf,d⟩
   intro q
   rw[q,O] at e
   have q':oc=p.2:=FL e
   exact d S (by rw[<- q'];exact P)
theorem fT {i:Nat} (I:Inv X pins σ H s) (c:X.N.Nodup) (hi:X.N[i]?=some x) (a:Loc X.env.scope x) (r:RelV v u) (h:∀ s',Inv X pins (σ.set i (some v)) H s'->Q () s') (hf:X.fn x=true\/X.env.scope.names.lookup x=some .local:=by first | exact .inl rfl | exact .inr rfl | assumption):wpAny M A (storeName X.env x u) Q E s :=
 mG I c hi a r (λs' b _=>h s' b) hf
theorem Inv.call' (I:Inv X pins σ H s) (f:s'.os=s.os) (u:Un (frs X.stack) ch H H' s.heap s'.heap) (hok:HOk X.prog X.w H' s'.heap) (d:AllBare s'.gens) (a:∀ b∈ch,(b∈X.ex\/X.s₀.heap.objs.size<=b)/\b≠X.env.locals/\(∀ x c,X.env.cells.lookup x=some c->c≠b)/\∀ p∈X.pn++pins,p.1≠b):Inv X pins σ H' s':=by
 obtain ⟨h',g',d',t',o'⟩:=s'
 have e:o'=s.os:=f
 subst e
 exact I.call (g':=g') (t':=t') (d':=d') u hok d a
end
abbrev XK:=Value->Option Addr->Hp->Prop
abbrev St:=List (Option V)
abbrev VK:=V->Hp->Prop
abbrev TE:=St->Hp->VK->Prop
abbrev TT:=St->Hp->(Bool->Hp->Prop)->Prop
abbrev TA:=St->Hp->(List V->Hp->Prop)->Prop
structure Ends where
 nx:St->Hp->Prop
 rt:VK
 bk:St->Hp->Prop:=λ_ _=>False
 ct:St->Hp->Prop:=λ_ _=>False
abbrev TS:=Ends->St->Hp->Prop
def EP (X:Cx) (pins:List (Addr×Obj)) (σ:St) (Q:VK) (u:Value) (s':Shared):Prop:=∃ v H',Inv X pins σ H' s'/\RelV v u/\Q v H'
def TP (X:Cx) (pins:List (Addr×Obj)) (σ:St) (Q:Bool->Hp->Prop) (b:Bool) (s':Shared):Prop:=∃ H',Inv X pins σ H' s'/\Q b H'
def AP (X:Cx) (pins:List (Addr×Obj)) (σ:St) (Q:List V->Hp->Prop) (us:List Value) (s':Shared):Prop:=∃ vs H',Inv X pins σ H' s'/\Vals vs us/\Q vs H'
set_option tactic.hygienic true in
def SP (X:Cx) (pins:List (Addr×Obj)) (D:Ends) (f:Flow) (s':Shared):Prop :=
 match f with
 | .next=>∃ σ' H',Inv X pins σ' H' s'/\D.nx σ' H'
 | .brk=>∃ σ' H',Inv X pins σ' H' s'/\D.bk σ' H'
 | .cont=>∃ σ' H',Inv X pins σ' H' s'/\D.ct σ' H'
 | .ret u=>∃ v σ' H',Inv X pins σ' H' s'/\RelV v u/\D.rt v H'
def PE (X:Cx) (e:Expr) (t:TE):Prop :=
 ∀ (pins:List (Addr×Obj)) (s:Shared) (σ:St) (H:Hp) (Q:VK),Inv X pins σ H s->t σ H Q->wpAny (model X.prog X.w) X.A (eval e X.env) (EP X pins σ Q) X.xe s
def PT (X:Cx) (e:Expr) (t:TT):Prop :=
 ∀ (pins:List (Addr×Obj)) (s:Shared) (σ:St) (H:Hp) (Q:Bool->Hp->Prop),Inv X pins σ H s->t σ H Q->wpAny (model X.prog X.w) X.A (isTrue e X.env (eval e X.env)) (TP X pins σ Q) X.xe s
def PW (X:Cx) (e:Expr) (t:TT):Prop :=
 ∀ (whole:Sem Value) (pins:List (Addr×Obj)) (s:Shared) (σ:St) (H:Hp) (Q:Bool->Hp->Prop),Inv X pins σ H s->t σ H Q->wpAny (model X.prog X.w) X.A (isTrue e X.env whole) (TP X pins σ Q) X.xe s
theorem PW.pt (h:PW X e t):PT X e t:=h _
def PA (X:Cx) (es:List Expr) (t:TA):Prop :=
 ∀ (pos:Pos) (pins:List (Addr×Obj)) (s:Shared) (σ:St) (H:Hp) (Q:List V->Hp->Prop),Inv X pins σ H s->t σ H Q->wpAny (model X.prog X.w) X.A (spliced (backTo pos (starEach es X.env))) (AP X pins σ Q) X.xe s
def PS (X:Cx) (st:Stmt) (t:TS):Prop :=
 ∀ (pins:List (Addr×Obj)) (s:Shared) (σ:St) (H:Hp) (D:Ends),Inv X pins σ H s->t D σ H->wpAny (model X.prog X.w) X.A (exec st X.env) (SP X pins D) X.xe s
def PSs (X:Cx) (st:List Stmt) (t:TS):Prop :=
 ∀ (pins:List (Addr×Obj)) (s:Shared) (σ:St) (H:Hp) (D:Ends),Inv X pins σ H s->t D σ H->wpAny (model X.prog X.w) X.A (execs st X.env) (SP X pins D) X.xe s
theorem thn (h:wpAny M A t Q E s) (b:∀ a s,Q a s->Q' a s):wpAny M A t Q' E s:=wpAny_mono h b λ_ _ x=>x
end L2
namespace L2
open PySem PySem.Spec PyProof.Rows
section
variable {X:Cx}
theorem bin (m:PE X a ta) (i:PE X b tb) {R:V->V->Hp->Prop} (I:Inv X pins σ H s) (h:ta σ H λx H1=>tb σ H1 λy H2=>R x y H2) {Q:α->Shared->Prop} {f:Value->Value->Sem α} (hf:∀ v u s2 x y H2,Inv X pins σ H2 s2->RelV x v->RelV y u->R x y H2->wpAny (model X.prog X.w) X.A (f v u) Q X.xe s2) :
  wpAny (model X.prog X.w) X.A (eval a X.env) (λv n=>wpAny (model X.prog X.w) X.A (eval b X.env) (λu e=>wpAny (model X.prog X.w) X.A (f v u) Q X.xe e) X.xe n) X.xe s:=by
 refine thn (m pins s σ H _ I h) λv s1 ⟨x,H1,g,l,k⟩=>?_
 refine thn (i pins s1 σ H1 _ g k) λu s2 ⟨y,H2,j,d,c⟩=>?_
 exact hf v u s2 x y H2 j l d c
def uK (i:Nat):TE:=λσ H Q=>∃ v,σ[i]?=some (some v)/\Q v H
def tC (v:V):TE:=λ_ H Q=>Q v H
theorem lw {i:Nat} (g:X.N[i]?=some x) (j:Vis X.env.scope x) (hd:(x == ("__debug__":Str))=false:=by decide) (d:(x == ("__classdict__":Str))=false:=by decide):PE X (.Name x pos) (uK i):=by
 intro pins s σ H Q I h
 obtain ⟨v,e,h⟩:=h
 obtain ⟨m,k,hl⟩:=I.loc
 obtain ⟨u,r,l⟩:=hl i x v g e j
 have fin:EP X pins σ Q u s:=⟨v,H,I,r,h⟩
 rcases l with ⟨b,hm⟩ | ⟨b,c,f,a⟩
 ·exact wpAny_Name (wpAny_loadName_local I.ok.kind b k hm fin) hd
 ·rcases b with b | b
  ·exact wpAny_Name (wpAny_loadName_cell I.ok.kind b f a fin) hd
  ·exact wpAny_Name (wpAny_loadName_free I.ok.kind b f a fin d) hd
theorem oB:PE X (.Constant (.int i) j pos) (tC (.int i)):=λ_ _ _ H _ I h=>wpAny_Constant_int ⟨.int i,H,I.tok _,⟨_,rfl⟩,h⟩
theorem pe_bl:PE X (.Constant (.bool b) j pos) (tC (.bl b)):=λ_ _ _ H _ I h=>Constant_bool ⟨.bl b,H,I,rfl,h⟩
theorem Dz:PE X (.Constant .none j pos) (tC .non):=λ_ _ _ H _ I h=>Constant_none ⟨.non,H,I,rfl,h⟩
theorem xM:PE X (.Constant (.str x) j pos) (tC (.str x)):=λ_ _ _ H _ I h=>Calls.Constant_str ⟨.str x,H,I.tok _,⟨_,rfl⟩,h⟩
def Gl (X:Cx) (x:Str):Prop:=X.env.kindOf x=some .globalImplicit
theorem ft (I:Inv X pins σ H s) (a:Gl X x) (hm:X.mg x=some u) (h:Q u s) (hd:(x == ("__debug__":Str))=false:=by decide):wpAny (model X.prog X.w) X.A (eval (.Name x pos) X.env) Q E s :=
 Calls.Name_function_global I.ok.kind a (Calls.loadGlobal_global (by rw[I.ok.glob];exact I.mod.glob.keeps I.bk) hm h) hd
theorem jL (I:Inv X pins σ H s) (a:Gl X x) (hm:X.mg x=none) (c:bootBuiltins x=some u) (h:Q u s) (b:x≠"__name__":=by decide) (hd:(x == ("__debug__":Str))=false:=by decide):wpAny (model X.prog X.w) X.A (eval (.Name x pos) X.env) Q E s:=by
 obtain ⟨mb,h1,h2⟩:=I.mod.blt
 exact Calls.Name_function_global I.ok.kind a (Calls.loadGlobal_builtin (by rw[I.ok.glob];exact I.mod.glob.keeps I.bk) hm (by rw[I.ok.blt];exact h1.keeps I.bk) ((h2 x b).trans c) h) hd
theorem tK (a:Gl X x) (hm:X.mg x=some u) (r:RelV v u) (hd:(x == ("__debug__":Str))=false:=by decide):PE X (.Name x pos) (tC v) :=
 λ_ _ _ H _ I h=>ft I a hm ⟨v,H,I,r,h⟩ hd
theorem jf (a:Gl X x) (hm:X.mg x=none) (c:bootBuiltins x=some u) (r:RelV v u) (b:x≠"__name__":=by decide) (hd:(x == ("__debug__":Str))=false:=by decide):PE X (.Name x pos) (tC v) :=
 λ_ _ _ H _ I h=>jL I a hm c ⟨v,H,I,r,h⟩ b hd
variable {a b:Expr} {ta tb:TE} {pos:Pos}
def PC (X:Cx) (op:CmpOp) (a b:Expr) (t:TE):Prop :=
 ∀ (pins:List (Addr×Obj)) (s:Shared) (σ:St) (H:Hp) (Q:VK),Inv X pins σ H s->t σ H Q ->
  wpAny (model X.prog X.w) X.A (eval a X.env) (λv d=>wpAny (model X.prog X.w) X.A (eval b X.env) (λu c=>wpAny (model X.prog X.w) X.A (compareOp op v u) (EP X pins σ Q) X.xe c) X.xe d) X.xe s
def tB (t:TE):TT:=λσ H Q=>t σ H λx H1=>∃ c,x=.bl c/\Q c H1
theorem Dp (h:PE X e t) (he:∀ whole,isTrue e X.env whole=(do let v <- whole;standAt e.pos;holding [v] (truthy v)):=by intro _;rfl):PT X e (tB t):=by
 intro pins s σ H Q I hw
 refine isTrue_plain (thn (h pins s σ H _ I hw) λv s1 ⟨x,H1,a,c,b⟩=>?_) (he _)
 obtain ⟨d,rfl,q⟩:=b
 cases c
 exact FF ⟨H1,a,q⟩
variable {tA tB':TT} {rest:List Expr}
def tOr (t u:TT):TT:=λσ H Q=>t σ H λc H1=>if c=true then Q true H1 else u σ H1 Q
def tNot (t:TT):TT:=λσ H Q=>t σ H λc H1=>Q (!c) H1
theorem Do (b:PT X a tA):PW X (.BoolOp .Or [a] pos) tA:=by
 intro wh pins s σ H Q I h
 refine isTrue_or (thn (b pins s σ H Q I h) λc s1 e=>?_)
 cases c with
 | false=>exact isTrue_or_nil e
 | true=>exact e
theorem pw_or (g:PT X a tA) (f:PW X (.BoolOp .Or (b::rest) pos) tB'):PW X (.BoolOp .Or (a::b::rest) pos) (tOr tA tB'):=by
 intro wh pins s σ H Q I h
 refine isTrue_or (thn (g pins s σ H _ I h) λc s1 ⟨H1,d,e⟩=>?_)
 cases c with
 | true=>exact ⟨H1,d,e⟩
 | false=>exact f wh pins s1 σ H1 Q d e
theorem ot (b:PT X a tA):PT X (.UnaryOp .Not a pos) (tNot tA):=by
 intro pins s σ H Q I h
 exact isTrue_not (b pins s σ H (λc H1=>Q (!c) H1) I h)
def BS (ta tb:TE):TE:=λσ H Q=>ta σ H λx H1=>∃ c,x=.bl c/\if c=true then tb σ H1 Q else Q (.bl false) H1
def BN (ta:TE):TE:=λσ H Q=>ta σ H λx H1=>∃ c,x=.bl c/\Q (.bl (!c)) H1
theorem Dx (h:PE X a t):PE X (.BoolOp op [a] pos) t:=λpins s σ H Q I hw=>BoolOp_one (h pins s σ H Q I hw)
theorem DF (i:PE X a ta) (f:PE X (.BoolOp .And (b::rest) pos) tb):PE X (.BoolOp .And (a::b::rest) pos) (BS ta tb):=by
 intro pins s σ H Q I h
 refine BoolOp_and (thn (i pins s σ H _ I h) λv s1 ⟨x,H1,e,g,d⟩=>?_)
 obtain ⟨c,rfl,d⟩:=d
 cases g
 refine FF ?_
 cases c with
 | true=>exact f pins s1 σ H1 Q e d
 | false=>exact ⟨.bl false,H1,e,rfl,d⟩
theorem Dy (f:PE X a ta):PE X (.UnaryOp .Not a pos) (BN ta):=by
 intro pins s σ H Q I h
 refine UnaryOp_ (thn (f pins s σ H _ I h) λv s1 ⟨x,H1,d,e,b⟩=>?_)
 obtain ⟨c,rfl,b⟩:=b
 cases e
 exact not_of (FF ⟨.bl (!c),H1,d,rfl,b⟩)
end
end L2
namespace L2
open PySem PySem.Spec PyProof.Rows
def SqL (K:FG) (H:Hp) (a:Addr) (xs:List V):Prop :=
 Rd H a (.lst xs) \/
  ∃ (o:Obj) (its:Array Value) (n:Nat),K.lookup a=some o/\o.cls=.type "list"/\o.dict=none/\o.data=.seq its n/\its.size<=sizeLine/\Vals xs its.toList
def SqT (K:FG) (H:Hp) (a:Addr) (xs:List V):Prop :=
 Rd H a (.tup xs) \/
  ∃ (o:Obj) (its:Array Value) (n:Nat),K.lookup a=some o/\o.cls=.type "tuple"/\o.data=.seq its n/\its.size<=sizeLine/\Vals xs its.toList
def absV:Value->Option V
 | .none=>some .non
 | .bool b=>some (.bl b)
 | .int i _=>some (.int i)
 | .str x _=>some (.str x)
 | .bytes b _=>some (.byt b)
 | .float b _=>some (.flt b)
 | .ref a=>some (.ref a)
 | .type n=>some (.ty n)
 | _=>none
theorem RelV.abs (r:RelV x u):absV u=some x:=by
 cases x with
 | non=>cases r;rfl
 | bl _=>cases r;rfl
 | int _=>obtain ⟨t,rfl⟩:=r;rfl
 | str _=>obtain ⟨t,rfl⟩:=r;rfl
 | byt _=>obtain ⟨t,rfl⟩:=r;rfl
 | flt _=>obtain ⟨t,rfl⟩:=r;rfl
 | ref _=>cases r;rfl
 | ty _=>cases r;rfl
theorem RelV.inj (r:RelV x u) (q:RelV y u):x=y:=FL (r.abs.symm.trans q.abs)
theorem Vals.inj:∀ {xs ys:List V} {us:List Value},Vals xs us->Vals ys us->xs=ys
 | _,_,_,.nil,.nil=>rfl
 | _,_,_,.cons r t,.cons r' t'=>by rw[r.inj r',Vals.inj t t']
section
variable {X:Cx} {pins:List (Addr×Obj)} {σ:St} {H:Hp} {s:Shared} {a:Addr} {xs ys:List V}
theorem SqL.of {K:FG} (h:H a=some (.lst xs)):SqL K H a xs:=.inl (.inl h)
theorem SqT.of {K:FG} (h:H a=some (.tup xs)):SqT K H a xs:=.inl (.inl h)
theorem Inv.list (I:Inv X pins σ H s) (h:SqL X.K H a xs):∃ its:List Value,Vals xs its/\PlainL s.heap a its.toArray/\xs.length<=sizeLine:=by
 rcases h with h | ⟨o,its,n,c,b,hd,hs,hz,r⟩
 ·obtain ⟨z,its,n,r,e⟩:=h.ok I.hok
  exact ⟨its,r,⟨_,n,e,rfl,rfl,rfl⟩,z⟩
 ·refine ⟨its.toList,r,⟨o,n,I.kIn a o c,b,hd,by simpa using hs⟩,?_⟩
  have e:=r.length
  simp only[Array.length_toList] at e
  lia
theorem Inv.tuple (I:Inv X pins σ H s) (h:SqT X.K H a xs):∃ its:List Value,Vals xs its/\IsTup s.heap a its.toArray/\xs.length<=sizeLine:=by
 rcases h with h | ⟨o,its,n,c,b,hs,hz,r⟩
 ·obtain ⟨z,its,r,p⟩:=h.ok I.hok
  exact ⟨its,r,p.tup,z⟩
 ·refine ⟨its.toList,r,⟨o,I.kIn a o c,b,n,by simpa using hs⟩,?_⟩
  have e:=r.length
  simp only[Array.length_toList] at e
  lia
theorem Inv.list_inj (I:Inv X pins σ H s) (h:SqL X.K H a xs) (h':SqL X.K H a ys):xs=ys:=by
 obtain ⟨its,r,⟨o,n,e,_,_,d⟩,_⟩:=I.list h
 obtain ⟨its',c,⟨o',f,b,_,_,d'⟩,_⟩:=I.list h'
 rw[e] at b;cases b
 rw[d] at d'
 injection d' with d1 _
 have:its=its':=by simpa using congrArg Array.toList d1
 subst this
 exact r.inj c
theorem Inv.tuple_inj (I:Inv X pins σ H s) (h:SqT X.K H a xs) (h':SqT X.K H a ys):xs=ys:=by
 obtain ⟨its,r,⟨o,e,_,n,d⟩,_⟩:=I.tuple h
 obtain ⟨its',c,⟨o',b,_,f,d'⟩,_⟩:=I.tuple h'
 rw[e] at b;cases b
 rw[d] at d'
 injection d' with d1 _
 have:its=its':=by simpa using congrArg Array.toList d1
 subst this
 exact r.inj c
end
abbrev Cx.wish (X:Cx) (E:Value->Shared->Prop):Cx:={ X with xe:=E }
abbrev Cx.nox (X:Cx):Cx:=X.wish λ_ _=>False
theorem Cx.Ok.wish {X:Cx} (ok:X.Ok) (E:Value->Shared->Prop):(X.wish E).Ok :=
 ⟨ok.mod,ok.kind,ok.glob,ok.blt,ok.above,ok.inj,ok.has,ok.cab,ok.hd,ok.frames,ok.stk,ok.exf,ok.bs,ok.bsz,ok.noex,ok.exfs,ok.funs,ok.frf⟩
theorem Cx.Ok.unwish {X:Cx} (ok:(X.wish E).Ok):X.Ok :=
 ⟨ok.mod,ok.kind,ok.glob,ok.blt,ok.above,ok.inj,ok.has,ok.cab,ok.hd,ok.frames,ok.stk,ok.exf,ok.bs,ok.bsz,ok.noex,ok.exfs,ok.funs,ok.frf⟩
section
variable {X:Cx} {pins:List (Addr×Obj)} {σ:St} {H:Hp} {s:Shared} {E:Value->Shared->Prop}
theorem Inv.wish (I:Inv X pins σ H s) (E:Value->Shared->Prop):Inv (X.wish E) pins σ H s:=⟨I.ok.wish E,I.os,I.bare,I.base,I.loc,I.cell,I.free,I.freeC,I.pin,I.hok,I.len⟩
theorem Inv.unwish (I:Inv (X.wish E) pins σ H s):Inv X pins σ H s:=⟨I.ok.unwish,I.os,I.bare,I.base,I.loc,I.cell,I.free,I.freeC,I.pin,I.hok,I.len⟩
set_option tactic.hygienic true in
theorem SP.unwish (h:SP (X.wish E) pins D f s'):SP X pins D f s':=by
 cases f with
 | next=>obtain ⟨σ',H',I,q⟩:=h;exact ⟨σ',H',I.unwish,q⟩
 | brk=>obtain ⟨σ',H',I,q⟩:=h;exact ⟨σ',H',I.unwish,q⟩
 | cont=>obtain ⟨σ',H',I,q⟩:=h;exact ⟨σ',H',I.unwish,q⟩
 | ret u=>obtain ⟨v,σ',H',I,r,q⟩:=h;exact ⟨v,σ',H',I.unwish,r,q⟩
theorem PSs.nox {st:List Stmt} (h:PSs X.nox st t):PSs X st t:=λpins s σ H D I hw =>
 wpAny_mono (h pins s σ H D (I.wish _) hw) (λ_ _ q=>q.unwish) λ_ _ z=>False.elim z
end
section
variable {X:Cx} {st:Stmt} {rest:List Stmt} {t u:TS} {e:Expr} {te:TE} {pos:Pos}
def BO:TS:=λD σ H=>D.nx σ H
def tSeq (t u:TS):TS:=λD σ H=>t { D with nx:=u D } σ H
theorem AE:PSs X [] BO:=λ_ _ σ H _ I h=>wpAny_execs_nil ⟨σ,H,I,h⟩
set_option tactic.hygienic true in
theorem xE (h1:PS X st t) (h2:PSs X rest u):PSs X (st::rest) (tSeq t u):=by
 intro pins s σ H D I h
 refine wpAny_execs_cons (thn (h1 pins s σ H { D with nx:=u D } I h) λf s1 q=>?_)
 cases f with
 | next =>
  obtain ⟨σ',H',a,q⟩:=q
  exact h2 pins s1 σ' H' D a q
 | ret v=>exact q
 | brk=>exact q
 | cont=>exact q
set_option tactic.hygienic true in
theorem tH (h1:PS X st t):PSs X [st] t:=by
 intro pins s σ H D I h
 refine wpAny_execs_cons (thn (h1 pins s σ H D I h) λf s1 q=>?_)
 cases f with
 | next=>exact wpAny_execs_nil q
 | ret v=>exact q
 | brk=>exact q
 | cont=>exact q
theorem Inv.quiet (I:Inv X pins σ H s):interactive X.env=false:=by simp[interactive,I.ok.kind]
def BP (te:TE):TS:=λD σ H=>te σ H λ_ H1=>D.nx σ H1
theorem AF (he:PE X e te) (hs:swapsWith e none pos.line X.env=pure false:=by rfl):PS X (.Expr e pos) (BP te):=by
 intro pins s σ H D I h
 exact wpAny_Expr_any (thn (he pins s σ H _ I h) λv s1 ⟨x,H1,a,c,b⟩=>⟨σ,H1,a,b⟩) I.quiet hs
def tRet (te:TE):TS:=λD σ H=>te σ H D.rt
theorem Dr (he:PE X e te):PS X (.Return (some e) pos) (tRet te):=by
 intro pins s σ H D I h
 exact wpAny_Return_some (thn (he pins s σ H _ I h) λv s1 ⟨x,H1,a,c,b⟩=>⟨x,σ,H1,a,c,b⟩)
def tIfS (c:TT) (t u:TS):TS:=λD σ H=>c σ H λb H1=>if b=true then t D σ H1 else u D σ H1
theorem ps_if (i:PT X c tc) (j:PSs X a t) (g:PSs X b u):PS X (.If c a b pos) (tIfS tc t u):=by
 intro pins s σ H D I h
 refine wpAny_If (thn (i pins s σ H _ I h) λd s1 ⟨H1,e,f⟩=>?_)
 cases d with
 | true=>exact j pins s1 σ H1 D e f
 | false=>exact g pins s1 σ H1 D e f
end
abbrev TG:=V->St->Hp->(St->Hp->Prop)->Prop
abbrev TGs:=List V->St->Hp->(St->Hp->Prop)->Prop
def PG (X:Cx) (target:Expr) (t:TG):Prop :=
 ∀ (pins:List (Addr×Obj)) (s:Shared) (σ:St) (H:Hp) (v:V) (u:Value) (Q:St->Hp->Prop),Inv X pins σ H s->RelV v u->t v σ H Q ->
  wpAny (model X.prog X.w) X.A (assign target X.env u) (λ_ s'=>∃ σ' H',Inv X pins σ' H' s'/\Q σ' H') X.xe s
def PGs (X:Cx) (ts:List Expr) (t:TGs):Prop :=
 ∀ (pins:List (Addr×Obj)) (s:Shared) (σ:St) (H:Hp) (vs:List V) (us:List Value) (Q:St->Hp->Prop),Inv X pins σ H s->Vals vs us->t vs σ H Q ->
  wpAny (model X.prog X.w) X.A (assignInOrder ((assignEach ts X.env).map (·.2)) us) (λ_ s'=>∃ σ' H',Inv X pins σ' H' s'/\Q σ' H') X.xe s
abbrev ER:=V->V->V->Hp->(Hp->Prop)->Prop
def zH (X:Cx) (t:ER):Prop :=
 ∀ (pins:List (Addr×Obj)) (s:Shared) (σ:St) (H:Hp) (o i v:V) (ov a u:Value) (Q:Hp->Prop),Inv X pins σ H s->RelV o ov->RelV i a->RelV v u->t o i v H Q ->
  wpAny (model X.prog X.w) X.A (setItem ov a u) (λ_ s'=>∃ H',Inv X pins σ H' s'/\Q H') X.xe s
section
variable {X:Cx} {pos:Pos}
def ue (i:Nat):TG:=λv σ H Q=>Q (σ.set i (some v)) H
theorem kE {i:Nat} (a:X.N.Nodup) (hi:X.N[i]?=some x) (b:Loc X.env.scope x) (hf:X.fn x=true\/X.env.scope.names.lookup x=some .local:=by first | exact .inl rfl | exact .inr rfl | assumption):PG X (.Name x pos) (ue i):=by
 intro pins s σ H v u Q I r h
 exact wpAny_assign_Name (fT I a hi b r (λs' c=>⟨_,H,c,h⟩) hf)
def gNil:TGs:=λvs σ H Q=>vs=[]/\Q σ H
def Cd (t:TG) (u:TGs):TGs:=λvs σ H Q=>∃ v r,vs=v::r/\t v σ H λσ' H'=>u r σ' H' Q
theorem tJ:PGs X [] gNil:=by
 intro pins s σ H vs us Q I r h
 obtain ⟨e,h⟩:=h
 subst e
 cases r
 exact assignInOrder_nil ⟨σ,H,I,h⟩
theorem lu (h1:PG X e t) (h2:PGs X es u) (hs:(assignEach (e::es) X.env).map (·.2)=assign e X.env::(assignEach es X.env).map (·.2):=by rfl):PGs X (e::es) (Cd t u):=by
 intro pins s σ H vs us Q I r h
 obtain ⟨v,c,e1,h⟩:=h
 subst e1
 cases r with
 | cons r rr =>
  rw[hs]
  refine assignInOrder_cons (thn (h1 pins s σ H _ _ _ I r h) λ_ s1 ⟨σ1,H1,a,b⟩=>?_)
  exact h2 pins s1 σ1 H1 _ _ Q a rr b
def gTup (K:FG) (n:Nat) (t:TGs):TG:=λv σ H Q=>∃ a xs,v=.ref a/\SqT K H a xs/\xs.length=n/\t xs σ H Q
theorem xK {k:Nat} {n:Nat} (f:X.calm=true) (h:PGs X es t) (m:(assignEach es X.env).length=n:=by rfl) (c:(assignEach es X.env).findIdx? (·.1)=none:=by rfl):PG X (.Tuple es k pos) (gTup X.K n t):=by
 intro pins s σ H v u Q I r hw
 obtain ⟨a,xs,e1,i,hl,hw⟩:=hw
 subst e1
 cases r
 obtain ⟨its,d,j,hz⟩:=I.tuple i
 refine assign_Tuple_tuple (I.ok.hd f) j (by simp[m,<- hl,d.length]) c λh' l=>?_
 have g:Inv X pins σ H { s with heap:=h' }:=I.kept (t':=s.toks) λb o e=>l b o (Fi (E7 e)) e
 exact h pins _ σ H xs _ Q g (by simpa using d) hw
def gSub (to a:TE) (t:ER):TG:=λv σ H Q=>to σ H λo H1=>a σ H1 λi H2=>t o i v H2 λb=>Q σ b
theorem Dw (d:PE X o to) (hi:PE X i ti) (hs:zH X t) (n:∀ v,assign (.Subscript o i pos) X.env v=(do
   let ov <- holding [v] (eval o X.env)
   let a <- holding [v,ov] (eval i X.env)
   standAt pos
   holding [v,ov,a] (setItem ov a v)
   release [v,ov,a] []):=by intro _;rfl):PG X (.Subscript o i pos) (gSub to ti t):=by
 intro pins s σ H v u Q I r h
 rw[n]
 refine ET (EV (thn (d pins s σ H _ I h) λov s1 ⟨x,H1,f,m,l⟩=>?_))
 refine ET (EV (thn (hi pins s1 σ H1 _ f l) λa s2 ⟨y,H2,j,e,b⟩=>?_))
 refine ET (wpAny_standAt (ET (EV (thn (hs pins s2 σ H2 x y v ov a u _ j m e r b) λ_ s3 ⟨g,k,c⟩=>?_))))
 exact wpAny_release ⟨σ,g,k,c⟩
def wD (te:TE) (g:TG):TS:=λD σ H=>te σ H λx H1=>g x σ H1 D.nx
theorem xH (he:PE X e te) (a:PG X tg g) (hs:swapsWithSole [tg] e pos.line X.env=pure false:=by rfl) (hw:swappedStores [tg] e X.env=pure none:=by rfl) (h1:(assignEach [tg] X.env).map (·.2)=[assign tg X.env]:=by rfl):PS X (.Assign [tg] e pos) (wD te g):=by
 intro pins s σ H D I h
 refine wpAny_Assign_stores (thn (he pins s σ H _ I h) λv s1 ⟨x,H1,b,d,c⟩=>?_) hs hw
 rw[h1]
 exact thn (a pins s1 σ H1 x v _ b d c) λ_ s2 q=>q
theorem Dq {i:Nat} (a:X.N.Nodup) (hi:X.N[i]?=some x) (d:Loc X.env.scope x) (he:PE X e te) (hs:swapsWith e (some (.Name x pos')) pos.line X.env=pure false:=by rfl) (hf:X.fn x=true\/X.env.scope.names.lookup x=some .local:=by first | exact .inl rfl | exact .inr rfl | assumption) :
  PS X (.Assign [.Name x pos'] e pos) (wD te (ue i)):=by
 intro pins s σ H D I h
 refine wpAny_Assign_Name (thn (he pins s σ H _ I h) λv s1 ⟨y,H1,b,g,f⟩=>?_) hs
 exact fT b a hi d g (λs2 c=>⟨_,H1,c,f⟩) hf
def tPar (i j:Nat) (ta:TA):TS:=λD σ H=>ta σ H λvs H1=>∃ v w,vs=[v,w]/\D.nx ((σ.set i (some v)).set j (some w)) H1
set_option tactic.hygienic true in
theorem Ds {i j:Nat} (G:X.calm=true) (m:X.N.Nodup) (hi:X.N[i]?=some x) (C:X.N[j]?=some y) (k:i≠j) (t:X.env.scope.names.lookup x=some .local) (r:X.env.scope.names.lookup y=some .local) (E:PA X [a,b] ta) (hw:swappedStores [.Tuple [.Name x px,.Name y py] kt pt] (.Tuple [a,b] k2 pt2) X.env=pure (some [x,y])) (hs:swapsWithSole [.Tuple [.Name x px,.Name y py] kt pt] (.Tuple [a,b] k2 pt2) pos.line X.env=pure false:=by rfl) :
  PS X (.Assign [.Tuple [.Name x px,.Name y py] kt pt] (.Tuple [a,b] k2 pt2) pos) (tPar i j ta):=by
 intro pins s σ H D I h
 rw[exec_Assign_arm]
 refine ET (wpAny_standAt ?_)
 rw[hs]
 refine ET (EU ?_)
 rw[if_neg (by decide)]
 refine ET (Tuple_ (thn (E _ pins s σ H _ I h) λus s1 ⟨vs,H1,z,K,l⟩=>?_))
 obtain ⟨v,w,e1,l⟩:=l
 subst e1
 obtain ⟨d,c,rfl,u,f⟩:∃ d c,us=[d,c]/\RelV v d/\RelV w c:=by
  cases K with
  | cons p q =>
   cases q with
   | cons p' q' =>
    cases q'
    exact ⟨_,_,rfl,p,p'⟩
 refine wpAny_newObj_type ?_ (by show 2<=sizeLine;decide)
 have J:Inv X pins σ H1 { s1 with heap:=s1.heap.push { cls:=.type "tuple",data:=.seq [d,c].toArray } }:=z.kept (t':=s1.toks) λb o e=>EZ _ e
 rw[hw]
 refine ET (EU ?_)
 show wpAny (model X.prog X.w) X.A (do rule "assign.swapped-stores";let items <- unpackItems (.ref s1.heap.objs.size) 2 none;assignInOrder [λv=>bindName X.env y v,λv=>bindName X.env x v] items.reverse;pure Flow.next) _ _ _
 refine ET (wpAny_rule (ET (unpackItems_tuple (items:=#[d,c]) (I.ok.hd G) (IsTup.new s1.heap _) λh' g=>?_)))
 have B:=J.kept (h':=h') (t':=s1.toks) λb o e=>g b o (Fi (E7 e)) e
 show wpAny _ _ (assignInOrder [λv=>bindName X.env y v,λv=>bindName X.env x v] [c,d] >>= λ_=>pure Flow.next) _ _ _
 refine ET (assignInOrder_cons (wpAny_bindName (fT B m C (.inl r) f (λs2 F=>?_) (.inr r))))
 refine assignInOrder_cons (wpAny_bindName (fT F m hi (.inl t) u (λs3 n=>assignInOrder_nil (EU ?_)) (.inr t)))
 rw[List.set_comm _ _ (Ne.symm k)] at n
 exact ⟨_,H1,n,l⟩
end
section
variable {X:Cx} {pos:Pos}
def wy (c:TT) (tb:TS):TS:=λD σ H=>∃ W:Nat->St->Hp->Prop,(∃ m,W m σ H)/\∀ m σ H,W m σ H ->
 c σ H λb H1=>if b=true then ∃ N:St->Hp->Prop,(∀ σ' H',N σ' H'->∃ m',m' < m/\W m' σ' H')/\tb { D with nx:=N,ct:=N,bk:=D.nx } σ H1 else D.nx σ H1
set_option tactic.hygienic true in
theorem xF (m:PassesOwn (model X.prog X.w) X.A X.env X.xe) (q:PT X c tc) (p:PSs X body tb):PS X (.While c body [] pos) (wy tc tb):=by
 intro pins s σ H D I h
 obtain ⟨W,⟨m0,r⟩,turn⟩:=h
 refine wpAny_While (codeAny_whileLoop (λn s'=>∃ σ' H',Inv X pins σ' H' s'/\W n σ' H') ?_ m0 ⟨σ,H,I,r⟩)
 rintro n s1 ⟨σ1,H1,o,t⟩
 refine wpAny_passesOwn m (thn (q pins s1 σ1 H1 _ o (turn n σ1 H1 t)) λb s2 ⟨H2,l,d⟩=>?_)
 cases b with
 | true =>
  obtain ⟨N,k,d⟩:=d
  rw[if_pos rfl]
  refine wpAny_passesOwn m (thn (p pins s2 σ1 H2 _ l d) λf s3 e=>?_)
  cases f with
  | next =>
   obtain ⟨σ3,a,i,g⟩:=e
   obtain ⟨m',hm,j⟩:=k σ3 a g
   exact ⟨m',hm,σ3,a,i,j⟩
  | cont =>
   obtain ⟨σ3,a,i,g⟩:=e
   obtain ⟨m',hm,j⟩:=k σ3 a g
   exact ⟨m',hm,σ3,a,i,j⟩
  | brk=>exact e
  | ret v=>exact e
 | false =>
  rw[if_neg Fh]
  exact wpAny_execs_nil ⟨σ1,H2,l,d⟩
end
structure It where
 go:Nat->Hp->Prop
 yld:Nat->Hp->V->Hp->Prop
 stop:Nat->Hp->Prop
def FpOk (X:Cx) (pins:List (Addr×Obj)) (H:Hp) (b:Addr):Prop :=
 H b=none/\b≠X.env.locals/\b ∉ X.fs/\(b∈X.ex\/X.s₀.heap.objs.size<=b)/\(∀ x c,X.env.cells.lookup x=some c->c≠b)/\∀ p∈X.pn++pins,p.1≠b
theorem Inv.fpOk (I:Inv X pins σ H s) (a:s.heap.objs.size<=b) (d:H' b=none):FpOk X pins H' b:=by
 refine ⟨d,Nat.ne_of_gt (Fq I.lt a),I.nofs a,.inr (FH I.sz a),λx c e z=>?_,λp f z=>?_⟩
 ·obtain ⟨v,q⟩:=I.cell x c e
  exact absurd (Fq q.lt (by rw[z];exact a)) (Nat.lt_irrefl _)
 ·exact absurd (Fq (E7 (I.pin p f).1) (by rw[z];exact a)) (Nat.lt_irrefl _)
structure Turn (P:Program) (w:World) (K:FG) (tg:Expr) (J:It) (fp:List Addr) (it:Addr) (tn:Nat->Heap->Prop):Prop where
 mem:it∈fp
 obj:∀ i h,tn i h->∀ b∈fp,∃ o,h.get? b=some o/\∀ v,o.data≠.cell v
 keep:∀ i h h',tn i h->(∀ b∈fp,∀ o,h.get? b=some o->h'.get? b=some o)->tn i h'
 item:∀ (X:Cx),X.prog=P->X.w=w->X.K=K->X.calm=true->∀ (i:Nat) (pins:List (Addr×Obj)) (s:Shared) (σ:St) (H:Hp) (E:Value->Shared->Prop),Inv X pins σ H s->(∀ b∈fp,FpOk X pins H b)->tn i s.heap->J.go i H ->
  wpAny (model P w) X.A (pyNext (.ref it)) (λr s1=>∃ u,r=some u /\
   wpAny (model P w) X.A (letOwnedTupleGo tg (.ref it) u) (λ_ s2=>∃ x H',Inv X pins σ H' s2/\RelV x u/\J.yld i H x H'/\tn (i+1) s2.heap/\∀ b∈fp,H' b=none) E s1) E s
 done:∀ (X:Cx),X.prog=P->X.w=w->X.K=K->X.calm=true->∀ (i:Nat) (pins:List (Addr×Obj)) (s:Shared) (σ:St) (H:Hp) (E:Value->Shared->Prop),Inv X pins σ H s->(∀ b∈fp,FpOk X pins H b)->tn i s.heap->J.stop i H ->
  wpAny (model P w) X.A (pyNext (.ref it)) (λr s1=>r=none/\Inv X pins σ H s1) E s
 self:∀ (A:Around) (i:Nat) (s:Shared) (Q:Value->Shared->Prop) (E:Value->Shared->Prop),tn i s.heap->Q (.ref it) s->wpAny (model P w) A (pyIter (.ref it)) Q E s
abbrev TI:=St->Hp->(It->Hp->Prop)->Prop
def PIE (X:Cx) (pins:List (Addr×Obj)) (σ:St) (tg:Expr) (R:It->Hp->Prop) (a:Value) (s2:Shared):Prop :=
 ∃ (it:Addr) (fp:List Addr) (c:Nat->Heap->Prop) (J:It) (H':Hp),a=.ref it/\Inv X pins σ H' s2/\Turn X.prog X.w X.K tg J fp it c/\c 0 s2.heap/\(∀ b∈fp,FpOk X pins H' b)/\R J H'
def PI (X:Cx) (tg iter:Expr) (a:TI):Prop :=
 ∀ (pins:List (Addr×Obj)) (s:Shared) (σ:St) (H:Hp) (R:It->Hp->Prop),Inv X pins σ H s->a σ H R ->
  wpAny (model X.prog X.w) X.A (eval iter X.env) (λv s1=>wpAny (model X.prog X.w) X.A (pyIter v) (PIE X pins σ tg R) X.xe s1) X.xe s
theorem yP (b:s.heap.get? it=some o) (d:o.cls=.type n) (hd:o.data=.fields vs) (c:["enumerate","zip","dict_itemiterator","dict_reverseitemiterator","odict_iterator","itertools.zip_longest","itertools.pairwise"].contains n=false) (a:Q () s):wpAny M A (letOwnedTupleGo tg (.ref it) u) Q E s:=by
  unfold letOwnedTupleGo
  cases tg <;> first
    | exact EU a
    | (cases u <;> first
        | exact EU a
        | (refine ET (wpAny_load b ?_)
           rw[d,hd]
           show wpAny M A (if (["enumerate","zip","dict_itemiterator","dict_reverseitemiterator","odict_iterator","itertools.zip_longest","itertools.pairwise"].contains n && vs[0]? == some (rawInt _))=true then _ else _) Q E s
           rw[if_neg (by intro h; rw[c,Bool.false_and] at h; cases h)]
           exact EU a))
def Itl (K:FG) (a:Addr):It :=
 ⟨λi H=>∃ xs x,SqL K H a xs/\xs[i]?=some x,λi H x H'=>H'=H/\∀ xs,SqL K H a xs->xs[i]?=some x,λi H=>∃ xs,SqL K H a xs/\xs.length<=i⟩
def Itt (K:FG) (a:Addr):It :=
 ⟨λi H=>∃ xs x,SqT K H a xs/\xs[i]?=some x,λi H x H'=>H'=H/\∀ xs,SqT K H a xs->xs[i]?=some x,λi H=>∃ xs,SqT K H a xs/\xs.length<=i⟩
def Itr (lo:Int) (n:Nat):It:=⟨λi _=>i < n,λi H x H'=>H'=H/\x=.int (lo+i),λi _=>n<=i⟩
theorem uG {P:Program} {w:World} {K:FG} {tg:Expr} (a it:Addr):Turn P w K tg (Itl K a) [it] it (λi h=>h.IsListIter it a i) where
 mem:=by simp
 obj:=λi h st b f=>by
  have e:b=it:=by simpa using f
  subst e
  obtain ⟨o,e,c,d⟩:=st
  exact ⟨o,e,λv z=>by rw[d] at z;cases z⟩
 keep:=λi h h' st k=>st.at λo e=>k it (by simp) o e
 item:=by
  intro X t hw r A i pins s σ H E I hf st m
  subst t hw r
  obtain ⟨xs,x,j,y⟩:=m
  obtain ⟨its,q,p,hz⟩:=I.list j
  obtain ⟨u,hu,B⟩:=q.get y
  obtain ⟨f0,f1,f2,n,f4,l⟩:=hf it (by simp)
  refine wpAny_pyNext_list_item st p.isList (x:=u) (by simpa using hu) λh' g sb=>?_
  have C:Inv X pins σ H { s with heap:=h' }:=I.turned (t':=s.toks) (λb o f e=>(sb.2 b f).trans e) f0 f1 n f4 l
  obtain ⟨o,e,c,d⟩:=id g
  exact ⟨u,rfl,yP (s:={ s with heap:=h' }) e c d (by decide) ⟨x,H,C,B,⟨rfl,λys F=>by rw[I.list_inj F j];exact y⟩,g,λb f=>(hf b f).1⟩⟩
 done:=by
  intro X t hw r A i pins s σ H E I hf st m
  subst t hw r
  obtain ⟨xs,j,y⟩:=m
  obtain ⟨its,q,p,hz⟩:=I.list j
  obtain ⟨f0,f1,f2,n,f4,l⟩:=hf it (by simp)
  have hl:=q.length
  exact wpAny_pyNext_list_end (I.ok.hd A) st p.isList (by simp;omega) λh' D=>⟨rfl,I.turned (t':=s.toks) (λb o f e=>D b o f e) f0 f1 n f4 l⟩
 self:=λ_ _ _ _ _ st h=>wpAny_pyIter_listiter st h
theorem qO {P:Program} {w:World} {K:FG} {tg:Expr} (a it:Addr):Turn P w K tg (Itt K a) [it] it (λi h=>h.IsTupleIter it a i) where
 mem:=by simp
 obj:=λi h st b f=>by
  have e:b=it:=by simpa using f
  subst e
  obtain ⟨o,e,c,d⟩:=st
  exact ⟨o,e,λv z=>by rw[d] at z;cases z⟩
 keep:=λi h h' st k=>st.at λo e=>k it (by simp) o e
 item:=by
  intro X t hw r A i pins s σ H E I hf st m
  subst t hw r
  obtain ⟨xs,x,j,y⟩:=m
  obtain ⟨its,q,p,hz⟩:=I.tuple j
  obtain ⟨u,hu,B⟩:=q.get y
  obtain ⟨f0,f1,f2,n,f4,l⟩:=hf it (by simp)
  refine wpAny_pyNext_tuple_item st (show s.heap.IsTuple a its.toArray from p) (x:=u) (by simpa using hu) λh' g sb=>?_
  have C:Inv X pins σ H { s with heap:=h' }:=I.turned (t':=s.toks) (λb o f e=>(sb.2 b f).trans e) f0 f1 n f4 l
  obtain ⟨o,e,c,d⟩:=id g
  exact ⟨u,rfl,yP (s:={ s with heap:=h' }) e c d (by decide) ⟨x,H,C,B,⟨rfl,λys F=>by rw[I.tuple_inj F j];exact y⟩,g,λb f=>(hf b f).1⟩⟩
 done:=by
  intro X t hw r A i pins s σ H E I hf st m
  subst t hw r
  obtain ⟨xs,j,y⟩:=m
  obtain ⟨its,q,p,hz⟩:=I.tuple j
  obtain ⟨f0,f1,f2,n,f4,l⟩:=hf it (by simp)
  have hl:=q.length
  exact wpAny_pyNext_tuple_end (I.ok.hd A) st (show s.heap.IsTuple a its.toArray from p) (by simp;omega) λh' D=>⟨rfl,I.turned (t':=s.toks) (λb o f e=>D b o f e) f0 f1 n f4 l⟩
 self:=λ_ _ _ _ _ st h=>wpAny_pyIter_tupleiter st h
theorem qP {P:Program} {w:World} {K:FG} {tg:Expr} (it:Addr) (lo:Int) (n:Nat):Turn P w K tg (Itr lo n) [it] it (λi h=>IsRangeIter h it (lo+(i:Nat) * 1) ((n:Int) - (i:Nat)) 1) where
 mem:=by simp
 obj:=λi h st b a=>by
  have e:b=it:=by simpa using a
  subst e
  exact ⟨_,st,λv z=>by
   have x:Data.fields _=Data.cell v:=z
   cases x⟩
 keep:=λi h h' st k=>k it (by simp) _ st
 item:=by
  intro X l hw j m i pins s σ H E I hf st f
  subst l hw j
  obtain ⟨f0,f1,f2,g,f4,d⟩:=hf it (by simp)
  have W:=Walks.range (prog:=X.prog) (w:=X.w) (I.ok.hd m) it lo 1 n
  refine W.item i s _ _ f st λv h' tk p c u=>?_
  obtain ⟨t,rfl⟩:=p
  have q:Inv X pins σ H { s with heap:=h',toks:=tk }:=I.turned (λb o a e=>u b o (by simpa using a) e) f0 f1 g f4 d
  refine ⟨_,rfl,yP (s:={ s with heap:=h',toks:=tk }) (n:="range_iterator") c rfl rfl (by decide) ⟨.int (lo+i),H,q,⟨t,?_⟩,⟨rfl,rfl⟩,c,λb a=>(hf b a).1⟩⟩
  rw[Int.mul_one]
 done:=by
  intro X l hw j m i pins s σ H E I hf st f
  subst l hw j
  obtain ⟨f0,f1,f2,g,f4,d⟩:=hf it (by simp)
  exact wpAny_pyNext_range_end (I.ok.hd m) st (by have:n<=i:=f;lia) λh' r=>⟨rfl,I.turned (t':=s.toks) (λb o a e=>r b o a e) f0 f1 g f4 d⟩
 self:=λ_ _ _ _ _ st h=>wpAny_pyIter_rangeiter st h
end L2
namespace L2
open PySem PySem.Spec PyProof.Rows
section
variable {X:Cx} {tg:Expr}
theorem pR {lo hi:Int} {tk:Nat} (I:Inv X pins σ H s) (h1:-(2 ^ 62)<=lo) (h2:lo < 2 ^ 62) (h3:-(2 ^ 62)<=hi) (c:hi < 2 ^ 62) (q:R (Itr lo (hi - lo).toNat) H):wpAny (model X.prog X.w) X.A (pyIter (.ref s.heap.objs.size)) (PIE X pins σ tg R) E { s with heap:=s.heap.push { cls:=.type "range",data:=.fields #[.int lo t,.int hi u,.int 1 v] },toks:=tk }:=by
 refine wpAny_pyIter_range (IsRange.new ..) (small_one h1 h2 h3 c) ?_
 have a:Inv X pins σ H { s with heap:=s.heap.push { cls:=.type "range",data:=.fields #[.int lo t,.int hi u,.int 1 v] },toks:=tk }:=I.kept λb o e=>EZ _ e
 refine ⟨(s.heap.push { cls:=.type "range",data:=.fields #[.int lo t,.int hi u,.int 1 v] }).objs.size,[(s.heap.push { cls:=.type "range",data:=.fields #[.int lo t,.int hi u,.int 1 v] }).objs.size],_,_,H,rfl,
  a.kept (t':=tk) λb o e=>EZ _ e,qP _ lo (hi - lo).toNat,?_,λb d=>?_,q⟩
 ·have e1:lo+((0:Nat):Int) * 1=lo:=by simp
  have f:(((hi - lo).toNat:Nat):Int) - ((0:Nat):Int)=Builtin.Range.rangeSize lo hi 1:=by rw[rangeSize_one];split <;> omega
  show IsRangeIter _ _ (lo+((0:Nat):Int) * 1) ((((hi - lo).toNat:Nat):Int) - ((0:Nat):Int)) 1
  rw[e1,f]
  exact E9 _ rfl
 ·have e:b=(s.heap.push { cls:=.type "range",data:=.fields #[.int lo t,.int hi u,.int 1 v] }).objs.size:=by simpa using d
  subst e
  exact a.fpOk (Fg _) (a.hok.fresh (Fg _))
def Ca (ta:TA):TI:=λσ H R=>ta σ H λvs H1=>∃ j:Int,vs=[.int j]/\-(2 ^ 62)<=j/\j < 2 ^ 62/\R (Itr 0 j.toNat) H1
def B9 (ta:TA):TI:=λσ H R=>ta σ H λvs H1=>∃ i j:Int,vs=[.int i,.int j]/\(-(2 ^ 62)<=i/\i < 2 ^ 62/\-(2 ^ 62)<=j/\j < 2 ^ 62)/\R (Itr i (j - i).toNat) H1
theorem u9 (d:Gl X "range") (hm:X.mg "range"=none) (i:PA X [a] ta) (hs:starEach [a] X.env=[(false,eval a X.env)]:=by rfl):PI X tg (.Call (.Name "range" p) [a] [] pos) (Ca ta):=by
 intro pins s σ H R I h
 refine Call_ (jL I d hm boot_range (PyProof.Rows.callWith_type1 (thn (i pos pins s σ H _ I h) λus s1 ⟨vs,H1,f,g,b⟩=>?_) hs rfl))
 obtain ⟨j,e,b,c,q⟩:=b
 subst e
 cases g with
 | cons r rr =>
  cases rr
  obtain ⟨t,rfl⟩:=r
  exact call_range_1 (pR f (by omega) (by omega) b c (by simpa using q))
theorem u8 (k:Gl X "range") (hm:X.mg "range"=none) (o:PA X [a,b] ta) (hs:starEach [a,b] X.env=[(false,eval a X.env),(false,eval b X.env)]:=by rfl) (c:starEach [b] X.env=[(false,eval b X.env)]:=by rfl) :
  PI X tg (.Call (.Name "range" p) [a,b] [] pos) (B9 ta):=by
 intro pins s σ H R I h
 refine Call_ (jL I k hm boot_range (PyProof.Rows.callWith_type1 (thn (o pos pins s σ H _ I h) λus s1 ⟨vs,H1,l,n,d⟩=>?_) (by rw[hs,c]) (by rw[c];rfl)))
 obtain ⟨i,j,e,⟨d,f,g,m⟩,q⟩:=d
 subst e
 cases n with
 | cons r rr =>
  cases rr with
  | cons r' rr =>
   cases rr
   obtain ⟨t,rfl⟩:=r
   obtain ⟨t',rfl⟩:=r'
   exact call_range_2 (pR l d f g m q)
def tFor (a:TI) (g:TG) (tb:TS):TS:=λD σ H=>a σ H λJ H1=>∃ W:Nat->Nat->St->Hp->Prop,(∃ m,W 0 m σ H1)/\∀ i m σ H,W i m σ H ->
 (J.stop i H/\D.nx σ H)\/(J.go i H/\∃ N:St->Hp->Prop,(∀ σ' H',N σ' H'->∃ m',m' < m/\W (i+1) m' σ' H')/\∀ x H',J.yld i H x H'->g x σ H' λσ2 H2=>tb { D with nx:=N,ct:=N,bk:=D.nx } σ2 H2)
def lr (fp:List Addr) (h:Heap):List (Addr×Obj):=fp.filterMap λb=>(h.get? b).map λo=>(b,o)
theorem fm (a:b∈fp) (e:h.get? b=some o):(b,o)∈lr fp h:=List.mem_filterMap.mpr ⟨b,a,by rw[e];rfl⟩
theorem vf (c:p∈lr fp h):p.1∈fp/\h.get? p.1=some p.2:=by
 obtain ⟨b,a,e⟩:=List.mem_filterMap.mp c
 cases q:h.get? b with
 | none=>rw[q] at e;cases e
 | some o =>
  rw[q] at e
  have d:(b,o)=p:=FL e
  subst d
  exact ⟨a,q⟩
theorem Inv.pinned (I:Inv X pins σ H s) (hf:∀ b∈fp,FpOk X pins H b) (f:∀ b∈fp,∃ o,s.heap.get? b=some o/\∀ v,o.data≠.cell v):Inv X (pins++lr fp s.heap) σ H s :=
 I.pins_of λp g=>(E8.mp g).elim (λz=>I.pin p (E4 _ z)) λz=>by
  obtain ⟨c,e⟩:=vf z
  obtain ⟨f0,f1,f2,_⟩:=hf p.1 c
  obtain ⟨o,a,d⟩:=f p.1 c
  rw[e] at a;cases a
  exact ⟨e,f0,f1,f2,d⟩
theorem Inv.unpinned (I:Inv X (pins++pl) σ H s):Inv X pins σ H s:=I.pins_of λp a=>I.pin p (E4 _ (E3 _ a))
set_option tactic.hygienic true in
theorem Dt (y:PassesOwn (model X.prog X.w) X.A X.env X.xe) (P:X.calm=true) (hi:PI X tg iter wi) (Q:PG X tg g) (j:PSs X body tb) (hs:∀ x,foldedSetIterable iter X.env x=pure x:=by intro _;rfl):PS X (.For tg iter body [] pos) (tFor wi g tb):=by
 intro pins s σ H D I h
 refine wpAny_For (thn (hi pins s σ H _ I h) λv s1 h1=>thn h1 λae s2 h2=>?_) hs
 obtain ⟨it,fp,O,J,H2,e,I2,T,K,f2,W,⟨m0,w0⟩,turn⟩:=h2
 subst e
 have k:∀ {H':Hp},(∀ b∈fp,H' b=none)->∀ b∈fp,FpOk X pins H' b:=λhn b j=>⟨hn b j,(f2 b j).2⟩
 refine codeAny_forLoop_any (λn s'=>∃ i σ' H',Inv X pins σ' H' s'/\O i s'.heap/\(∀ b∈fp,H' b=none)/\W i n σ' H') ?_ m0 ⟨0,σ,H2,I2,K,λb j=>(f2 b j).1,w0⟩
 rintro n s3 ⟨i,σ3,B,M,z,q,w3⟩
 rcases turn i n σ3 B w3 with ⟨stop,Z⟩ | ⟨go,N,R,step⟩
 ·refine wpAny_passesOwn y (thn (T.done X rfl rfl rfl P i pins s3 σ3 B X.xe M (k q) z stop) λr s4 ⟨G,V⟩=>?_)
  subst G
  exact wpAny_execs_nil ⟨σ3,B,V,Z⟩
 ·refine wpAny_passesOwn y (thn (T.item X rfl rfl rfl P i pins s3 σ3 B X.xe M (k q) z go) λr s4 ⟨u,G,Y⟩=>?_)
  subst G
  refine wpAny_passesOwn y (thn Y λ_ s5 ⟨x,L,I5,r5,y5,p,E⟩=>?_)
  have F:=I5.pinned (k E) (T.obj _ _ p)
  refine wpAny_passesOwn y (thn (Q _ s5 σ3 L x u _ F r5 (step x L y5)) λ_ s6 ⟨σ6,H6,I6,q6⟩=>?_)
  refine wpAny_passesOwn y (thn (j _ s6 σ6 H6 _ I6 q6) λf C l=>?_)
  have again:∀ {σ7:St} {c:Hp},Inv X (pins++lr fp s5.heap) σ7 c C->N σ7 c->∃ m,m < n/\∃ i σ' H',Inv X pins σ' H' C/\O i C.heap/\(∀ b∈fp,H' b=none)/\W i m σ' H':=λ{σ7 c} a t=>by
   obtain ⟨m',hm,S⟩:=R σ7 c t
   refine ⟨m',hm,i+1,σ7,c,a.unpinned,T.keep _ _ _ p λb j o e=>(a.pin (b,o) (E4 _ (E4 _ (fm j e)))).1,λb j=>?_,S⟩
   obtain ⟨o,e,d⟩:=T.obj _ _ p b j
   exact (a.pin (b,o) (E4 _ (E4 _ (fm j e)))).2.1
  cases f with
  | next=>obtain ⟨σ7,c,a,t⟩:=l;exact again a t
  | cont=>obtain ⟨σ7,c,a,t⟩:=l;exact again a t
  | brk=>obtain ⟨σ7,c,a,l⟩:=l;exact ⟨σ7,c,a.unpinned,l⟩
  | ret v=>obtain ⟨U,σ7,c,a,r7,l⟩:=l;exact ⟨U,σ7,c,a.unpinned,r7,l⟩
end
end L2
namespace L2
open PySem PySem.Spec PyProof.Rows
abbrev R2:=V->V->Hp->VK->Prop
def OpR (X:Cx) (f:Value->Value->Sem Value) (r:R2):Prop :=
 ∀ (pins:List (Addr×Obj)) (s:Shared) (σ:St) (H:Hp) (x y:V) (v u:Value) (Q:VK),Inv X pins σ H s->RelV x v->RelV y u->r x y H Q ->
  wpAny (model X.prog X.w) X.A (f v u) (EP X pins σ Q) X.xe s
def UnR (X:Cx) (f:Value->Sem Value) (r:V->Hp->VK->Prop):Prop :=
 ∀ (pins:List (Addr×Obj)) (s:Shared) (σ:St) (H:Hp) (x:V) (v:Value) (Q:VK),Inv X pins σ H s->RelV x v->r x H Q ->
  wpAny (model X.prog X.w) X.A (f v) (EP X pins σ Q) X.xe s
def bN (X:Cx) (f:Value) (r:List V->Hp->VK->Prop):Prop :=
 ∀ (pins:List (Addr×Obj)) (s:Shared) (σ:St) (H:Hp) (xs:List V) (us:List Value) (Q:VK),Inv X pins σ H s->Vals xs us->r xs H Q ->
  wpAny (model X.prog X.w) X.A (call f us) (EP X pins σ Q) X.xe s
def tOp (r:R2) (ta tb:TE):TE:=λσ H Q=>ta σ H λx H1=>tb σ H1 λy H2=>r x y H2 Q
def tUn (r:V->Hp->VK->Prop) (ta:TE):TE:=λσ H Q=>ta σ H λx H1=>r x H1 Q
def rI (C:Int->Int->Prop) (g:Int->Int->V):R2:=λx y H Q=>∃ i j,x=.int i/\y=.int j/\C i j/\Q (g i j) H
def rI0 (g:Int->Int->V):R2:=λx y H Q=>∃ i j,x=.int i/\y=.int j/\Q (g i j) H
def rU (g:Int->V):V->Hp->VK->Prop:=λx H Q=>∃ i,x=.int i/\Q (g i) H
section
variable {X:Cx} {a b c:Expr} {ta tb tc:TE} {pos:Pos}
theorem EL (m:PE X a ta) (i:PE X b tb) {R:V->V->Hp->Prop} (I:Inv X pins σ H s) (h:ta σ H λx H1=>tb σ H1 λy H2=>R x y H2) {f:Value->Value->Sem Value} (hf:∀ v u s2 x y H2,Inv X pins σ H2 s2->RelV x v->RelV y u->R x y H2->wpAny (model X.prog X.w) X.A (f v u) Q X.xe s2) :
  wpAny (model X.prog X.w) X.A (eval a X.env) (λv n=>wpAny (model X.prog X.w) X.A (eval b X.env) (λu e=>wpAny (model X.prog X.w) X.A (f v u) Q X.xe e) X.xe n) X.xe s:=by
 refine thn (m pins s σ H _ I h) λv s1 ⟨x,H1,g,l,k⟩=>?_
 refine thn (i pins s1 σ H1 _ g k) λu s2 ⟨y,H2,j,d,c⟩=>?_
 exact hf v u s2 x y H2 j l d c
theorem pe_op (c:OpR X (binaryOp op) r) (i:PE X a ta) (e:PE X b tb):PE X (.BinOp a op b pos) (tOp r ta tb):=by
 intro pins s σ H Q I h
 exact wpAny_BinOp (EL i e I h λv u s2 x y H2 f d g q=>c pins s2 σ H2 x y v u Q f d g q)
theorem pe_un (e:UnR X (unaryOp op) r) (f:PE X a ta):PE X (.UnaryOp op a pos) (tUn r ta):=by
 intro pins s σ H Q I h
 exact UnaryOp_ (thn (f pins s σ H _ I h) λv s1 ⟨x,H1,b,d,c⟩=>e pins s1 σ H1 x v Q b d c)
theorem opI {g:Int->Int->Int} (rule:∀ (i j:Int) (t u:Tok) (s:Shared) (Q:Value->Shared->Prop) (E:Value->Shared->Prop),C i j->Q (.int (g i j) s.toks) { s with toks:=s.toks+1 }->wpAny (model X.prog X.w) X.A (f (.int i t) (.int j u)) Q E s) :
  OpR X f (rI C λi j=>.int (g i j)):=by
 intro pins s σ H x y v u Q I b c h
 obtain ⟨i,j,rfl,rfl,a,q⟩:=h
 obtain ⟨t,rfl⟩:=b
 obtain ⟨t',rfl⟩:=c
 exact rule i j t t' s _ _ a ⟨.int (g i j),H,I.tok _,⟨_,rfl⟩,q⟩
theorem opI0 {g:Int->Int->Int} (rule:∀ (i j:Int) (t u:Tok) (s:Shared) (Q:Value->Shared->Prop) (E:Value->Shared->Prop),Q (.int (g i j) s.toks) { s with toks:=s.toks+1 }->wpAny (model X.prog X.w) X.A (f (.int i t) (.int j u)) Q E s) :
  OpR X f (rI0 λi j=>.int (g i j)):=by
 intro pins s σ H x y v u Q I a b h
 obtain ⟨i,j,rfl,rfl,q⟩:=h
 obtain ⟨t,rfl⟩:=a
 obtain ⟨t',rfl⟩:=b
 exact rule i j t t' s _ _ ⟨.int (g i j),H,I.tok _,⟨_,rfl⟩,q⟩
theorem opB0 {g:Int->Int->Bool} (rule:∀ (i j:Int) (t u:Tok) (s:Shared) (Q:Value->Shared->Prop) (E:Value->Shared->Prop),Q (.bool (g i j)) s->wpAny (model X.prog X.w) X.A (f (.int i t) (.int j u)) Q E s) :
  OpR X f (rI0 λi j=>.bl (g i j)):=by
 intro pins s σ H x y v u Q I a b h
 obtain ⟨i,j,rfl,rfl,q⟩:=h
 obtain ⟨t,rfl⟩:=a
 obtain ⟨t',rfl⟩:=b
 exact rule i j t t' s _ _ ⟨.bl (g i j),H,I,rfl,q⟩
def wq (i j:Int):Prop:=0 < j/\j < 1073741824
def zM (i j:Int):Prop:=0<=j/\j<=1000000/\i.natAbs < 2 ^ 64
def CMul (i j:Int):Prop:=(-(2 ^ 64) < i/\i < 2 ^ 64)\/(-(2 ^ 64) < j/\j < 2 ^ 64)
theorem CMul.ok {i j:Int} (h:CMul i j):IntMulOk i j:=by
 rcases h with ⟨h1,h2⟩ | ⟨h1,h2⟩
 ·exact .of_left (intBits_le_64 h1 h2)
 ·exact .of_right (intBits_le_64 h1 h2)
theorem op_add:OpR X (binaryOp .Add) (rI0 λi j=>.int (i+j)):=opI0 λ_ _ _ _ _ _ _ q=>add_int q
theorem DG:OpR X (binaryOp .Sub) (rI0 λi j=>.int (i - j)):=opI0 λ_ _ _ _ _ _ _ q=>sub_int q
theorem DJ:OpR X (binaryOp .Mult) (rI CMul λi j=>.int (i * j)):=opI λ_ _ _ _ _ _ _ a q=>mul_int q a.ok
theorem DK:OpR X (binaryOp .Mod) (rI (λ_ j=>0 < j) λi j=>.int (i % j)):=opI λi j _ _ _ _ _ a q=>by
 have h1:(0:Int) < j:=a
 exact mod_int' (by omega) (by rw[Int.fmod_eq_emod_of_nonneg i (by omega)];exact q)
theorem DH:OpR X (binaryOp .Pow) (rI zM λi j=>.int (i ^ j.toNat)):=opI λ_ _ _ _ _ _ _ a q=>pow_int_small a.1 a.2.1 a.2.2 q
theorem unI {g:Int->Int} (rule:∀ (i:Int) (t:Tok) (s:Shared) (Q:Value->Shared->Prop) (E:Value->Shared->Prop),Q (.int (g i) s.toks) { s with toks:=s.toks+1 }->wpAny (model X.prog X.w) X.A (f (.int i t)) Q E s) :
  UnR X f (rU λi=>.int (g i)):=by
 intro pins s σ H x v Q I a h
 obtain ⟨i,rfl,q⟩:=h
 obtain ⟨t,rfl⟩:=a
 exact rule i t s _ _ ⟨.int (g i),H,I.tok _,⟨_,rfl⟩,q⟩
theorem Co:UnR X (unaryOp .USub) (rU λi=>.int (-i)):=unI λ_ _ _ _ _ q=>neg_int q
end
def CT:V->V->Bool
 | .non,.non=>true | .non,.int _=>true | .int _,.non=>true | .non,.bl _=>true | .bl _,.non=>true | .non,.str _=>true | .str _,.non=>true
 | .int _,.int _=>true | .bl _,.bl _=>true | .str _,.str _=>true | .byt _,.byt _=>true
 | .int _,.str _=>true | .str _,.int _=>true | .bl _,.str _=>true | .str _,.bl _=>true
 | _,_=>false
def rEq:R2:=λx y H Q=>CT x y=true/\Q (.bl (decide (x=y))) H
def rNe:R2:=λx y H Q=>CT x y=true/\Q (.bl (!decide (x=y))) H
theorem um {i j:Int}:decide (V.int i=V.int j)=(i == j):=by
 rw[Bool.eq_iff_iff]
 simp
theorem zb:decide (V.bl i=V.bl j)=(i == j):=by
 rw[Bool.eq_iff_iff]
 simp
theorem ul:decide (V.str i=V.str j)=(i == j):=by
 rw[Bool.eq_iff_iff]
 simp
theorem uo:decide (V.byt i=V.byt j)=(i.toList == j.toList):=by
 rw[Bool.eq_iff_iff]
 cases i
 cases j
 simp
section
variable {X:Cx} {a b c:Expr} {ta tb tc:TE} {pos:Pos}
theorem aP (I:Inv X pins σ H s) (q:Q (.bl k) H) (e:k=k'):EP X pins σ Q (.bool k') s:=by
 subst e
 exact ⟨.bl k,H,I,rfl,q⟩
theorem op_eq:OpR X (compareOp .Eq) rEq:=by
 intro pins s σ H x y v u Q I b a h
 obtain ⟨hs,q⟩:=h
 cases x with
 | non =>
  cases b
  cases y with
  | non=>cases a;exact PySem.EqNone.eq_none_none (aP I q (by simp))
  | bl j=>cases a;exact PySem.EqNone.eq_none_bool (aP I q (by simp))
  | int j=>obtain ⟨t',rfl⟩:=a;exact PySem.EqNone.eq_none_int (aP I q (by simp))
  | str j=>obtain ⟨t',rfl⟩:=a;exact PySem.EqNone.eq_none_str (aP I q (by simp))
  | _=>exact absurd (show false=true from hs) Fh
 | bl i =>
  cases b
  cases y with
  | non=>cases a;exact PySem.EqNone.eq_bool_none (aP I q (by simp))
  | bl j=>cases a;exact eq_bool (aP I q zb)
  | str j=>obtain ⟨t',rfl⟩:=a;exact PySem.EqMixed.eq_bool_str (aP I q (by simp))
  | _=>exact absurd (show false=true from hs) Fh
 | int i =>
  obtain ⟨t,rfl⟩:=b
  cases y with
  | non=>cases a;exact PySem.EqNone.eq_int_none (aP I q (by simp))
  | int j=>obtain ⟨t',rfl⟩:=a;exact eq_int (aP I q um)
  | str j=>obtain ⟨t',rfl⟩:=a;exact PySem.EqMixed.eq_int_str (aP I q (by simp))
  | _=>exact absurd (show false=true from hs) Fh
 | str i =>
  obtain ⟨t,rfl⟩:=b
  cases y with
  | non=>cases a;exact PySem.EqNone.eq_str_none (aP I q (by simp))
  | bl j=>cases a;exact PySem.EqMixed.eq_str_bool (aP I q (by simp))
  | int j=>obtain ⟨t',rfl⟩:=a;exact PySem.EqMixed.eq_str_int (aP I q (by simp))
  | str j=>obtain ⟨t',rfl⟩:=a;exact eq_str (aP I q ul)
  | _=>exact absurd (show false=true from hs) Fh
 | byt i =>
  obtain ⟨t,rfl⟩:=b
  cases y with
  | byt j=>obtain ⟨t',rfl⟩:=a;exact PySem.W.eq_bytes (aP I q uo)
  | _=>exact absurd (show false=true from hs) Fh
 | _=>cases y <;> exact absurd (show false=true from hs) Fh
theorem op_ne:OpR X (compareOp .NotEq) rNe:=by
 intro pins s σ H x y v u Q I b a h
 obtain ⟨hs,q⟩:=h
 cases x with
 | non =>
  cases b
  cases y with
  | non=>cases a;exact PySem.EqNone.ne_none_none (aP I q (by simp))
  | bl j=>cases a;exact PySem.EqNone.ne_none_bool (aP I q (by simp))
  | int j=>obtain ⟨t',rfl⟩:=a;exact PySem.EqNone.ne_none_int (aP I q (by simp))
  | str j=>obtain ⟨t',rfl⟩:=a;exact PySem.EqNone.ne_none_str (aP I q (by simp))
  | _=>exact absurd (show false=true from hs) Fh
 | bl i =>
  cases b
  cases y with
  | non=>cases a;exact PySem.EqNone.ne_bool_none (aP I q (by simp))
  | bl j=>cases a;exact ne_bool (aP I q (congrArg not zb))
  | str j=>obtain ⟨t',rfl⟩:=a;exact PySem.EqMixed.ne_bool_str (aP I q (by simp))
  | _=>exact absurd (show false=true from hs) Fh
 | int i =>
  obtain ⟨t,rfl⟩:=b
  cases y with
  | non=>cases a;exact PySem.EqNone.ne_int_none (aP I q (by simp))
  | int j=>obtain ⟨t',rfl⟩:=a;exact ne_int (aP I q (congrArg not um))
  | str j=>obtain ⟨t',rfl⟩:=a;exact PySem.EqMixed.ne_int_str (aP I q (by simp))
  | _=>exact absurd (show false=true from hs) Fh
 | str i =>
  obtain ⟨t,rfl⟩:=b
  cases y with
  | non=>cases a;exact PySem.EqNone.ne_str_none (aP I q (by simp))
  | bl j=>cases a;exact PySem.EqMixed.ne_str_bool (aP I q (by simp))
  | int j=>obtain ⟨t',rfl⟩:=a;exact PySem.EqMixed.ne_str_int (aP I q (by simp))
  | str j=>obtain ⟨t',rfl⟩:=a;exact ne_str (aP I q (congrArg not ul))
  | _=>exact absurd (show false=true from hs) Fh
 | byt i =>
  obtain ⟨t,rfl⟩:=b
  cases y with
  | byt j=>obtain ⟨t',rfl⟩:=a;exact PySem.W.ne_bytes (aP I q (congrArg not uo))
  | _=>exact absurd (show false=true from hs) Fh
 | _=>cases y <;> exact absurd (show false=true from hs) Fh
theorem B1:OpR X (compareOp .Lt) (rI0 λi j=>.bl (decide (i < j))):=opB0 λ_ _ _ _ _ _ _ q=>lt_int q
theorem tN:OpR X (compareOp .LtE) (rI0 λi j=>.bl (decide (i<=j))):=opB0 λ_ _ _ _ _ _ _ q=>le_int q
theorem AN:OpR X (compareOp .IsNot) (λx y H Q=>y=.non /\ Q (.bl (!decide (x=.non))) H):=by
  intro pins s σ H x y v u Q I a b h
  obtain ⟨rfl,q⟩:=h
  cases b
  refine isnot_none_gen (aP I q ?_)
  cases x <;> first
    | (cases a; rfl)
    | (obtain ⟨t,rfl⟩:=a; rfl)
theorem OpR.or (h:OpR X f r) (h':OpR X f r'):OpR X f (λx y H Q=>r x y H Q\/r' x y H Q):=by
 intro pins s σ H x y v u Q I a b q
 rcases q with q | q
 ·exact h pins s σ H x y v u Q I a b q
 ·exact h' pins s σ H x y v u Q I a b q
theorem jG (b:Expr) (h:op≠.In:=by decide) (h2:op≠.NotIn:=by decide):behindInMarks op b=false:=by
  have e1:(op == CmpOp.In)=false:=by cases op <;> first | rfl | exact absurd rfl h
  have a:(op == CmpOp.NotIn)=false:=by cases op <;> first | rfl | exact absurd rfl h2
  cases b <;> simp[behindInMarks,e1,a]
theorem AL (c:OpR X (compareOp op) r) (i:PE X a ta) (e:PE X b tb) (hm:behindInMarks op b=false):PE X (.Compare a [op] [b] pos) (tOp r ta tb):=by
 intro pins s σ H Q I h
 exact wpAny_Compare1 (EL i e I h λv u s2 x y H2 f d g q=>c pins s2 σ H2 x y v u Q f d g q) hm
def tTest (t:TE):TT:=λσ H Q=>t σ H λx H'=>∃ k,x=.bl k/\Q k H'
theorem AD (i:OpR X (compareOp op) r) (w:PE X a ta) (m:PE X b tb) (hm:behindInMarks op b=false):PT X (.Compare a [op] [b] pos) (tTest (tOp r ta tb)):=by
 intro pins s σ H Q I h
 refine wpAny_isTrue_Compare1 (thn (w pins s σ H _ I h) λv s1 ⟨x,H1,l,t,q⟩=>thn (m pins s1 σ H1 _ l q) λu s2 ⟨y,H2,o,j,d⟩ =>
  thn (i pins s2 σ H2 x y v u _ o t j d) λc s3 ⟨z,n,p,g,k,e,f⟩=>?_) hm
 subst e
 cases g
 exact FF ⟨n,p,f⟩
def qW (r d:R2) (ta tb tc:TE):TE:=λσ H Q=>ta σ H λx H1=>tb σ H1 λy H2=>r x y H2 λz a=>∃ k,z=.bl k /\
 (if k=true then tc σ a λc b=>d y c b Q else Q (.bl false) a)
theorem xO (C:OpR X (compareOp op) r) (f:OpR X (compareOp op') r') (q:PE X a ta) (n:PE X b tb) (B:PE X c tc) (hm:lastMarks [op,op'] [b,c]=false:=by with_unfolding_all rfl):PE X (.Compare a [op,op'] [b,c] pos) (qW r r' ta tb tc):=by
 intro pins s σ H Q I h
 refine Compare_chain (thn (q pins s σ H _ I h) λv s1 ⟨x,H1,m,K,G⟩=>chain_link (thn (n pins s1 σ H1 _ m G) λu s2 ⟨y,H2,F,j,t⟩ =>
  thn (C pins s2 σ H2 x y v u _ F K j t) λd s3 ⟨z,l,g,A,k,e,i⟩=>?_)) hm
 subst e
 cases A
 refine FF ?_
 cases k with
 | false=>exact ite_ff ⟨.bl false,l,g,rfl,i⟩
 | true=>exact ite_tt (chain_last (thn (B pins s3 σ l _ g i) λo s4 ⟨J,D,w,E,p⟩=>f pins s4 σ D y J u o Q w j E p))
theorem oI:(sizeLine:Nat) < 2 ^ 63:=by rw[sizeLine_eq];decide
theorem op_add_str:OpR X (binaryOp .Add) (λx y H Q=>∃ i j,x=.str i/\y=.str j/\i.length+j.length<=sizeLine/\Q (.str (i++j)) H):=by
 intro pins s σ H x y v u Q I a b h
 obtain ⟨i,j,rfl,rfl,hz,q⟩:=h
 obtain ⟨t,rfl⟩:=a
 obtain ⟨t',rfl⟩:=b
 exact add_str (λt' tk=>⟨.str (i++j),H,I.tok _,⟨_,rfl⟩,q⟩) hz
theorem cW (r:Vals [x] us):∃ u,us=[u]/\RelV x u:=by
 cases r with
 | cons r1 r2=>cases r2;exact ⟨_,rfl,r1⟩
theorem jY (r:Vals [x,y] us):∃ u a,us=[u,a]/\RelV x u/\RelV y a:=by
 cases r with
 | cons r1 r2 =>
  cases r2 with
  | cons r3 r4=>cases r4;exact ⟨_,_,rfl,r1,r3⟩
theorem zn:bN X (.builtin "abs") (λxs H Q=>∃ i,xs=[.int i]/\Q (.int (if i < 0 then -i else i)) H):=by
 intro pins s σ H xs us Q I r h
 obtain ⟨i,rfl,q⟩:=h
 obtain ⟨u,rfl,t,rfl⟩:=cW r
 exact call_abs_int λu tk=>⟨.int (if i < 0 then -i else i),H,I.tok _,⟨_,rfl⟩,q⟩
theorem vY (b:X.calm=true):bN X (.builtin "max") (λxs H Q=>∃ i j,xs=[.int i,.int j]/\Q (.int (if j > i then j else i)) H):=by
 intro pins s σ H xs us Q I r h
 obtain ⟨i,j,rfl,q⟩:=h
 obtain ⟨u,c,rfl,⟨t,rfl⟩,⟨t',rfl⟩⟩:=jY r
 refine max_two_ints (I.ok.hd b) λh' tk k=>⟨_,H,I.kept k,?_,q⟩
 by_cases a:j > i
 ·rw[if_pos a,if_pos a];exact ⟨_,rfl⟩
 ·rw[if_neg a,if_neg a];exact ⟨_,rfl⟩
theorem vX (b:X.calm=true):bN X (.builtin "min") (λxs H Q=>∃ i j,xs=[.int i,.int j]/\Q (.int (if j < i then j else i)) H):=by
 intro pins s σ H xs us Q I r h
 obtain ⟨i,j,rfl,q⟩:=h
 obtain ⟨u,c,rfl,⟨t,rfl⟩,⟨t',rfl⟩⟩:=jY r
 refine min_two_ints (I.ok.hd b) λh' tk k=>⟨_,H,I.kept k,?_,q⟩
 by_cases a:j < i
 ·rw[if_pos a,if_pos a];exact ⟨_,rfl⟩
 ·rw[if_neg a,if_neg a];exact ⟨_,rfl⟩
theorem qI:bN X (.builtin "divmod") (λxs H Q=>∃ i j,xs=[.int i,.int j]/\wq i j/\∀ p,H p=none->Q (.ref p) (upd H p (.tup [.int (i / j),.int (i % j)]))):=by
 intro pins s σ H xs us Q I r h
 obtain ⟨i,j,rfl,⟨h1,h2⟩,q⟩:=h
 obtain ⟨u,c,rfl,⟨t,rfl⟩,⟨t',rfl⟩⟩:=jY r
 refine divmod_int (by omega) ?_ (.inl (PyProof.noPylong_small (by omega)))
 rw[Int.fdiv_eq_ediv_of_nonneg i (by omega),Int.fmod_eq_emod_of_nonneg i (by omega)]
 have a:H s.heap.objs.size=none:=I.hok.fresh (Fg _)
 refine ⟨.ref s.heap.objs.size,_,?_,rfl,q _ a⟩
 refine I.laid (λb o e=>EZ _ e) (Fg _) ⟨by simp only[Fu,List.length_nil];rw[sizeLine_eq];decide,[.int (i / j) s.toks,.int (i % j) (s.toks+1)],.cons ⟨_,rfl⟩ (.cons ⟨_,rfl⟩ .nil),?_⟩
 exact ⟨_,E9 s.heap rfl,rfl,0,rfl⟩
end
end L2
namespace L2
open PySem PySem.Spec PyProof.Rows
theorem RelO.some_of (r:RelO (some v) o):∃ u,o=some u/\RelV v u:=by
 cases o with
 | none=>exact (show False from r).elim
 | some u=>exact ⟨u,rfl,r⟩
section
variable {X:Cx} {pins:List (Addr×Obj)} {σ:St} {H:Hp} {s:Shared} {a C dx:Addr} {fs:List (Str×V)} {f:Str} {v:V} {A:Around} {E:Value->Shared->Prop}
theorem BG (a:attributeBase e f env (eval e env)=eval e env) (h:wpAny (model prog w) A (eval e env) (λo b=>wpAny (model prog w) A (getAttr o f true) Q E b) E s):wpAny (model prog w) A (eval (.Attribute e f pos) env) Q E s :=
 Attribute_any_ h (by rw[arm_eval_Attribute,a])
end
end L2
namespace L2
open PySem PySem.Spec PyProof.Rows
structure Room (k:Nat) (A:Around):Prop where
 hd:A.handled=none
 dp:A.depth+3 * k+5 < recursionLimit
 un:A.units+16 * k+200 < cLine
 gd:A.guards=some []
theorem Room.mono {j k:Nat} (r:Room k A) (h:j<=k):Room j A:=⟨r.hd,by have:=r.dp;omega,by have:=r.un;omega,r.gd⟩
theorem Room.deeper {k:Nat} (r:Room (k+1) A) (env:Env):Room k (A.deeper env) :=
 ⟨r.hd,by have:=r.dp;show A.depth+1+3 * k+5 < _;omega,by have:=r.un;show A.units+3+16 * k+200 < _;omega,r.gd⟩
theorem Room.depth {k:Nat} (r:Room k A):A.depth < recursionLimit:=by have:=r.dp;omega
theorem Room.units {k:Nat} (r:Room k A):A.units+64 < cLine:=by have:=r.un;omega
def tNil:TA:=λ_ H Q=>Q [] H
def BQ (ta:TE) (a:TA):TA:=λσ H Q=>ta σ H λx H1=>a σ H1 λxs H2=>Q (x::xs) H2
section
variable {X:Cx} {e:Expr} {es:List Expr} {te:TE} {t:TA} {pos:Pos}
theorem lx:PA X [] tNil:=λ_ _ _ _ H Q I h=>Calls.spliced_nil ⟨[],H,I,.nil,h⟩
theorem fj (j:PE X e te) (b:PA X es t) (hs:starEach (e::es) X.env=(false,eval e X.env)::starEach es X.env:=by rfl):PA X (e::es) (BQ te t):=by
 intro pos pins s σ H Q I h
 rw[hs]
 show wpAny _ _ (spliced ((false,eval e X.env)::backTo pos (starEach es X.env))) _ _ s
 refine Calls.spliced_cons (thn (j pins s σ H _ I h) λu s1 ⟨x,H1,d,i,g⟩=>?_)
 exact thn (b pos pins s1 σ H1 _ d g) λus s2 ⟨xs,H2,f,c,a⟩=>⟨x::xs,H2,f,.cons i c,a⟩
def tTup (t:TA):TE:=λσ H Q=>t σ H λxs H1=>xs.length<=sizeLine/\∀ p,H1 p=none->Q (.ref p) (upd H1 p (.tup xs))
def tLst (t:TA):TE:=λσ H Q=>t σ H λxs H1=>xs.length<=sizeLine/\∀ p,H1 p=none->Q (.ref p) (upd H1 p (.lst xs))
theorem xL (h:PA X es t):PE X (.Tuple es x1 pos) (tTup t):=by
 intro pins s σ H Q I c
 refine wpAny_Tuple_spliced (thn (h pos pins s σ H _ I c) λus s1 ⟨xs,H1,a,r,z,q⟩=>⟨by rw[<- r.length];exact z,?_⟩)
 have hf:H1 s1.heap.objs.size=none:=a.hok.fresh (Fg _)
 refine ⟨.ref s1.heap.objs.size,upd H1 s1.heap.objs.size (.tup xs),a.laid (t':=s1.toks) (λb u e=>EZ _ e) (Fg _) ?_,rfl,q _ hf⟩
 exact ⟨z,us,r,⟨_,E9 _ rfl,rfl,_,rfl⟩⟩
theorem DA (h:PA X es t):PE X (.List es pos) (tLst t):=by
 intro pins s σ H Q I c
 refine wpAny_List_spliced (thn (h pos pins s σ H _ I c) λus s1 ⟨xs,H1,a,r,z,q⟩=>⟨by rw[<- r.length];exact z,?_⟩)
 have hf:H1 s1.heap.objs.size=none:=a.hok.fresh (Fg _)
 refine ⟨.ref s1.heap.objs.size,upd H1 s1.heap.objs.size (.lst xs),a.laid (t':=s1.toks) (λb u e=>EZ _ e) (Fg _) ?_,rfl,q _ hf⟩
 exact ⟨z,us,0,r,E9 _ rfl⟩
end
abbrev Sp:=List V->Hp->VK->XK->Prop
abbrev CXT:=List Env->Hp->Shared->XK->Value->Shared->Prop
structure Env0 (P:Program) (w:World) (K:FG) (mg:Str->Option Value) (base:Heap) (A:Around) (outer:List Env) (s:Shared) (H:Hp):Prop where
 frames:A.frames=some outer
 mod:Mod K mg base
 bs:∀ b o,base.get? b=some o->s.heap.get? b=some o/\H b=none
 bsz:base.objs.size<=s.heap.objs.size
 funs:s.heap.FunFrames base outer
 frf:∀ b∈frs outer,H b=none
 hok:HOk P w H s.heap
 bare:AllBare s.gens
def CE (outer:List Env) (P:Program) (w:World) (H:Hp) (s:Shared) (Q:VK) (u:Value) (s':Shared):Prop :=
 ∃ v H',s'.os=s.os/\AllBare s'.gens/\Un (frs outer) [] H H' s.heap s'.heap/\HOk P w H' s'.heap/\RelV v u/\Q v H'
def CR (CX:CXT) (outer:List Env) (P:Program) (w:World) (H:Hp) (s:Shared) (Q:VK) (E:XK) (r:Result) (s':Shared):Prop :=
 match r with
 | .ok (.ret u)=>CE outer P w H s Q u s'
 | .ok _=>False
 | .error e=>CX outer H s E e s'
structure FnOk (P:Program) (w:World) (K:FG) (mg:Str->Option Value) (base:Heap) (CX:CXT) (k:Nat) (f:Addr) (fd:FuncData) (ps:List Str) (sp:Sp):Prop where
 len:∀ vs H Q E,sp vs H Q E->vs.length=ps.length
 run:∀ (A:Around) (outer:List Env) (s:Shared) (H:Hp) (args:Args) (us:List Value) (vs:List V) (Q:VK) (E:XK),Room k A->Env0 P w K mg base A outer s H->BindsTo s fd args (ps.zip us)->Vals vs us->sp vs H Q E ->
  codeAny (model P w) A (.call (.ref f) args) (CR CX outer P w H s Q E) s
theorem FnOk.imp {K:FG} {k:Nat} (F:FnOk P w K mg base CX k f fd ps sp) (h:∀ vs H Q E,sp' vs H Q E->sp vs H Q E):FnOk P w K mg base CX k f fd ps sp' :=
 ⟨λvs H Q E q=>F.len vs H Q E (h _ _ _ _ q),λA outer s H args us vs Q E a he c b hs=>F.run A outer s H args us vs Q E a he c b (h _ _ _ _ hs)⟩
section
variable {X:Cx} {pins:List (Addr×Obj)} {σ:St} {H:Hp} {s s':Shared}
theorem Inv.env0 (I:Inv X pins σ H s):Env0 X.prog X.w X.K X.mg X.base X.A X.stack s H :=
 ⟨I.ok.frames,I.ok.mod,I.bs,FH I.ok.bsz I.sz,I.stack,I.stkFree,I.hok,I.bare⟩
theorem Inv.after (I:Inv X pins σ H s) (h:CE X.stack X.prog X.w H s Q u s'):EP X pins σ Q u s':=by
 obtain ⟨v,H',os,bare,un,hok,r,q⟩:=h
 obtain ⟨c,g,d,t,a⟩:=s'
 obtain rfl:a=s.os:=os
 exact ⟨v,H',I.call (h':=c) (g':=g) (d':=d) (t':=t) (ch:=[]) un hok bare (λb z=>absurd z (by simp)),r,q⟩
end
def tCall (sp:Sp) (dvs:List V) (E:XK) (t:TA):TE:=λσ H Q=>t σ H λvs H1=>sp (vs++dvs) H1 Q E
def Binds (K:FG) (fd:FuncData) (ps:List Str) (ds:List Value):Prop :=
 ∀ (s:Shared) (us:List Value),K.In s.heap->(us++ds).length=ps.length->BindsTo s fd ⟨us,[]⟩ (ps.zip (us++ds))
theorem Binds.all {K:FG} (h:∀ us:List Value,us.length=ps.length->bindArgs fd ⟨us,[]⟩=pure (ps.zip us)):Binds K fd ps []:=λs us _ hl=>by
 rw[List.append_nil] at hl ⊢
 exact .of_eq (h us hl)
def sJ (CX:CXT) (X:Cx) (E:XK):Prop:=∀ (pins:List (Addr×Obj)) (σ:St) (H:Hp) (s:Shared) (e:Value) (s':Shared),Inv X pins σ H s->CX X.stack H s E e s'->X.xe e s'
section
variable {X:Cx} {CX:CXT} {k:Nat} {f C:Addr} {fd:FuncData} {ps:List Str} {sp:Sp} {dvs:List V} {ds:List Value} {E:XK} {x m:Str} {p pos apos:Pos} {e o:Expr} {es:List Expr} {ta:TE} {t:TA}
set_option tactic.hygienic true in
theorem CW (F:FnOk X.prog X.w X.K X.mg X.base CX k f fd ps sp) (g:Room k X.A) (c:Binds X.K fd ps ds) (hd:Vals dvs ds) (d:sJ CX X E) (I:Inv X pins σ H s) (r:Vals vs us) (h:sp (vs++dvs) H Q E):wpAny (model X.prog X.w) X.A (call (.ref f) us) (EP X pins σ Q) X.xe s:=by
 have b:Vals (vs++dvs) (us++ds):=r.append hd
 have hl:(us++ds).length=ps.length:=by rw[<- b.length];exact F.len _ _ _ _ h
 refine wpAny_call (codeAny_mono (F.run X.A X.stack s H ⟨us,[]⟩ (us++ds) (vs++dvs) Q E g I.env0 (c s us I.kIn hl) b h) λr s' a=>?_)
 cases r with
 | error e=>exact d pins σ H s e s' I a
 | ok fl =>
  cases fl with
  | ret u=>exact I.after a
  | next=>exact False.elim a
  | brk=>exact False.elim a
  | cont=>exact False.elim a
theorem AM (F:FnOk X.prog X.w X.K X.mg X.base CX k f fd ps sp) (g:Room k X.A) (d:Gl X x) (hm:X.mg x=some (.ref f)) (j:PySem.W.keepIn X.K (.ref f)=true) (i:Binds X.K fd ps ds) (hd:Vals dvs ds) (l:sJ CX X E)
  (m:PA X (e::es) t) (b:(x == ("__debug__":Str))=false:=by decide) (he:starEach (e::es) X.env=(false,eval e X.env)::starEach es X.env:=by rfl) (a:(backTo pos (starEach es X.env)).any (·.1)=false:=by rfl) :
  PE X (.Call (.Name x p) (e::es) [] pos) (tCall sp dvs E t):=by
 intro pins s σ H Q I h
 refine wpAny_Call_Name_kw (ft I d hm ?_ b)
 refine PySem.W.callWith_K (h₀:=X.base) I.ok.mod.kin j (thn (m pos pins s σ H _ I h) λus s1 ⟨vs,H1,c,r,q⟩=>⟨c.kIn,?_⟩) he a
 exact CW F g i hd l c r q
end
structure FnScope (N P:List Str) (sc:Scope):Prop where
 kind:sc.kind=.function
 co:sc.isCoroutine=false
 gen:sc.isGenerator=false
 nd:N.Nodup
 pre:N.take P.length=P
 par:∀ x∈P,sc.names.lookup x=some .local\/sc.names.lookup x=some .cell
 nofree:∀ y∈sc.names,y.2≠.free
theorem nI {kindOf:Str->Option NameKind}:∀ {binds:List (Str×Value)} {m:Str->Option Value},(∀ v,(x,v) ∉ binds)->bindL kindOf binds m x=m x
 | [],_,_=>rfl
 | (n,v)::r,m,h=>by
  unfold bindL
  rw[nI λw hw=>h w (EY _ hw)]
  split
  ·have:x≠n:=by rintro rfl;exact h v EW
   simp[this]
  ·rfl
theorem nK {kindOf:Str->Option NameKind}:∀ {binds:List (Str×Value)} {m:Str->Option Value},(∀ v,(x,v) ∉ binds)->bindC kindOf binds m x=m x
 | [],_,_=>rfl
 | (n,v)::r,m,h=>by
  unfold bindC
  rw[nK λw hw=>h w (EY _ hw)]
  split
  ·rfl
  ·have:x≠n:=by rintro rfl;exact h v EW
   simp[this]
theorem nJ {kindOf:Str->Option NameKind}:∀ {P:List Str} {vs:List Value} {i:Nat} {m:Str->Option Value},P.Nodup->P[i]?=some x->vs[i]?=some v->kindOf x=some .local ->
  bindL kindOf (P.zip vs) m x=some v
 | [],_,_,_,_,h,_,_=>by simp at h
 | _::_,[],_,_,_,_,h,_=>by simp at h
 | p::P,w::vs,0,m,nd,h1,h2,hk=>by
  simp at h1 h2;subst h1;subst h2
  show bindL kindOf ((p,w)::P.zip vs) m p=_
  unfold bindL
  rw[nI λv a=>(List.nodup_cons.mp nd).1 (List.of_mem_zip a).1,if_pos hk]
  simp
 | p::P,w::vs,i+1,m,nd,h1,h2,hk=>by
  show bindL kindOf ((p,w)::P.zip vs) m x=_
  unfold bindL
  exact nJ (i:=i) (List.nodup_cons.mp nd).2 (by simpa using h1) (by simpa using h2) hk
theorem nM {kindOf:Str->Option NameKind}:∀ {P:List Str} {vs:List Value} {i:Nat} {m:Str->Option Value},P.Nodup->P[i]?=some x->vs[i]?=some v->kindOf x≠some .local ->
  bindC kindOf (P.zip vs) m x=some v
 | [],_,_,_,_,h,_,_=>by simp at h
 | _::_,[],_,_,_,_,h,_=>by simp at h
 | p::P,w::vs,0,m,nd,h1,h2,hk=>by
  simp at h1 h2;subst h1;subst h2
  show bindC kindOf ((p,w)::P.zip vs) m p=_
  unfold bindC
  rw[nK λv a=>(List.nodup_cons.mp nd).1 (List.of_mem_zip a).1,if_neg hk]
  simp
 | p::P,w::vs,i+1,m,nd,h1,h2,hk=>by
  show bindC kindOf ((p,w)::P.zip vs) m x=_
  unfold bindC
  exact nM (i:=i) (List.nodup_cons.mp nd).2 (by simpa using h1) (by simpa using h2) hk
def fE (N:List Str) (vs:List V):St:=vs.map some++List.replicate (N.length - vs.length) none
def dn (CX:CXT) (P:Program) (w:World) (K:FG) (mg:Str->Option Value) (base:Heap) (N:List Str) (qual:Str) (scope:Scope) (f:Addr) (cd:Value) (A:Around) (outer:List Env) (s:Shared) (H:Hp) (E:XK):Cx where
 prog:=P
 w:=w
 K:=K
 mg:=mg
 base:=base
 A:=A.deeper (envOfC qual scope s.heap.objs.size f cd)
 N:=N
 s₀:=s
 H₀:=H
 env:=envOfC qual scope s.heap.objs.size f cd
 outer:=outer
 stack:=envOfC qual scope s.heap.objs.size f cd::outer
 ex:=[]
 calm:=true
 fn:=λ_=>true
 pn:=[]
 xe:=λe s'=>wpAny (model P w) (A.deeper (envOfC qual scope s.heap.objs.size f cd)) (leaving (envOfC qual scope s.heap.objs.size f cd) e) (λ_ a=>CX outer H s E e a) (λb a=>CX outer H s E b a) s'
theorem qG {sc:Scope} {n:Nat} (h:sc.names.lookup x=some .cell):∃ c,(cellsFrom n sc.names []).lookup x=some c:=by
 have q:=PySem.W.cellsFrom_some sc.names n [] (.inl h)
 exact Option.isSome_iff_exists.mp q
theorem nk {K:FG} (S:FnScope N ps scope) (hd:A.handled=none) (d:Env0 P w K mg base A outer s H) (hl:vs.length=ps.length) (r:Vals vs us) (x:InCallC s s.heap.objs.size (bindL (envOfC qual scope s.heap.objs.size f cd).kindOf (ps.zip us) λ_=>none) (cellsFrom (s.heap.objs.size+1) scope.names []) (bindC (envOfC qual scope s.heap.objs.size f cd).kindOf (ps.zip us) λ_=>none) s1) :
  Inv (dn CX P w K mg base N qual scope f cd A outer s H E) [] (fE N vs) H s1:=by
 have t:ps.length<=N.length:=by have:=congrArg List.length S.pre;rw[Fv] at this;omega
 obtain ⟨h1,tk,rfl,o⟩:=x.done
 have g:∀ b:Addr,b ∉ (dn CX P w K mg base N qual scope f cd A outer s H E).ex:=λb z=>absurd (show b∈([]:List Addr) from z) (by simp)
 refine ⟨⟨d.mod,S.kind,rfl,rfl,Fg _,λy z c h1 h2=>?_,λy j=>?_,λy c _ h=>?_,λ_=>hd,Around.frames_deeper d.frames,.inr ⟨rfl,rfl⟩,λb z=>absurd z (g b),d.bs,d.bsz,λb _ _=>g b,λb z=>absurd z (g b),d.funs,d.frf⟩,
  rfl,d.bare,Un.kept o,⟨_,x.toInCall.ns,λi y v h1 h2 h3=>?_⟩,λy c h=>⟨_,x.cell y c h⟩,d.hok.fresh (Fg _),λy c h=>?_,λp l=>absurd (show p∈([]:List (Addr×Obj)) from l) (by simp),d.hok.kept o,?_⟩
 ·exact name_of_addr x.apart (PySem.mem_of_lookup h1) (PySem.mem_of_lookup h2)
 ·have j:scope.names.lookup y=some .cell\/scope.names.lookup y=some .free:=j
  rcases j with j | j
  ·exact qG j
  ·exact absurd rfl (S.nofree _ (PySem.mem_of_lookup j))
 ·exact Nat.le_of_lt (x.above y c (PySem.mem_of_lookup h))
 ·have hi:i < vs.length:=by
   unfold fE at h2
   by_cases hi:i < vs.length
   ·exact hi
   ·rw[List.getElem?_append_right (by simpa using hi)] at h2
    rw[List.getElem?_replicate] at h2
    split at h2 <;> cases h2
  have C:vs[i]?=some v:=by
   unfold fE at h2
   rw[List.getElem?_append_left (by simpa using hi),Ff] at h2
   cases e:vs[i]? with
   | none=>rw[e] at h2;cases h2
   | some a=>rw[e] at h2;cases h2;rfl
  obtain ⟨u,hu,B⟩:=r.get C
  have l:ps[i]?=some y:=by
   rw[<- S.pre,List.getElem?_take_of_lt (by omega)];exact h1
  have m:ps.Nodup:=by rw[<- S.pre];exact S.nd.sublist (List.take_sublist _ _)
  refine ⟨u,B,?_⟩
  rcases S.par y (Fc l) with k | k
  ·exact .inl ⟨k,nJ m l hu k⟩
  ·obtain ⟨c,e⟩:=qG (n:=s.heap.objs.size+1) k
   refine .inr ⟨.inl k,c,e,?_⟩
   have q:=x.cell y c e
   rw[nM m l hu (by show scope.names.lookup y≠_;rw[k];decide)] at q
   exact q
 ·exact d.hok.fresh (Nat.le_of_lt (x.above y c (PySem.mem_of_lookup h)))
 ·unfold fE
  show _=N.length
  rw[Ft,Fa,List.length_replicate]
  lia
set_option tactic.hygienic true in
theorem Ce {K:FG} {k:Nat} {m kV doc pm a ct B:Value} (D:K.lookup f=some ⟨B,od,.func (PySem.W.fnOf name qual params body scope m kV doc pm an a ct),osl⟩) (j:PySem.W.codeIn K a qual=true) (S:FnScope N ps scope) (len:∀ vs H Q E,sp vs H Q E->vs.length=ps.length) (c:∀ (A:Around) (outer:List Env) (s:Shared) (H:Hp) (vs:List V) (Q:VK) (E:XK),Room k (A.deeper (envOfC qual scope s.heap.objs.size f a))->sp vs H Q E ->
   ∃ t,PSs (dn CX P w K mg base N qual scope f a A outer s H E) body t/\t { nx:=λ_ H'=>Q .non H',rt:=Q } (fE N vs) H) :
  FnOk P w K mg base CX (k+1) f (PySem.W.fnOf name qual params body scope m kV doc pm an a ct) ps sp:=by
 refine ⟨len,λA outer s H args us vs Q E l h z r g=>?_⟩
 have hl:=len _ _ _ _ g
 have p:K.In s.heap:=h.mod.kin.keeps λb o e=>(h.bs b o e).1
 have lim:s.heap.NoLimit:=h.mod.nolimit.keeps λb o e=>(h.bs b o e).1
 have d:∀ y∈ps.zip us,scope.names.lookup y.1=some .local\/(scope.names.lookup y.1=some .cell/\((cellsFrom (s.heap.objs.size+1) scope.names []).lookup y.1).isSome=true):=λ⟨n,v⟩ C=>by
  rcases S.par n (List.of_mem_zip C).1 with q | q
  ·exact .inl q
  ·exact .inr ⟨q,PySem.W.cellsFrom_some _ _ _ (.inl q)⟩
 refine codeAny_call_function l.depth (p _ _ D) rfl S.co S.gen rfl (PySem.W.codeRec_of p j) (z _ _ _ _ ?_)
 refine wpAny_newFunctionEnv_cells S.kind d λenv he s1 x=>?_
 subst he
 refine ⟨lim.keeps x.toInCall.keep,codeAny_func ?_⟩
 obtain ⟨t,G,F⟩:=c A outer s H vs Q E (l.deeper _) g
 have I:Inv (dn CX P w K mg base N qual scope f a A outer s H E) [] (fE N vs) H s1:=nk S l.hd h hl r x
 refine wpAny_mono (G [] s1 (fE N vs) H _ I F) (λfl s' hs=>?_) λe s' hs=>hs
 have fin:∀ {σ':St} {H':Hp} {v:V} {u:Value},Inv (dn CX P w K mg base N qual scope f a A outer s H E) [] σ' H' s'->RelV v u->Q v H'->CE outer P w H s Q u s' :=
  λ{σ' H' v u} J i q=>⟨v,H',J.os,J.bare,J.base,J.hok,i,q⟩
 cases fl with
 | ret u =>
  obtain ⟨v,σ',H',J,i,q⟩:=hs
  exact fin J i q
 | next =>
  obtain ⟨σ',H',J,q⟩:=hs
  exact fin (v:=V.non) (u:=Value.none) J rfl q
 | brk =>
  obtain ⟨_,_,_,q⟩:=hs
  exact False.elim q
 | cont =>
  obtain ⟨_,_,_,q⟩:=hs
  exact False.elim q
end L2
namespace L2
open PySem PySem.Spec PyProof.Rows
section
variable {X:Cx} {x:Str} {p pos:Pos} {e:Expr} {es:List Expr} {t:TA} {id T:String} {r:List V->Hp->VK->Prop}
def tCB (r:List V->Hp->VK->Prop) (t:TA):TE:=λσ H Q=>t σ H λvs H1=>r vs H1 Q
theorem je (d:bN X (.builtin id) r) (c:Gl X x) (hm:X.mg x=none) (f:bootBuiltins x=some (.builtin id)) (l:PA X (e::es) t) (k:x≠"__name__":=by decide) (b:(x == ("__debug__":Str))=false:=by decide)
  (he:starEach (e::es) X.env=(false,eval e X.env)::starEach es X.env:=by rfl) (a:(backTo pos (starEach es X.env)).any (·.1)=false:=by rfl):PE X (.Call (.Name x p) (e::es) [] pos) (tCB r t):=by
 intro pins s σ H Q I h
 refine wpAny_Call_Name_kw (jL I c hm f ?_ k b)
 exact PyProof.Rows.callWith_builtin1 (thn (l pos pins s σ H _ I h) λus s1 ⟨vs,H1,g,j,i⟩=>d pins s1 σ H1 vs us Q g j i) he a
theorem mS (d:bN X (.type T) r) (c:Gl X x) (hm:X.mg x=none) (f:bootBuiltins x=some (.type T)) (l:PA X (e::es) t) (k:x≠"__name__":=by decide) (b:(x == ("__debug__":Str))=false:=by decide)
  (he:starEach (e::es) X.env=(false,eval e X.env)::starEach es X.env:=by rfl) (a:(backTo pos (starEach es X.env)).any (·.1)=false:=by rfl):PE X (.Call (.Name x p) (e::es) [] pos) (tCB r t):=by
 intro pins s σ H Q I h
 refine wpAny_Call_Name_kw (jL I c hm f ?_ k b)
 exact PyProof.Rows.callWith_type1 (thn (l pos pins s σ H _ I h) λus s1 ⟨vs,H1,g,j,i⟩=>d pins s1 σ H1 vs us Q g j i) he a
end
end L2
namespace HT
open PySem PyProof.Rows
def lexLt:List Int->List Int->Bool
 | [],[]=>false
 | [],_::_=>true
 | _::_,[]=>false
 | x::xs,y::ys=>if x=y then lexLt xs ys else decide (x < y)
theorem lexLt_cons (x y:Int) (xs ys:List Int):lexLt (x::xs) (y::ys)=if x=y then lexLt xs ys else decide (x < y):=rfl
theorem lexLt_nil_nil:lexLt [] []=false:=rfl
theorem lexLt_nil_cons (y:Int) (ys:List Int):lexLt [] (y::ys)=true:=rfl
theorem lexLt_cons_nil (x:Int) (xs:List Int):lexLt (x::xs) []=false:=rfl
theorem yZ (A:Around) (s:Shared) (a:Int) (t:Tok) (c:Int) (u:Tok):∃ e,SeqAt.EqAt A s (.int a t) (.int c u) e/\(e=true ↔ a=c) :=
 ⟨(a == c),SeqAt.EqAt.int_int a t c u,by simp⟩
theorem rcLt_int (A:Around) (s:Shared) (a:Int) (t:Tok) (c:Int) (u:Tok) (prog:Program) (w:World) (E:Value->Shared->Prop) (Q:Value->Shared->Prop) (h:Q (.bool (decide (a < c))) s) :
  wpAny (model prog w) A (richCompare .Lt (.int a t) (.int c u)) Q E s :=
 (PyProof.Rows.lt_int h:wpAny (model prog w) A (compareOp .Lt (.int a t) (.int c u)) Q E s)
section
open PySem.SeqAt
open PySem.AutoSeq1 (wpAny_loadPart')
open PySem.MeetsSeq PySem.MeetsSeq2 PySem.MeetsSeq3
set_option tactic.hygienic true in
theorem tuple_lt_ints (l b:Addr) (items f:Array Value) (n F:Nat) (dd z:Option Addr) (sl C:Array (Option Value)) (ns ms:List Int) (hi:IntsAre items.toList ns) (E:IntsAre f.toList ms) :
  Meets (Builtin.«tuple.__lt__» ⟨[.ref l,.ref b],[]⟩)
   (λ_ R s=>s.heap.get? l=some { cls:=.type "tuple",dict:=dd,data:=.seq items n,slots:=sl }/\s.heap.get? b=some { cls:=.type "tuple",dict:=z,data:=.seq f F,slots:=C } /\
    R (.ok (.ret (.bool (lexLt ns ms)))) s) :=
 .of_wp λprog w A R s h=>by
  obtain ⟨v,g,d,tk,os⟩:=s;obtain ⟨hl,G,h⟩:=h
  have f2:=AutoSeq1.sub_tuple_tuple
  have H:items.size=ns.length:=by rw[<- hi.length];simp
  have I:f.size=ms.length:=by rw[<- E.length];simp
  wp_walk using wpAny_loadPart' hl,wpAny_loadPart' G,wpAny_forIn_list _ (λrest b s'=>b.1=none/\s'=⟨v,g,d,tk,os⟩/\∃ (vs ws:List Value) (j i:List Int),rest=vs.zip ws /\
   IntsAre vs j/\IntsAre ws i/\j.length+f.size=i.length+items.size/\R (.ok (.ret (.bool (lexLt j i)))) ⟨v,g,d,tk,os⟩) _
  case turn =>
   rintro ⟨y,x⟩ rest b s' ⟨r,rfl,vs,ws,j,i,hz,p,k,hlen,o⟩
   cases p with
   | nil=>rw[List.zip_nil_left] at hz;cases hz
   | cons a t hvi' =>
    cases k with
    | nil=>rw[List.zip_nil_right] at hz;cases hz
    | cons c u hwi' =>
     rw[List.zip_cons_cons] at hz
     injection hz with hyx hrest
     injection hyx with hy hx
     subst hy hx
     rw[lexLt_cons] at o
     simp only[Fu] at hlen
     obtain ⟨e,he,m⟩:=yZ A.in1 ⟨v,g,d,tk,os⟩ a t c u
     refine ET (he prog w _ _ ?_)
     cases e with
     | true =>
      rw[if_pos (m.mp rfl)] at o
      wp_walk
      exact ⟨rfl,rfl,_,_,_,_,hrest,hvi',hwi',by omega,o⟩
     | false =>
      rw[if_neg (λq=>absurd (m.mpr q) Fh)] at o
      have B:=rcLt_int A.in1 ⟨v,g,d,tk,os⟩ a t c u prog w
      wp_walk using B
      exact ⟨_,rfl,by simpa using o⟩
  case fin =>
   rintro ⟨b1,b2⟩ s' ⟨r,rfl,vs,ws,j,i,hz,p,k,hlen,o⟩
   simp only at r
   subst r
   have D:lexLt j i=decide (items.size < f.size):=by
    cases p with
    | nil =>
     cases k with
     | nil =>
      simp only[List.length_nil] at hlen
      rw[lexLt_nil_nil]
      exact (Fp (by omega)).symm
     | cons c u hw =>
      simp only[List.length_nil,Fu] at hlen
      rw[lexLt_nil_cons]
      exact (Fo (by omega)).symm
    | cons a t D =>
     cases k with
     | nil =>
      simp only[List.length_nil,Fu] at hlen
      rw[lexLt_cons_nil]
      exact (Fp (by omega)).symm
     | cons c u hw =>
      rw[List.zip_cons_cons] at hz
      cases hz
   rw[D] at o
   wp_walk
   exact ⟨_,rfl,by simpa[Builtin.Tuple.tupleCompareSizes] using o⟩
  case h =>
   exact ⟨rfl,rfl,items.toList,f.toList,ns,ms,rfl,hi,E,by omega,h⟩
end
section
variable {prog:Program} {w:World} {A:Around} {E:Value->Shared->Prop} {s:Shared}
theorem cat_tup (m:IsTup s.heap t vs.toArray) (l:IsTup s.heap b ws.toArray) (k:vs≠[]) (h1:ws=[]->Q (.ref t) s) (h2:ws≠[]->Q (.ref s.heap.objs.size) { s with heap:=s.heap.push { cls:=.type "tuple",data:=.seq (vs++ws).toArray } }) (hsz:vs.length+ws.length<=sizeLine):wpAny (model prog w) A (binaryOp .Add (.ref t) (.ref b)) Q E s:=by
 obtain ⟨⟨cls,dd,data,sl⟩,g,i,n,hd⟩:=id m
 obtain ⟨⟨h,f,data2,d⟩,a,c,j,hd2⟩:=id l
 simp only at i hd c hd2
 subst i hd c hd2
 have e:vs.toArray++ws.toArray=(vs++ws).toArray:=by simp
 by_cases hw:ws=[]
 ·exact concat_meets ⟨_,g,rfl⟩ ⟨_,a,rfl⟩ noFill_tuple_add seq_tuple_add PySem.F.slot_tuple_add PySem.F.entry_tuple_add (PySem.F.args_tuple_add_2 _ _)
   (tuple_addW1 t b vs.toArray ws.toArray n j dd f sl d (by simpa using k) (by simp[hw])) ⟨g,a,h1 hw⟩
 ·refine concat_meets ⟨_,g,rfl⟩ ⟨_,a,rfl⟩ noFill_tuple_add seq_tuple_add PySem.F.slot_tuple_add PySem.F.entry_tuple_add (PySem.F.args_tuple_add_2 _ _)
   (tuple_addW2 t b vs.toArray ws.toArray n j dd f sl d (by simpa using k) (by simpa using hw) (by rw[Fj,Fj];exact hsz)) ⟨g,a,?_⟩
  rw[e]
  exact h2 hw
def sIx (n d:Nat):Option Int->Nat
 | none=>d
 | some v=>if v < 0 then (v+(n:Int)).toNat else min v.toNat n
theorem CU (n d:Nat) (hd:d<=n) (o:Option Int):sIx n d o<=n:=by
 cases o with
 | none=>exact hd
 | some v =>
  show (if v < 0 then (v+(n:Int)).toNat else min v.toNat n)<=n
  by_cases a:v < 0
  ·rw[if_pos a];omega
  ·rw[if_neg a];exact Nat.min_le_right _ _
theorem uu (v:Int) (n d:Nat):(if v < 0 then max (v+(n:Int)) 0 else min v (n:Int))=((sIx n d (some v):Nat):Int):=by
 show (if v < 0 then max (v+(n:Int)) 0 else min v (n:Int))=(((if v < 0 then (v+(n:Int)).toNat else min v.toNat n):Nat):Int)
 by_cases a:v < 0
 ·simp only[if_pos a];omega
 ·simp only[if_neg a];omega
theorem sH (lo hi:Option Int) (n:Nat):Builtin.Slice.sliceAdjust lo hi 1 (n:Int)=(((sIx n 0 lo:Nat):Int),((sIx n n hi:Nat):Int)):=by
 have h1:¬ ((1:Int) < 0):=by omega
 unfold Builtin.Slice.sliceAdjust
 simp only[h1,if_false]
 refine Prod.ext ?_ ?_
 ·cases lo with
  | none=>rfl
  | some v=>exact uu v n 0
 ·cases hi with
  | none=>rfl
  | some v=>exact uu v n n
theorem rE (i j:Nat):Builtin.Slice.slicePlaces (i:Int) (j:Int) 1=j - i:=by
 unfold Builtin.Slice.slicePlaces
 have h1:(1:Int) > 0:=by omega
 simp only[h1,if_true,Int.ediv_one]
 split <;> lia
theorem kZ (p:IsPart v o) (h:Q o s):wpAny (model prog w) A (Builtin.Slice.slicePartIndex v) Q E s:=by
 cases p with
 | none=>exact slicePart_none h
 | int i t=>exact slicePart_int h
theorem eG {sl:Addr} {c d:Value} {lo hi:Option Int} {n:Nat} (hs:s.heap.IsSliceOf sl c d .none) (pl:IsPart c lo) (pu:IsPart d hi) (h:Q (((sIx n 0 lo:Nat):Int),1,sIx n n hi - sIx n 0 lo) s):wpAny (model prog w) A (Builtin.Slice.sliceApplied (.ref sl) (pure (n:Int))) Q E s:=by
 obtain ⟨os,a,e,b⟩:=id hs
 unfold Builtin.Slice.sliceApplied Builtin.Slice.sliceFields
 refine ET (ET (wpAny_field a b (x:=c) rfl (ET (wpAny_field a b (x:=d) rfl (ET (wpAny_field a b (x:=.none) rfl (EU ?_)))))))
 refine ET (slicePart_none ?_)
 show wpAny _ _ (if ((1:Int) == 0)=true then _ else _) _ _ s
 rw[if_neg (by decide)]
 refine ET (kZ pl (ET (kZ pu (ET (EU ?_)))))
 show wpAny _ _ (match Builtin.Slice.sliceAdjust lo hi 1 (n:Int) with | (lo,hi)=>pure (lo,(1:Int),Builtin.Slice.slicePlaces lo hi 1)) _ _ s
 rw[sH lo hi n]
 show wpAny _ _ (pure (((sIx n 0 lo:Nat):Int),(1:Int),Builtin.Slice.slicePlaces ((sIx n 0 lo:Nat):Int) ((sIx n n hi:Nat):Int) 1)) _ _ s
 rw[rE]
 exact EU h
theorem xJ (xs:Array Value) (i k:Nat):((List.range k).filterMap λ(m:Nat)=>xs[((i:Int)+(m:Int) * 1).toNat]?).toArray=((xs.toList.drop i).take k).toArray:=by
 have e:(λ(m:Nat)=>xs[((i:Int)+(m:Int) * 1).toNat]?)=λm=>xs[i+m]?:=by
  funext m
  have:((i:Int)+(m:Int) * 1).toNat=i+m:=by omega
  rw[this]
 rw[e]
 have:=pick_run xs i k
 rw[List.filterMap_map] at this
 have a:((λx=>xs[x]?) ∘ λx=>i+x)=λm=>xs[i+m]?:=rfl
 rw[a] at this
 rw[this]
theorem getItem_tuple_cut {lo hi:Option Int} (b:IsTup s.heap t items) (hs:s.heap.IsSliceOf sl vl vu .none) (pl:IsPart vl lo) (pu:IsPart vu hi) (hw:¬ (sIx items.size 0 lo=0/\sIx items.size items.size hi=items.size)) (h:Q (.ref s.heap.objs.size) { s with heap:=s.heap.push { cls:=.type "tuple",data:=.seq ((items.toList.drop (sIx items.size 0 lo)).take (sIx items.size items.size hi - sIx items.size 0 lo)).toArray } }) (hsz:items.size<=sizeLine):wpAny (model prog w) A (getItem (.ref t) (.ref sl)) Q E s:=by
 have a:sizeOk (.seq ((items.toList.drop (sIx items.size 0 lo)).take (sIx items.size items.size hi - sIx items.size 0 lo)).toArray):=by
  show ((items.toList.drop (sIx items.size 0 lo)).take (sIx items.size items.size hi - sIx items.size 0 lo)).toArray.size<=sizeLine
  rw[Fj,Fv,List.length_drop,Array.length_toList]
  lia
 have k:sIx items.size items.size hi<=items.size:=CU _ _ (Fg _) hi
 obtain ⟨os,e,c,g⟩:=id hs
 have d:s.TypeIs (.ref sl) "slice":=⟨os,e,c⟩
 unfold getItem
 try with_reducible refine EV ?_
 first | refine ET (EU ?_) | skip
 refine ET (wpAny_sequenceKey b.typeIs (by decide) ?_)
 refine ET (wpAny_callSpecial?_slot (name:=Str.ofString "__getitem__") b.typeIs PyProof.Rows.slot_tuple_getitem
  (wpAny_call_entry PyProof.Rows.slot_tuple_getitem b.typeIs entry_tuple_getitem ?_ (args_tuple_getitem _ _)))
 show wpAny _ _ (Builtin.Tuple.tupleItemsOf (.ref t) >>= _) _ _ s
 refine ET (tupleItemsOf_ b ?_)
 refine ET (wpAny_typeOf d ?_)
 rw[if_pos (by decide)]
 refine ET (eG hs pl pu ?_)
 have f:¬ ((((sIx items.size 0 lo:Nat):Int) == 0 && (1:Int) == 1 && (sIx items.size items.size hi - sIx items.size 0 lo) == items.size)=true):=by
  intro q
  rw[Bool.and_eq_true,Bool.and_eq_true] at q
  have j:((sIx items.size 0 lo:Nat):Int)=0:=eq_of_beq q.1.1
  have i:sIx items.size items.size hi - sIx items.size 0 lo=items.size:=eq_of_beq q.2
  exact hw ⟨by omega,by omega⟩
 show wpAny _ _ (if (((sIx items.size 0 lo:Nat):Int) == 0 && (1:Int) == 1 && (sIx items.size items.size hi - sIx items.size 0 lo) == items.size)=true then _ else _) _ _ s
 rw[if_neg f,xJ]
 first
  | exact ET (m:=Builtin.Tuple.tupleExact _) (wpAny_newObj_type (EU ⟨_,rfl,EU h⟩) a)
  | exact ET (m:=Builtin.Tuple.tupleExact _) (wpAny_newObj_type (ET (EU (EU ⟨_,rfl,EU h⟩))) a)
  | exact ET (ET (m:=Builtin.Tuple.tupleExact _) (wpAny_newObj_type (EU (EU ⟨_,rfl,EU h⟩)) a))
  | exact ET (ET (m:=Builtin.Tuple.tupleExact _) (wpAny_newObj_type (EU ⟨_,rfl,EU h⟩) a))
end
end HT
namespace L2
open PySem PySem.Spec PyProof.Rows
abbrev TO:=St->Hp->(Option Int->Hp->Prop)->Prop
def PO (X:Cx) (e:Option Expr) (t:TO):Prop :=
 ∀ (pins:List (Addr×Obj)) (s:Shared) (σ:St) (H:Hp) (Q:Option Int->Hp->Prop),Inv X pins σ H s->t σ H Q ->
  wpAny (model X.prog X.w) X.A (evalPart e X.env) (λu s'=>∃ o H',Inv X pins σ H' s'/\IsPart u o/\Q o H') X.xe s
def zV:TO:=λ_ H Q=>Q none H
def tPart (t:TE):TO:=λσ H Q=>t σ H λx H1=>∃ i,x=.int i/\Q (some i) H1
theorem lK:∀ {us:List Value},Vals (ns.map V.int) us->IntsAre us ns:=by
 induction ns with
 | nil=>intro us r;rw[List.map_nil] at r;cases r;exact .nil
 | cons n ns ih =>
  intro us r
  rw[Fm] at r
  cases r with
  | cons r1 r2 =>
   obtain ⟨t,e⟩:=r1
   subst e
   exact .cons n t (ih r2)
section
variable {X:Cx} {e:Expr} {te:TE} {lo hi:Option Expr} {tl th:TO} {pos p2:Pos}
theorem AI:PO X none zV:=by
 intro pins s σ H Q I h
 rw[evalPart_none]
 exact EU ⟨none,H,I,.none,h⟩
theorem AH (h:PE X e te):PO X (some e) (tPart te):=by
 intro pins s σ H Q I hw
 rw[evalPart_some]
 refine thn (h pins s σ H _ I hw) λu s1 ⟨x,H1,a,c,b⟩=>?_
 obtain ⟨i,rfl,q⟩:=b
 obtain ⟨t,rfl⟩:=c
 exact ⟨some i,H1,a,.int i t,q⟩
def SlR (X:Cx) (r:V->Option Int->Option Int->Hp->VK->Prop):Prop :=
 ∀ (pins:List (Addr×Obj)) (s:Shared) (σ:St) (H:Hp) (x:V) (v a b:Value) (lo hi:Option Int) (sl:Addr) (Q:VK),Inv X pins σ H s->RelV x v->s.heap.IsSliceOf sl a b .none->IsPart a lo->IsPart b hi->r x lo hi H Q ->
  ∃ T id,typeLookup (.type T) "__getitem__"=pure (some (.builtin id))/\s.TypeIs v T/\wpAny (model X.prog X.w) X.A (getItem v (.ref sl)) (EP X pins σ Q) X.xe s
theorem SlR.or (h:SlR X r) (h':SlR X r'):SlR X (λx lo hi H Q=>r x lo hi H Q\/r' x lo hi H Q):=by
 intro pins s σ H x v a b lo hi sl Q I c hs pl pu q
 rcases q with q | q
 ·exact h pins s σ H x v a b lo hi sl Q I c hs pl pu q
 ·exact h' pins s σ H x v a b lo hi sl Q I c hs pl pu q
def tSl (r:V->Option Int->Option Int->Hp->VK->Prop) (te:TE) (tl th:TO):TE:=λσ H Q=>te σ H λx H1=>tl σ H1 λl H2=>th σ H2 λu a=>r x l u a Q
theorem xN (o:SlR X r) (he:PE X e te) (hl:PO X lo tl) (hu:PO X hi th):PE X (.Subscript e (.Slice lo hi none p2) pos) (tSl r te tl th):=by
 intro pins s σ H Q I h
 refine Subscript_ (thn (he pins s σ H _ I h) λv s1 ⟨x,H1,i,z,y⟩=>?_)
 refine wpAny_Slice (thn (hl pins s1 σ H1 _ i y) λa s2 ⟨l,H2,p,pl,k⟩=>thn (hu pins s2 σ H2 _ p k) λc s3 ⟨u,d,j,pu,m⟩=>?_)
 rw[evalPart_none]
 refine EU ?_
 have n:Inv X pins σ d { s3 with heap:=s3.heap.push { cls:=.type "slice",data:=.fields #[a,c,.none] } }:=j.kept (t':=s3.toks) λb ob q=>EZ _ q
 obtain ⟨T,id,g,t,f⟩:=o pins { s3 with heap:=s3.heap.push { cls:=.type "slice",data:=.fields #[a,c,.none] } } σ d x v a c l u s3.heap.objs.size Q n z (Heap.IsSliceOf.new ..) pl pu m
 show wpAny (model X.prog X.w) X.A (subscriptTail e (.Slice lo hi none p2) v (.ref s3.heap.objs.size)) (EP X pins σ Q) X.xe { s3 with heap:=s3.heap.push { cls:=.type "slice",data:=.fields #[a,c,.none] } }
 exact tail_any (ops:=[.ref s3.heap.objs.size,v]) t g f (by with_unfolding_all rfl)
def qD (xs:List V) (lo hi:Option Int):List V:=(xs.drop (HT.sIx xs.length 0 lo)).take (HT.sIx xs.length xs.length hi - HT.sIx xs.length 0 lo)
theorem kg (xs:List V) (lo hi:Option Int):(qD xs lo hi).length<=xs.length:=by
 unfold qD
 rw[Fv,List.length_drop]
 lia
def Dm (K:FG):V->Option Int->Option Int->Hp->VK->Prop:=λx lo hi H Q=>∃ a xs,x=.ref a/\SqT K H a xs /\
 ¬ (HT.sIx xs.length 0 lo=0/\HT.sIx xs.length xs.length hi=xs.length)/\∀ p,H p=none->Q (.ref p) (upd H p (.tup (qD xs lo hi)))
theorem sl_tup:SlR X (Dm X.K):=by
 intro pins s σ H x v f g lo hi sl Q I d hs pl pu h
 obtain ⟨a,xs,rfl,e,hw,q⟩:=h
 cases d
 obtain ⟨its,r,c,hz⟩:=I.tuple e
 have hlen:its.toArray.size=xs.length:=by rw[Fj];exact r.length.symm
 refine ⟨"tuple",_,PyProof.Rows.slot_tuple_getitem.lookup,c.typeIs,?_⟩
 refine HT.getItem_tuple_cut c hs pl pu (by rw[hlen];exact hw) ?_ (by rw[hlen];exact hz)
 rw[hlen]
 refine ⟨.ref s.heap.objs.size,_,I.laid (t':=s.toks) (o:=.tup (qD xs lo hi)) (λb ob q=>EZ _ q) (Fg _) ?_,rfl,q _ (I.hok.fresh (Fg _))⟩
 exact ⟨FH (kg xs lo hi) hz,_,(r.drop (HT.sIx xs.length 0 lo)).take (HT.sIx xs.length xs.length hi - HT.sIx xs.length 0 lo),IsTupD.new _ _⟩
def tz (K:FG):R2:=λx y H Q=>∃ a b xs ys,x=.ref a/\y=.ref b/\SqT K H a xs/\SqT K H b ys/\xs≠[]/\xs.length+ys.length<=sizeLine /\
 (ys=[]->Q (.ref a) H)/\(ys≠[]->∀ p,H p=none->Q (.ref p) (upd H p (.tup (xs++ys))))
theorem Vals.nil_iff (r:Vals xs us):us=[] ↔ xs=[]:=by
 cases r with
 | nil=>simp
 | cons _ _=>simp
theorem op_catT:OpR X (binaryOp .Add) (tz X.K):=by
 intro pins s σ H x y v u Q I g m h
 obtain ⟨a,b,xs,ys,rfl,rfl,n,j,k,hz,l,f⟩:=h
 cases g
 cases m
 obtain ⟨its,d,i,_⟩:=I.tuple n
 obtain ⟨e,c,p2,_⟩:=I.tuple j
 refine HT.cat_tup i p2 (λz=>k (d.nil_iff.mp z)) (λz=>⟨.ref a,H,I,rfl,l (c.nil_iff.mp z)⟩) (λz=>?_) (by rw[<- d.length,<- c.length];exact hz)
 refine ⟨.ref s.heap.objs.size,_,I.laid (t':=s.toks) (o:=.tup (xs++ys)) (λb ob q=>EZ _ q) (Fg _) ?_,rfl,f (λw=>z (c.nil_iff.mpr w)) _ (I.hok.fresh (Fg _))⟩
 exact ⟨by rw[Ft];exact hz,_,d.append c,IsTupD.new _ _⟩
end
end L2
namespace L2
open PySem PySem.Spec PyProof.Rows
def ixN (n:Nat) (i:Int):Option Nat:=if 0<=i then (if i < n then some i.toNat else none) else if -(n:Int)<=i then some (i+n).toNat else none
def atI {α:Type} (xs:List α) (i:Int):Option α:=(ixN xs.length i).bind λj=>xs[j]?
theorem t6 {n:Nat} {i:Int} {j:Nat} (h:ixN n i=some j):seqIndex? i n=some j/\j < n/\-(n:Int)<=i/\i < n:=by
 unfold ixN at h
 by_cases h0:0<=i
 ·rw[if_pos h0] at h
  by_cases h1:i < n
  ·rw[if_pos h1] at h
   have e:i.toNat=j:=FL h
   exact ⟨by rw[seqIndex_of h0 h1,e],by omega,by omega,h1⟩
  ·rw[if_neg h1] at h;cases h
 ·rw[if_neg h0] at h
  by_cases h1:-(n:Int)<=i
  ·rw[if_pos h1] at h
   have e:(i+n).toNat=j:=FL h
   exact ⟨by rw[seqIndex_neg (by omega) h1,e],by omega,h1,by omega⟩
  ·rw[if_neg h1] at h;cases h
theorem uz {i:Int} (h:atI xs i=some v):∃ j,seqIndex? i xs.length=some j/\xs[j]?=some v/\j < xs.length/\-(xs.length:Int)<=i/\i < xs.length:=by
 unfold atI at h
 cases e:ixN xs.length i with
 | none=>rw[e] at h;cases h
 | some j =>
  rw[e] at h
  obtain ⟨h1,h2,h3,a⟩:=t6 e
  exact ⟨j,h1,h,h2,h3,a⟩
def uB (b:Expr):Prop:=∀ o i,subscripted b false o i=operate [o,i] (getItem o i)
def IxR (X:Cx) (r:R2):Prop :=
 ∀ (value slice:Expr) (pins:List (Addr×Obj)) (s:Shared) (σ:St) (H:Hp) (x y:V) (v u:Value) (Q:VK),Inv X pins σ H s->RelV x v->RelV y u->r x y H Q ->
  subscripted slice false v u=operate [v,u] (getItem v u)->wpAny (model X.prog X.w) X.A (subscriptTail value slice v u) (EP X pins σ Q) X.xe s
def MtR (X:Cx) (id:String) (r:V->List V->Hp->VK->Prop):Prop :=
 ∀ (pins:List (Addr×Obj)) (s:Shared) (σ:St) (H:Hp) (x:V) (xs:List V) (v:Value) (us:List Value) (Q:VK),Inv X pins σ H s->RelV x v->Vals xs us->r x xs H Q ->
  wpAny (model X.prog X.w) X.A (call (.builtin id) (v::us)) (EP X pins σ Q) X.xe s
section
variable {X:Cx} {a b:Expr} {ta tb:TE} {pos:Pos}
theorem IxR.or (h:IxR X r) (h':IxR X r'):IxR X (λx y H Q=>r x y H Q\/r' x y H Q):=by
 intro value slice pins s σ H x y v u Q I a b q hs
 rcases q with q | q
 ·exact h value slice pins s σ H x y v u Q I a b q hs
 ·exact h' value slice pins s σ H x y v u Q I a b q hs
theorem pe_ix (c:IxR X r) (i:PE X a ta) (e:PE X b tb) (hs:uB b):PE X (.Subscript a b pos) (tOp r ta tb):=by
 intro pins s σ H Q I h
 exact Subscript_ (EL i e I h λv u s2 x y H2 f d g q=>c a b pins s2 σ H2 x y v u Q f d g q (hs _ _))
def xx (K:FG):R2:=λx y H Q=>∃ p xs i v,x=.ref p/\y=.int i/\SqL K H p xs/\atI xs i=some v/\Q v H
def xw (K:FG):R2:=λx y H Q=>∃ p xs i v,x=.ref p/\y=.int i/\SqT K H p xs/\atI xs i=some v/\Q v H
theorem ix_list:IxR X (xx X.K):=by
 intro value slice pins s σ H x y v u Q I e g h hs
 obtain ⟨p,xs,i,z,rfl,rfl,f,he,q⟩:=h
 cases e
 obtain ⟨t,rfl⟩:=g
 obtain ⟨its,r,pl,hz⟩:=I.list f
 obtain ⟨j,h1,h2,h3,d,k⟩:=uz he
 obtain ⟨w,c,b⟩:=r.get h2
 have hl:=r.length
 have l:=oI
 have fin:EP X pins σ Q w s:=⟨z,H,I,b,q⟩
 by_cases h0:0<=i
 ·have a:i.toNat=j:=by
   rw[seqIndex_of h0 k] at h1
   exact FL h1
  exact item_listR pl.isList h0 (by omega) (by rw[a];simpa using c) fin hs
 ·have a:(i+(its.toArray.size:Int)).toNat=j:=by
   rw[seqIndex_neg (by omega) d] at h1
   rw[Fj,<- hl]
   exact FL h1
  exact subscriptTail_builtinR (x:=w) pl.isList.typeIs slot_list_getitem.lookup
   (wpAny_getItem_list_neg (Q:=λr s'=>r=w/\EP X pins σ Q r s') pl.isList (by omega) (by rw[Fj] <;> omega) (by omega) (by rw[a];simpa using c) ⟨rfl,fin⟩) hs
theorem Eh:IxR X (xw X.K):=by
 intro value slice pins s σ H x y v u Q I c e h hs
 obtain ⟨p,xs,i,z,rfl,rfl,d,he,q⟩:=h
 cases c
 obtain ⟨t,rfl⟩:=e
 obtain ⟨its,r,pl,hz⟩:=I.tuple d
 obtain ⟨j,h1,h2,h3,f,k⟩:=uz he
 obtain ⟨w,b,a⟩:=r.get h2
 have hl:=r.length
 have g:=oI
 have fin:EP X pins σ Q w s:=⟨z,H,I,a,q⟩
 exact subscriptTail_builtinR (x:=w) pl.typeIs slot_tuple_getitem.lookup
  (getItem_tuple (j:=j) (Q:=λr s'=>r=w/\EP X pins σ Q r s') pl (by omega) (by omega) (by rw[Fj,<- hl];exact h1) (by simpa using b) ⟨rfl,fin⟩) hs
theorem rL (its:List Value) (n j:Nat) (u:Value):Obj.mapSeq (·.setIfInBounds j u) { cls:=.type "list",data:=.seq its.toArray n }={ cls:=.type "list",data:=.seq (its.set j u).toArray n }:=by
 simp[Obj.mapSeq]
theorem Inv.lst {pins:List (Addr×Obj)} {σ:St} {H:Hp} {s:Shared} {p:Addr} {xs:List V} (I:Inv X pins σ H s) (h:H p=some (.lst xs)) :
  ∃ (its:List Value) (n:Nat),Vals xs its/\s.heap.get? p=some { cls:=.type "list",data:=.seq its.toArray n }/\xs.length<=sizeLine:=by
 obtain ⟨z,its,n,r,e⟩:=I.hok p _ h
 exact ⟨its,n,r,e,z⟩
theorem Inv.lstUpd {its its':List Value} {n a:Nat} (I:Inv X pins σ H s) (h:H p=some (.lst xs)) (c:s.heap.get? p=some { cls:=.type "list",data:=.seq its.toArray n }) (hf:f { cls:=.type "list",data:=.seq its.toArray n }={ cls:=.type "list",data:=.seq its'.toArray a }) (r:Vals ys its') (hz:ys.length<=sizeLine) (t:Nat) :
  Inv X pins σ (upd H p (.lst ys)) { s with heap:=s.heap.update p f,toks:=t }:=by
 have e:(s.heap.update p f).get? p=some { cls:=.type "list",data:=.seq its'.toArray a }:=by
  rw[Fs f c (by rw[hf] <;> rfl),hf]
 refine I.write (x:=p) (e:=p) (by rw[h];trivial) (.inl rfl) (λb u d q=>(FD _ _ (Ne.symm d)).trans q) ⟨_,e⟩ ?_
 exact ⟨hz,its',a,r,e⟩
def lh:V->V->V->Hp->(Hp->Prop)->Prop:=λo i v H Q=>∃ p xs k j,o=.ref p/\i=.int k/\H p=some (.lst xs)/\ixN xs.length k=some j/\Q (upd H p (.lst (xs.set j v)))
theorem wN:zH X lh:=by
 intro pins s σ H o i v ov w u Q I f m g h
 obtain ⟨p,xs,k,j,rfl,rfl,e,l,q⟩:=h
 cases f
 obtain ⟨t,rfl⟩:=m
 obtain ⟨its,n,r,b,hz⟩:=I.lst e
 obtain ⟨h1,h2,h3,c⟩:=t6 l
 have hl:=r.length
 have x:=oI
 have d:Inv X pins σ (upd H p (.lst (xs.set j v))) { s with heap:=s.heap.update p (Obj.mapSeq (·.setIfInBounds j u)) } :=
  I.lstUpd e b (rL its n j u) (r.set g j) (by rw[List.length_set];exact hz) s.toks
 by_cases h0:0<=k
 ·have a:k.toNat=j:=by
   rw[seqIndex_of h0 c] at h1
   exact FL h1
  exact PySem.W.ki_setAt b h0 (by omega) (by rw[Fj,<- hl];exact c) (by rw[a];exact ⟨_,d,q⟩)
 ·have a:(k+(its.toArray.size:Int)).toNat=j:=by
   rw[seqIndex_neg (by omega) h3] at h1
   rw[Fj,<- hl]
   exact FL h1
  exact PySem.W.ki_setBack b (by omega) (by rw[Fj,<- hl];exact h3) (by omega) (by rw[a];exact ⟨_,d,q⟩)
theorem nX (lo hi:Option Int) (n:Nat):(sliceBounds lo hi none n).1=((HT.sIx n 0 lo:Nat):Int)/\(sliceBounds lo hi none n).2.1=((HT.sIx n n hi:Nat):Int)/\(sliceBounds lo hi none n).2.2=1:=by
 refine ⟨?_,?_,rfl⟩
 ·cases lo with
  | none=>simp[sliceBounds,HT.sIx]
  | some i =>
   simp only[sliceBounds,HT.sIx,Option.getD_none,show (1:Int) > 0 by decide,if_true]
   by_cases h:i < 0
   ·simp only[h,if_true] <;> omega
   ·simp only[h,if_false] <;> omega
 ·cases hi with
  | none=>simp[sliceBounds,HT.sIx]
  | some i =>
   simp only[sliceBounds,HT.sIx,Option.getD_none,show (1:Int) > 0 by decide,if_true]
   by_cases h:i < 0
   ·simp only[h,if_true] <;> omega
   ·simp only[h,if_false] <;> omega
theorem l8 (its:List Value) (lo hi:Option Int):slicePick its.toArray lo hi none=((its.drop (HT.sIx its.length 0 lo)).take (HT.sIx its.length its.length hi - HT.sIx its.length 0 lo)).toArray:=by
 obtain ⟨h1,h2,h3⟩:=nX lo hi its.toArray.size
 unfold slicePick
 rw[h1,h2,h3]
 simp only[sliceRange_one,pick_run,Fj] <;> rfl
def Dn (K:FG):V->Option Int->Option Int->Hp->VK->Prop:=λx lo hi H Q=>∃ a xs,x=.ref a/\SqL K H a xs/\∀ p,H p=none->Q (.ref p) (upd H p (.lst (qD xs lo hi)))
theorem sl_list:SlR X (Dn X.K):=by
 intro pins s σ H x v f g lo hi sl Q I d hs pl pu h
 obtain ⟨a,xs,rfl,e,q⟩:=h
 cases d
 obtain ⟨its,r,c,hz⟩:=I.list e
 have hlen:=r.length
 refine ⟨"list",_,slot_list_getitem.lookup,c.isList.typeIs,?_⟩
 refine wpAny_getItem_list_slice c.isList hs pl pu .none (by simp) ?_ (by rw[Fj] <;> omega)
 rw[l8,<- hlen]
 refine ⟨.ref s.heap.objs.size,_,I.laid (t':=s.toks) (o:=.lst (qD xs lo hi)) (λb ob q=>EZ _ q) (Fg _) ?_,rfl,q _ (I.hok.fresh (Fg _))⟩
 exact ⟨FH (kg xs lo hi) hz,_,0,(r.drop (HT.sIx xs.length 0 lo)).take (HT.sIx xs.length xs.length hi - HT.sIx xs.length 0 lo),E9 _ rfl⟩
def fK:V->Bool
 | .non=>true
 | .bl _=>true
 | .int _=>true
 | .str _=>true
 | _=>false
def eqV:V->V->Bool
 | .non,.non=>true
 | .bl a,.bl b=>a == b
 | .bl a,.int b=>(if a then 1 else 0) == b
 | .int a,.bl b=>a == (if b then 1 else 0)
 | .int a,.int b=>a == b
 | .str a,.str b=>a == b
 | _,_=>false
theorem Ey (d:RelV y u) (c:RelV x v) (e:fK y=true) (fx:fK x=true):SeqAt.EqAt A s u v (eqV y x):=by
 cases y with
 | non =>
  cases d
  cases x with
  | non=>cases c;exact SeqAt.EqAt.same _
  | bl b=>cases c;exact SeqAt.EqAt.none_bool b
  | int b=>obtain ⟨t,rfl⟩:=c;exact SeqAt.EqAt.none_int b t
  | str b=>obtain ⟨t,rfl⟩:=c;exact SeqAt.EqAt.none_str b t
  | _=>exact absurd (show false=true from fx) Fh
 | bl a =>
  cases d
  cases x with
  | non=>cases c;exact SeqAt.EqAt.bool_none a
  | bl b=>cases c;exact SeqAt.EqAt.bool_bool a b
  | int b=>obtain ⟨t,rfl⟩:=c;exact SeqAt.EqAt.bool_int a b t
  | str b=>obtain ⟨t,rfl⟩:=c;exact SeqAt.EqAt.bool_str a b t
  | _=>exact absurd (show false=true from fx) Fh
 | int a =>
  obtain ⟨t',rfl⟩:=d
  cases x with
  | non=>cases c;exact SeqAt.EqAt.int_none a t'
  | bl b=>cases c;exact SeqAt.EqAt.int_bool a t' b
  | int b=>obtain ⟨t,rfl⟩:=c;exact SeqAt.EqAt.int_int a t' b t
  | str b=>obtain ⟨t,rfl⟩:=c;exact SeqAt.EqAt.int_str a t' b t
  | _=>exact absurd (show false=true from fx) Fh
 | str a =>
  obtain ⟨t',rfl⟩:=d
  cases x with
  | non=>cases c;exact SeqAt.EqAt.str_none a t'
  | bl b=>cases c;exact SeqAt.EqAt.str_bool a t' b
  | int b=>obtain ⟨t,rfl⟩:=c;exact SeqAt.EqAt.str_int a t' b t
  | str b=>obtain ⟨t,rfl⟩:=c;exact SeqAt.EqAt.str_str a t' b t
  | _=>exact absurd (show false=true from fx) Fh
 | _=>exact absurd (show false=true from e) Fh
def eqU (x:V) (u:Value):Bool:=match u with
 | .none=>eqV .non x
 | .bool b=>eqV (.bl b) x
 | .int i _=>eqV (.int i) x
 | .str z _=>eqV (.str z) x
 | _=>false
theorem oX (r:RelV y u) (f:fK y=true):eqU x u=eqV y x:=by
 cases y with
 | non=>cases r;rfl
 | bl b=>cases r;rfl
 | int i=>obtain ⟨t,rfl⟩:=r;rfl
 | str z=>obtain ⟨t,rfl⟩:=r;rfl
 | _=>exact absurd (show false=true from f) Fh
theorem lC (a:RelV x v) (fx:fK x=true):∀ {xs:List V} {us:List Value},Vals xs us->xs.all fK=true->∀ u∈us,SeqAt.EqAt A s u v (eqU x u)
 | _,_,.nil,_=>λu hu=>by cases hu
 | y::xs,u::us,.cons r t,f=>λb hu=>by
  rw[List.all_cons,Bool.and_eq_true] at f
  rcases E5.mp hu with rfl | hu
  ·rw[oX r f.1];exact Ey r a f.1 fx
  ·exact lC a fx t f.2 b hu
theorem o6:bN X (.builtin "len") (λxs H Q=>∃ p ys,xs=[.ref p]/\(SqL X.K H p ys\/SqT X.K H p ys)/\Q (.int ys.length) H):=by
 intro pins s σ H xs us Q I r h
 obtain ⟨p,ys,rfl,a,q⟩:=h
 obtain ⟨u,rfl,c⟩:=cW r
 cases c
 have d:=oI
 rcases a with a | a
 ·obtain ⟨its,b,pl,hz⟩:=I.list a
  have hlen:=b.length
  exact Calls.call_len_list pl.isList (by simp only[Fj] <;> omega) ⟨.int ys.length,H,I.tok _,⟨s.toks+1,by rw[Fj,hlen]⟩,q⟩
 ·obtain ⟨its,b,pl,hz⟩:=I.tuple a
  have hlen:=b.length
  exact len_tuple pl (by simp only[Fj] <;> omega) ⟨.int ys.length,H,I.tok _,⟨s.toks+1,by rw[Fj,hlen]⟩,q⟩
theorem o5:bN X (.type "list") (λxs H Q=>∃ p ys,xs=[.ref p]/\(SqL X.K H p ys\/SqT X.K H p ys)/\∀ l,H l=none->Q (.ref l) (upd H l (.lst ys))):=by
 intro pins s σ H xs us Q I r h
 obtain ⟨p,ys,rfl,d,q⟩:=h
 obtain ⟨u,rfl,i⟩:=cW r
 cases i
 have fin:∀ (its:List Value),Vals ys its->ys.length<=sizeLine->∀ (h':Heap) (a:Nat),(∀ b o',s.heap.get? b=some o'->h'.get? b=some o') ->
   h'.get? s.heap.objs.size=some { cls:=.type "list",dict:=none,data:=.seq its.toArray a,slots:=#[] }->EP X pins σ Q (.ref s.heap.objs.size) { s with heap:=h' }:=λits c hz h' a kp e =>
  ⟨.ref s.heap.objs.size,_,I.laid (t':=s.toks) kp (Fg _) (show ObjOk X.prog X.w _ h' _ (.lst ys) from ⟨hz,its,a,c,e⟩),rfl,q _ (I.hok.fresh (Fg _))⟩
 rcases d with d | d
 ·obtain ⟨its,c,pl,hz⟩:=I.list d
  have hlen:=c.length
  obtain ⟨o,g,f,n,hd⟩:=pl.isList
  exact call_list_seq p (.inl rfl) g f hd (λh' a kp e=>fin its c hz h' a kp e) (by simp only[Fj] <;> omega)
 ·obtain ⟨its,c,pl,hz⟩:=I.tuple d
  have hlen:=c.length
  obtain ⟨o,g,f,n,hd⟩:=pl
  exact call_list_seq p (.inr rfl) g f hd (λh' a kp e=>fin its c hz h' a kp e) (by simp only[Fj] <;> omega)
theorem mq:bN X (.type "tuple") (λxs H Q=>∃ p ys,xs=[.ref p]/\((SqL X.K H p ys/\∀ l,H l=none->Q (.ref l) (upd H l (.tup ys)))\/(SqT X.K H p ys/\Q (.ref p) H))):=by
 intro pins s σ H xs us Q I r h
 obtain ⟨p,ys,rfl,h⟩:=h
 obtain ⟨u,rfl,f⟩:=cW r
 cases f
 rcases h with ⟨a,q⟩ | ⟨a,q⟩
 ·obtain ⟨its,c,pl,hz⟩:=I.list a
  have hlen:=c.length
  refine call_tuple_list pl.isList (λh' kp=>?_) (by simp only[Fj] <;> omega)
  have d:Inv X pins σ H { s with heap:=h' }:=I.kept (t':=s.toks) kp
  have g:Inv X pins σ (upd H h'.objs.size (.tup ys)) { s with heap:=h'.push { cls:=.type "tuple",data:=.seq its.toArray } } :=
   d.laid (t':=s.toks) (λb o e=>EZ _ e) (Fg _) (show ObjOk X.prog X.w _ _ _ (.tup ys) from ⟨hz,its,c,IsTupD.new _ _⟩)
  exact ⟨.ref h'.objs.size,_,g,rfl,q _ (d.hok.fresh (Fg _))⟩
 ·obtain ⟨its,c,pl,hz⟩:=I.tuple a
  exact call_tuple_same pl ⟨.ref p,H,I,rfl,q⟩
def tyV (K:FG) (T:String) (x:V) (H:Hp):Prop:=match x with
 | .str _=>T="str"
 | .int _=>T="int"
 | .ref p=>(T="list"/\∃ xs,SqL K H p xs)\/(T="tuple"/\((∃ o,K.lookup p=some o/\o.cls=.type "tuple"/\o.dict=none)\/∃ xs,H p=some (.tup xs))) \/
   (T="dict"/\((∃ kvs,H p=some (.dK kvs))\/∃ kvs,H p=some (.dT kvs)))\/(T="set"/\∃ S n,H p=some (.set S n))
 | _=>False
theorem Cq (I:Inv X pins σ H s) (r:RelV x v) (ty:tyV X.K T x H) :
  s.TypeIs v T/\∀ a,v=.ref a->∃ ob,s.heap.get? a=some ob/\ob.dict=none:=by
 cases x with
 | str z =>
  obtain ⟨t,rfl⟩:=r
  cases (show T="str" from ty)
  exact ⟨typeIs_str s z t,λ_ e=>nomatch e⟩
 | int i =>
  obtain ⟨t,rfl⟩:=r
  cases (show T="int" from ty)
  exact ⟨typeIs_int s i t,λ_ e=>nomatch e⟩
 | ref p =>
  cases r
  rcases ty with ⟨rfl,xs,h⟩ | ⟨rfl,⟨o,b,g,hd⟩ | ⟨xs,j⟩⟩ | ⟨rfl,b⟩ | ⟨rfl,S,n,b⟩
  ·obtain ⟨its,_,pl,_⟩:=I.list h
   refine ⟨pl.isList.typeIs,λa e=>?_⟩
   cases e
   obtain ⟨o,n,e,c,hd,_⟩:=pl
   exact ⟨o,e,hd⟩
  ·refine ⟨⟨o,I.kIn p o b,g⟩,λa e=>?_⟩
   cases e
   exact ⟨o,I.kIn _ o b,hd⟩
  ·obtain ⟨_,its,_,o,e,c,n,d⟩:=I.hok p _ j
   refine ⟨⟨o,e,c⟩,λa f=>?_⟩
   cases f
   exact ⟨o,e,congrArg Prod.snd d⟩
  ·have z:∃ o,s.heap.get? p=some o/\o.ExactDict:=by
    rcases b with ⟨kvs,b⟩ | ⟨kvs,b⟩
    ·obtain ⟨_,_,_,_,o,_,_,e,ex,_⟩:=I.hok p _ b
     exact ⟨o,e,ex⟩
    ·obtain ⟨_,_,_,_,o,_,_,e,ex,_⟩:=I.hok p _ b
     exact ⟨o,e,ex⟩
   obtain ⟨o,e,ex⟩:=z
   refine ⟨⟨o,e,ex.1⟩,λa f=>?_⟩
   cases f
   exact ⟨o,e,ex.2.1⟩
  ·obtain ⟨o,_,_,_,e,ex,_⟩:=I.hok p _ b
   refine ⟨⟨o,e,ex.1⟩,λa f=>?_⟩
   cases f
   exact ⟨o,e,ex.2.1⟩
 | _=>exact False.elim ty
def tBM (K:FG) (T:String) (r:V->List V->Hp->VK->Prop) (to:TE) (t:TA):TE:=λσ H Q=>to σ H λx H1=>tyV K T x H1/\t σ H1 λxs H2=>r x xs H2 Q
variable {o e:Expr} {es:List Expr} {to:TE} {t:TA} {name:Str} {apos cpos:Pos} {T id:String} {r:V->List V->Hp->VK->Prop}
theorem B0 (k:PlainAttrs T) (slot:Slot T name id) (f:typeOf (.builtin id)=pure (.type "method_descriptor")) (hm:MtR X id r) (m:PE X o to) (u:PA X (e::es) t)
  (b:attributeBase o name X.env (eval o X.env)=eval o X.env:=by rfl)
  (d:((backTo cpos (starEach (e::es) X.env)).all (λx=>!x.1) && (backToKw cpos (keywordEach [] X.env)).all (λx=>x.1.isSome)
   && decide ((e::es).length+([]:List Keyword).length+(if ([]:List Keyword).isEmpty then 0 else 1) < 30))=true:=by rfl)
  (c:(apos.endLine == cpos.line)=true:=by rfl) (hs:starEach (e::es) X.env=(false,eval e X.env)::starEach es X.env:=by rfl) (a:(backTo cpos (starEach es X.env)).any (·.1)=false:=by rfl) :
  PE X (.Call (.Attribute o name apos) (e::es) [] cpos) (tBM X.K T r to t):=by
 intro pins s σ H Q I h
 refine wpAny_Call_method_late b d c rfl (thn (m pins s σ H _ I h) λv s1 ⟨x,H1,g,j,ty,q⟩=>?_)
 obtain ⟨h1,h2⟩:=Cq g j ty
 refine ⟨T,id,k,slot,f,h1,h2,?_⟩
 have i:=u cpos pins s1 σ H1 _ g q
 rw[hs] at i ⊢
 refine Calls.callWith_builtin (by show (false || (backTo cpos (starEach es X.env)).any (·.1))=false;rw[a] <;> rfl) (Calls.evalArgs_plain ?_)
 exact thn i λus s2 ⟨vs,H2,p,n,l⟩=>hm pins s2 σ H2 x vs v us Q p j n l
end
end L2
namespace L2
open PySem PySem.Spec PyProof.Rows
def MtM (X:Cx) (id:String) (r:V->List V->Hp->VK->Prop):Prop :=
 ∀ (pins:List (Addr×Obj)) (s:Shared) (σ:St) (H:Hp) (x:V) (xs:List V) (v:Value) (us:List Value) (Q:VK),Inv X pins σ H s->RelV x v->Vals xs us->r x xs H Q ->
  wpAny (model X.prog X.w) X.A (call (.builtin id) (v::us)) (EP X pins σ Q) X.xe s
theorem Vals.one:∀ {x:V} {us:List Value},Vals [x] us->∃ u,us=[u]/\RelV x u
 | _,_,.cons r .nil=>⟨_,rfl,r⟩
theorem Vals.eraseIdx:∀ {xs:List V} {us:List Value} (i:Nat),Vals xs us->Vals (xs.eraseIdx i) (us.eraseIdx i)
 | _,_,_,.nil=>.nil
 | _,_,0,.cons _ t=>t
 | _,_,i+1,.cons r t=>.cons r (Vals.eraseIdx i t)
theorem Vals.rep (h:Vals xs us):∀ k:Nat,Vals (List.replicate k xs).flatten (List.replicate k us).flatten
 | 0=>.nil
 | k+1=>by
  rw[List.replicate_succ,List.replicate_succ,List.flatten_cons,List.flatten_cons]
  exact Vals.append h (Vals.rep h k)
theorem m9 {α:Type}:∀ (l:List α) (i:Nat),(l.eraseIdx i).length<=l.length
 | [],_=>Fg _
 | _::_,0=>Nat.le_succ _
 | _::r,i+1=>Nat.succ_le_succ (m9 r i)
section
variable {X:Cx} {pins:List (Addr×Obj)} {σ:St} {H:Hp} {s:Shared} {l b:Addr} {xs ys zs:List V}
theorem Inv.lset {its its':List Value} {n:Nat} {t':Nat} (I:Inv X pins σ H s) (c:H l=some (.lst xs)) (e:s.heap.get? l=some { cls:=.type "list",data:=.seq its.toArray n }) (hf:f its.toArray=its'.toArray) (a:Vals ys its') (hz:ys.length<=sizeLine) :
  Inv X pins σ (upd H l (.lst ys)) { s with heap:=s.heap.update l (Obj.mapSeq f),toks:=t' }:=by
 have q:=PySem.IsL.update e f
 rw[hf] at q
 refine I.write (x:=l) (e:=l) (by rw[c];exact trivial) (.inl rfl) (λd u b hu=>(FD s.heap (Obj.mapSeq f) (Ne.symm b)).trans hu) ⟨_,q⟩ ?_
 exact ⟨hz,its',_,a,q⟩
theorem Inv.lnew {t':Nat} (I:Inv X pins σ H s) (a:Vals ys its) (hz:ys.length<=sizeLine) :
  Inv X pins σ (upd H s.heap.objs.size (.lst ys)) { s with heap:=s.heap.push { cls:=.type "list",data:=.seq its.toArray },toks:=t' } :=
 I.laid (λ_ _ q=>EZ _ q) (Fg _) ⟨hz,its,0,a,E9 _ rfl⟩
theorem Inv.fresh (I:Inv X pins σ H s):H s.heap.objs.size=none:=I.hok.fresh (Fg _)
theorem Inv.lstM (I:Inv X pins σ H s) (a:H l=some (.lst xs)):xs.length<=sizeLine/\∃ (its:List Value) (n:Nat),Vals xs its/\xs.length=its.length/\s.heap.get? l=some { cls:=.type "list",data:=.seq its.toArray n }:=by
 obtain ⟨z,its,n,r,e⟩:=I.hok l _ a
 exact ⟨z,its,n,r,r.length,e⟩
theorem xU {n:Nat} (h:n<=sizeLine):Builtin.List.listTooLong n=false:=by
 unfold Builtin.List.listTooLong
 exact Fp (by omega)
end
section
variable {X:Cx}
def tD:V->List V->Hp->VK->Prop:=λx vs H Q=>∃ l xs y,x=.ref l/\vs=[y]/\H l=some (.lst xs)/\xs.length < sizeLine/\Q .non (upd H l (.lst (xs++[y])))
theorem vn:MtM X "list.append" tD:=by
 intro pins s σ H x vs v us Q I d c h
 obtain ⟨l,xs,y,rfl,rfl,a,hz,q⟩:=h
 cases d
 obtain ⟨u,rfl,b⟩:=c.one
 obtain ⟨z,its,n,r,hl,e⟩:=I.lstM a
 refine call_meets F.slot_list_append ⟨_,e,rfl⟩ F.entry_list_append (F.args_list_append_2 _ _) (PySem.list_append l its.toArray n u (by rw[Fj];omega)) ⟨e,?_⟩
 refine ⟨.non,_,I.lset (its':=its++[u]) a e (by simp) (r.append (.cons b .nil)) ?_,rfl,q⟩
 rw[Ft,List.length_singleton]
 lia
def tv:V->List V->Hp->VK->Prop:=λx vs H Q=>∃ l b xs zs,x=.ref l/\vs=[.ref b]/\H l=some (.lst xs)/\H b=some (.lst zs)/\xs.length+zs.length<=sizeLine/\Q .non (upd H l (.lst (xs++zs)))
theorem vj:MtM X "list.extend" tv:=by
 intro pins s σ H x vs v us Q I m g h
 obtain ⟨l,b,xs,zs,rfl,rfl,d,i,hz,q⟩:=h
 cases m
 obtain ⟨u,rfl,f⟩:=g.one
 cases f
 obtain ⟨z,its,n,r,hl,e⟩:=I.lstM d
 obtain ⟨t,a,j,k,p,o⟩:=I.lstM i
 have hsz:its.toArray.size+a.toArray.size<=sizeLine:=by rw[Fj,Fj];omega
 have c:¬ (!its.toArray.isEmpty && Builtin.List.listTooLong (its.toArray.size+a.toArray.size))=true:=by
  rw[xU hsz,Bool.and_false]
  exact Fh
 refine call_meets F.slot_list_extend ⟨_,e,rfl⟩ F.entry_list_extend (F.args_list_extend_2 _ _)
  (AutoSeq1.list_extend_list_list_0 l its.toArray n b a.toArray j c (by rw[Fj];omega) (by omega)) ⟨e,o,?_⟩
 refine ⟨.non,_,I.lset (its':=its++a) d e (by simp) (r.append k) ?_,rfl,q⟩
 rw[Ft]
 lia
def xv:V->List V->Hp->VK->Prop:=λx vs H Q=>∃ l xs i k y,x=.ref l/\vs=[.int i]/\H l=some (.lst xs)/\-(2 ^ 63)<=i/\i < 2 ^ 63/\seqIndex? i xs.length=some k/\xs[k]?=some y/\Q y (upd H l (.lst (xs.eraseIdx k)))
theorem xY:MtM X "list.pop" xv:=by
 intro pins s σ H x vs v us Q I g d h
 obtain ⟨l,xs,i,k,y,rfl,rfl,b,h1,h2,j,f,q⟩:=h
 cases g
 obtain ⟨u,rfl,c⟩:=d.one
 obtain ⟨t,rfl⟩:=c
 obtain ⟨z,its,n,r,hl,e⟩:=I.lstM b
 obtain ⟨w,hw,a⟩:=r.get f
 refine call_meets F.slot_list_pop ⟨_,e,rfl⟩ F.entry_list_pop (F.args_list_pop_2 _ _)
  (MeetsSeq.list_pop_at l its.toArray n i t k w (fitsIndex_both h1 h2) (by rw[Fj,<- hl];exact j) (by rw[<- Array.getElem?_toList];exact hw) (by rw[Fj];omega)) ⟨e,?_⟩
 refine ⟨y,_,I.lset (its':=its.eraseIdx k) b e ?_ (r.eraseIdx k) ?_,a,q⟩
 ·show its.toArray.eraseIdxIfInBounds k=(its.eraseIdx k).toArray
  rw[List.eraseIdxIfInBounds_toArray]
 ·have:=m9 xs k
  lia
def AB:R2:=λx y H Q=>∃ l b xs zs,x=.ref l/\y=.ref b/\H l=some (.lst xs)/\H b=some (.lst zs)/\xs.length+zs.length<=sizeLine/\∀ p,H p=none->Q (.ref p) (upd H p (.lst (xs++zs)))
theorem DL:OpR X (binaryOp .Add) AB:=by
 intro pins s σ H x y v u Q I f j h
 obtain ⟨l,b,xs,zs,rfl,rfl,m,c,hz,q⟩:=h
 cases f
 cases j
 obtain ⟨z,its,n,r,hl,e⟩:=I.lstM m
 obtain ⟨p,a,o,d,k,i⟩:=I.lstM c
 refine PySem.P.add_list e i ?_ (by rw[Fj,Fj];omega)
 have g:its.toArray++a.toArray=(its++a).toArray:=by simp
 rw[g]
 exact ⟨.ref _,_,I.lnew (t':=s.toks) (r.append d) (by rw[Ft];omega),rfl,q _ I.fresh⟩
end
end L2
namespace Att
open PySem PySem.W PySem.Calls PyProof.Rows
theorem km:∀ (ns:List Int) (vs:List Value),WellAll P h vs (ns.map WData.int)->IntsAre vs ns:=by
 intro ns
 induction ns with
 | nil =>
  intro vs w
  rw[List.map_nil] at w
  cases w
  exact .nil
 | cons n ns ih =>
  intro vs w
  rw[Fm] at w
  cases w with
  | cons a b =>
   cases a
   exact .cons _ _ (ih _ b)
theorem uS {l:OpenLaw} {n:Nat} (j:l.most=some n) (b:l.row.toRowW.claim.pre args=true) (f:WellAll P h vals args) :
  ∃ a vs ns,vals=[Value.ref a]/\args=[WData.list (ns.map WData.int)]/\h.get? a=some { cls:=.type "list",data:=.seq vs.toArray }/\IntsAre vs ns/\ns.length<=n:=by
 have g:WShape.hasAll [] args [.list .int]=true:=(pre_splitW b).1
 have i:l.pre.holds [] { args:=args }=true:=(pre_splitW b).2
 obtain ⟨d,r,rfl,h1,h2⟩:=hasAllW_cons g
 obtain rfl:=hasAllW_nil h2
 obtain ⟨xs,rfl,h3⟩:=hasW_list h1
 obtain ⟨ns,rfl⟩:=items_int h3
 have hlen:ns.length<=n:=by
  unfold OpenLaw.pre at i
  have c:(WTm.not (.lt (.lit (.int (n:Int))) (.len (.arg 0)))).holds [] { args:=[.list (ns.map .int)] }=true:=by
   have c:=(holds_andW i).1
   rw[j] at c
   exact c
  have e:=condW_of c (w_not (w_lt w_lit (w_len_list (w_arg rfl))))
  rw[Fa] at e
  refine Nat.le_of_not_lt λq=>?_
  have k:(n:Int) < ((ns.length:Nat):Int):=by omega
  first
   | (rw[Fo k] at e;exact absurd e (by decide))
   | (simp at e;omega)
 cases f with
 | cons w1 w2 =>
  cases w2
  cases w1 with
  | list ho hall=>exact ⟨_,_,ns,rfl,rfl,ho,km ns _ hall,hlen⟩
theorem u7 (l:OpenLaw) (args:List WData):l.row.toRowW.claim.post args (.bool true) args=true :=
 postW_of (r:=l.row.toRowW) (X:=(true == true))
  (show WShape.has [] (.bool true) .bool=true by first | rfl | decide | simp[WShape.has,WShape.arms,WShape.armsAll])
  (show (WTm.eq .res (.lit (.bool true))).value [] { args:=args,res:=some (.bool true),after:=args }=some (.bool (true == true)) from w_eq_bool (w_res rfl) w_lit) rfl
theorem attach_call {l:OpenLaw} {n:Nat} (A:l.most=some n) (j:d.params.defaults=[]) (call:∀ (w:World) (s₀ b:Shared) (mg mb:Str->Option Value) (g:Addr) (o:Obj) (pm cd doc:Value) (a:Addr) (vs:List Value) (ns:List Int),
   Ground q loose [] XP w s₀ mg mb b.heap->YP w b.heap ->
   b.heap.get? g=some o->o.data=.func (docDef d.name d.params d.body d.scope pm cd doc)->b.heap.CodeRec cd d.name->mg d.name=some (.ref g) ->
   b.heap.get? a=some { cls:=.type "list",data:=.seq vs.toArray }->IntsAre vs ns->ns.length<=n->b.gens=#[] ->
   codeAny (model l.prog w) callerA (.call (.ref g) ⟨[.ref a],[]⟩) (λr s'=>r=.ok (.ret (.bool true))/\OldK b.heap s'.heap/\s'.os=b.os/\AllBare s'.gens) b) :
  WalkO q loose XP YP l.row.toRowW d [] (λf vs=>PySem.call f vs):=by
 intro w s₀ b mg mb G Y g o pm cd doc s kV y hd h m i u args vals as c p t k x
 obtain rfl:s=.none:=Dflts.none m j
 obtain rfl:kV=.none:=Dflts.noKw m
 obtain ⟨a,vs,ns,rfl,rfl,e,hints,hlen⟩:=uS A c k
 refine enter_call (codeAny_mono (call w s₀ b mg mb g o pm cd doc a vs ns G Y y (fd_plain hd) h i e hints hlen u) λr s' z=>?_)
 obtain ⟨rfl,h2,h3,v⟩:=z
 exact ⟨.inl ⟨.bool true,.bool true,[],rfl,λ_=>rfl,.bool true,u7 l _,λ_=>⟨List.Pairwise.nil,λ_ hm=>(nomatch hm)⟩⟩,h2,h3,v⟩
section
variable {prog:Program} {w:World} {A:Around} {E:Value->Shared->Prop} {s:Shared} {K:Frag}
theorem call_fn (X:K.In s.heap) (i:s.heap.NoLimit) (n:K.lookup f=some ⟨oc,od,.func (fnOf name qual params body scope dV kV doc pm an cdv ct),osl⟩) (l:codeIn K cdv qual=true) (a:A.depth < recursionLimit) (d:BindsTo s (fnOf name qual params body scope dV kV doc pm an cdv ct) args binds) (c:(binds.all λy=>scope.names.lookup y.1 == some .local || scope.names.lookup y.1 == some .cell)=true) (h:∀ j,InCallC s s.heap.objs.size (bindL (envOfC qual scope s.heap.objs.size f cdv).kindOf binds λ_=>none) (cellsFrom (s.heap.objs.size+1) scope.names [])
        (bindC (envOfC qual scope s.heap.objs.size f cdv).kindOf binds λ_=>none) j ->
      wpAny (model prog w) (A.deeper (envOfC qual scope s.heap.objs.size f cdv)) (execs body (envOfC qual scope s.heap.objs.size f cdv))
        (λfl s'=>R (.ok (.ret (match fl with | .ret v=>v | _=>.none))) s')
        (λe s'=>wpAny (model prog w) (A.deeper (envOfC qual scope s.heap.objs.size f cdv)) (leaving (envOfC qual scope s.heap.objs.size f cdv) e) (λ_ b=>R (.error e) b) (λm b=>R (.error m) b) s') j) (k:scope.isCoroutine=false) (g:scope.isGenerator=false) (o:scope.kind=.function):codeAny (model prog w) A (.call (.ref f) args) R s:=by
  refine codeAny_call_function a (X _ _ n) rfl k g rfl (codeRec_of X l) (d _ _ _ _ ?_)
  refine wpAny_newFunctionEnv_cells o (kindsX c _) λenv he j x=>?_
  subst he
  exact ⟨i.keeps x.toInCall.keep,codeAny_func (h j x)⟩
end
end Att
namespace L2
open PySem PySem.Spec PyProof.Rows
theorem mB:∀ {vs:List Value} {ns:List Int},IntsAre vs ns->Vals (ns.map V.int) vs
 | _,_,.nil=>.nil
 | _,_,.cons n t h=>.cons ⟨t,rfl⟩ (mB h)
def BJ (H:Hp):Prop:=∀ b,H b=none\/∃ o xs,H b=some (.frz o (.lst xs))
set_option tactic.hygienic true in
theorem yx {K:FG} {k:Nat} (N:K.In s₁.heap) (l:s₁.heap.Ns mainGlobals mg) (f:s₁.heap.Ns builtinsNs mb) (G:∀ x:Str,x≠"__name__"->mb x=bootBuiltins x) (A:s₁.heap.NoLimit) (Q:s₁.gens=#[]) (B:s₁.heap.get? a=some { cls:=.type "list",data:=.seq vs.toArray }) (hi:IntsAre vs ns) (hl:ns.length<=sizeLine) (W:Room k callerA) (F:∀ base:Heap,K.In base->base.Ns mainGlobals mg->FnOk P w K mg base CX k fa fd [x] sp) (i:∀ (s:Shared) (u:Value),BindsTo s fd ⟨[u],[]⟩ [(x,u)]) (J:∀ H:Hp,BJ H->SqL K H a (ns.map V.int)->sp [.ref a] H (λv _=>v=.bl true) λ_ _ _=>False) (E:∀ H e s',CX [] H s₁ (λ_ _ _=>False) e s'->False) :
  codeAny (model P w) callerA (.call (.ref fa) ⟨[.ref a],[]⟩) (λr s'=>r=.ok (.ret (.bool true))/\OldK s₁.heap s'.heap/\s'.os=s₁.os/\AllBare s'.gens) s₁:=by
 have L:=mB hi
 have lenV:=hi.length
 have core:∀ H:Hp,BJ H->SqL K H a (ns.map V.int)->HOk P w H s₁.heap->(∀ b,H b≠none->b=a)->(H a≠none->K.lookup a=none) ->
   codeAny (model P w) callerA (.call (.ref fa) ⟨[.ref a],[]⟩) (λr s'=>r=.ok (.ret (.bool true))/\OldK s₁.heap s'.heap/\s'.os=s₁.os/\AllBare s'.gens) s₁:=by
  intro H M X hok O U
  have c:∀ {b:Addr} {o:Obj},s₁.heap.get? b=some o->H b=none->(oT s₁.heap H).get? b=some o:=λe n=>yN e n
  have C:∀ {b:Addr} {o:Obj} {es:Array DictEntry} {p:Nat},s₁.heap.get? b=some o->o.data=.dict es p->H b=none:=λ{b o es p} e d=>by
   cases q:H b with
   | none=>rfl
   | some u =>
    have D:b=a:=O b (by rw[q];simp)
    subst D
    rw[B] at e;cases e
    have d':Data.seq vs.toArray _=Data.dict es p:=d
    cases d'
  have g:∀ {b:Addr} {m:Str->Option Value},s₁.heap.Ns b m->(oT s₁.heap H).Ns b m:=λ{b m} ⟨o,es,p,e,d,r⟩=>⟨o,es,p,c e (C e d),d,r⟩
  have j:K.In (oT s₁.heap H):=λb o e=>c (N b o e) (by
   cases q:H b with
   | none=>rfl
   | some u =>
    have D:b=a:=O b (by rw[q];simp)
    subst D
    rw[U (by rw[q];simp)] at e;cases e)
  have S:Mod K mg (oT s₁.heap H):=⟨j,g l,⟨mb,g f,G⟩,let ⟨mc,h1,h2⟩:=A;⟨mc,g h1,h2⟩⟩
  have Y:Env0 P w K mg (oT s₁.heap H) callerA [] s₁ H:=⟨rfl,S,λb o e=>AQ e,Nat.le_of_eq (vG _ _),trivial,λb f=>absurd (show b∈([]:List Addr) from f) (by simp),hok,.of_eq Q⟩
  refine codeAny_mono ((F _ j (g l)).run callerA [] s₁ H ⟨[.ref a],[]⟩ [.ref a] [.ref a] _ _ W Y (i s₁ (.ref a)) (.cons rfl .nil) (J H M X)) λr s' h=>?_
  cases r with
  | error e=>exact (E H e s' h).elim
  | ok fl =>
   cases fl with
   | next=>exact False.elim h
   | brk=>exact False.elim h
   | cont=>exact False.elim h
   | ret u =>
    obtain ⟨v,H',os,bare,un,t,r',q⟩:=h
    have T:v=.bl true:=q
    subst T
    obtain rfl:u=Value.bool true:=r'
    refine ⟨rfl,OldK.of_keep λb o e=>?_,os,bare⟩
    cases q:H b with
    | none=>exact un.keep b o e q (by intro z;exact absurd (show b∈([]:List Addr) from z) (by simp)) (by simp)
    | some u =>
     rcases M b with z | ⟨ob,xs,z⟩
     ·rw[q] at z;cases z
     ·have R:=un.frzs b ob _ z
      obtain ⟨e1,_⟩:=hok b _ z
      obtain ⟨Z,_⟩:=t b _ R
      rw[e] at e1;cases e1
      exact Z
 cases I:K.lookup a with
 | some o =>
  have e:=N a o I
  rw[B] at e
  cases e
  refine core (λ_=>none) (λ_=>.inl rfl) (.inr ⟨_,vs.toArray,_,I,rfl,rfl,rfl,by rw[Fj,lenV];exact hl,by simpa using L⟩) (λb u z=>by have y:(none:Option HO)=some u:=z;cases y) (λb z=>absurd rfl z) λz=>absurd rfl z
 | none =>
  refine core (λb=>if b=a then some (.frz { cls:=.type "list",data:=.seq vs.toArray } (.lst (ns.map V.int))) else none) (λb=>?_) (.inl (.inr ⟨{ cls:=.type "list",data:=.seq vs.toArray },if_pos rfl⟩)) (λb u z=>?_) (λb z=>?_) λ_=>I
  ·by_cases f:b=a
   ·exact .inr ⟨_,_,if_pos f⟩
   ·exact .inl (if_neg f)
  ·by_cases f:b=a
   ·have y:=(if_pos f).symm.trans z
    cases y
    subst f
    exact ⟨B,by rw[Fa];exact hl,vs,_,L,B⟩
   ·have y:=(if_neg f).symm.trans z
    cases y
  ·by_cases f:b=a
   ·exact f
   ·exact absurd (if_neg f) z
end L2
namespace L2
open PySem PySem.Spec PyProof.Rows
end L2
namespace L2
open PySem PySem.Spec PyProof.Rows
abbrev CX0:CXT:=λ_ _ _ _ _ _=>False
abbrev E0:XK:=λ_ _ _=>False
theorem pass0:sJ CX0 X E0:=λ_ _ _ _ _ _ _ h=>h.elim
structure Fun (K:FG) (x qual:Str) (st:Stmt) (f:Addr) (fd:FuncData):Prop where
 ex:∃ (oc:Value) (od:Option Addr) (kV doc pm:Value) (an:Option Addr) (cdv ct:Value) (osl:Array (Option Value)),
  fd=PySem.W.fnOf x qual (aH st) (aw st) (ad st) .none kV doc pm an cdv ct/\K.lookup f=some ⟨oc,od,.func fd,osl⟩/\PySem.W.codeIn K cdv qual=true
 kp:PySem.W.keepIn K (.ref f)=true
section
variable {P:Program} {w:World} {K:FG} {mg:Str->Option Value} {base:Heap}
theorem Fun.ok {st:Stmt} {k:Nat} (F:Fun K x qual st f fd) (S:FnScope N ps (ad st)) (len:∀ vs H Q E,sp vs H Q E->vs.length=ps.length) (b:∀ (a:Value) (A:Around) (outer:List Env) (s:Shared) (H:Hp) (vs:List V) (Q:VK) (E:XK),Room k (A.deeper (envOfC qual (ad st) s.heap.objs.size f a))->sp vs H Q E ->
   ∃ t,PSs (dn CX0 P w K mg base N qual (ad st) f a A outer s H E).nox (aw st) t/\t { nx:=λ_ H'=>Q .non H',rt:=Q } (fE N vs) H):FnOk P w K mg base CX0 (k+1) f fd ps sp:=by
 obtain ⟨j,od,kV,doc,pm,an,a,ct,i,rfl,g,c⟩:=F.ex
 refine Ce g c S len λA outer s H vs Q E e d=>?_
 obtain ⟨t,h,q⟩:=b a A outer s H vs Q E e d
 exact ⟨t,h.nox,q⟩
theorem Fun.binds {st:Stmt} (F:Fun K x qual st f fd) (h:∀ (kV doc pm:Value) (an:Option Addr) (a ct:Value) (us:List Value),us.length=ps.length->bindArgs (PySem.W.fnOf x qual (aH st) (aw st) (ad st) .none kV doc pm an a ct) ⟨us,[]⟩=pure (ps.zip us)):Binds K fd ps []:=by
 obtain ⟨e,od,kV,doc,pm,an,a,ct,c,rfl,d,b⟩:=F.ex
 exact .all (h kV doc pm an a ct)
theorem Er {st:Stmt} {kV doc pm a ct:Value} (l:K.lookup f=some ⟨oc,od,.func (PySem.W.fnOf x qual (aH st) (aw st) (ad st) .none kV doc pm an a ct),osl⟩) (c:PySem.W.codeIn K a qual=true) (k:PySem.W.keepIn K (.ref f)=true):Fun K x qual st f (PySem.W.fnOf x qual (aH st) (aw st) (ad st) .none kV doc pm an a ct):=⟨⟨oc,od,kV,doc,pm,an,a,ct,osl,rfl,l,c⟩,k⟩
end
theorem hu_of {k:Nat} (a:Room k A):A.units+1 < cLine:=Nat.lt_of_le_of_lt (Nat.add_le_add_left (by decide:1<=64) _) a.units
theorem uN {n:Nat} (h:n<=1000):n < sizeLine:=Nat.lt_of_le_of_lt h (by decide)
def Same (H H':Hp):Prop:=∀ b o,H b=some o->H' b=some o
theorem Same.refl (H:Hp):Same H H:=λ_ _ h=>h
theorem Same.trans (a:Same H H1) (b:Same H1 H2):Same H H2:=λc o h=>b c o (a c o h)
theorem Same.free (e:Same H H') (h:H' l=Option.none):H l=Option.none:=by
 cases q:H l with
 | none=>rfl
 | some o =>
  rw[e l o q] at h
  cases h
theorem Same.seq {K:FG} (e:Same H H') (h:SqL K H a xs):SqL K H' a xs:=by
 rcases h with (h | ⟨o,h⟩) | h
 ·exact .inl (.inl (e _ _ h))
 ·exact .inl (.inr ⟨o,e _ _ h⟩)
 ·exact .inr h
end L2
end
section
namespace L2
open PySem PySem.Spec PyProof.Rows
section
variable {prog:Program} {w:World} {A:Around} {E:Value->Shared->Prop} {s:Shared}
theorem pE (ty:s.TypeIs (.ref d) "dict") (h:wpAny (model prog w) A.in1 (dictSet d k v) Q E s) :
  wpAny (model prog w) A (setItem (.ref d) k v) Q E s:=by
 unfold setItem
 refine EV (ET (wpAny_sequenceKey ty (by decide) (ET (wpAny_callSpecial?_slot ty slot_dict_setitem (wpAny_call_entry slot_dict_setitem ty entry_dict_setitem ?_ (args_dict_setitem _ _ _))))))
 refine ET (wpAny_notOrdered_dict ty ?_)
 refine (?_:wpAny _ _ (dictSet d k v >>= _) _ _ s)
 exact ET (wpAny_mono h (λ_ _ z=>EU ⟨_,rfl,EU z⟩) λ_ _ z=>z)
theorem mF {hs:Int} {b:Nat} {F:Option Nat->Prop} (a:s.heap.get? d=some o) (c:o.ExactDict) (hd:o.data=.dict es b) (hz:es.size<=sizeLine) (find:wpAny (model prog w) A (dictFind d key hs) (λr s'=>s'=s/\F r) E s) (old:∀ i h' o',F (some i)->h'.get? d=some o'->o'.ExactDict->o'.data=.dict (es.modify i λe=>{ e with val:=v }) b->Heap.SameBut d s.heap h'->Q () { s with heap:=h' }) (new:∀ h' o',F none->h'.get? d=some o'->o'.ExactDict->o'.data=.dict (es.push ⟨hs,key,v⟩) (b+1)->Heap.SameBut d s.heap h'->Q () { s with heap:=h' }) :
  wpAny (model prog w) A (dictSetHashed d key hs v) Q E s:=by
 unfold dictSetHashed
 refine EV (ET (wpAny_mono find ?_ λ_ _ z=>z))
 rintro (_ | i) _ ⟨rfl,f⟩
 ·exact ET (wpAny_rule (wpAny_updateDictKeys (hz:=hz) a hd (new _ _ f (Fs _ a (Obj.isFreed_of_dict (Obj.data_mapDictKeys hd _))) (c.mapDictKeys _) (Obj.data_mapDictKeys hd _) (Heap.SameBut.update ..))))
 ·exact ET (wpAny_rule (ET (wpAny_updateDict a hd (wpAny_point (old i _ _ f (Fs _ a (Obj.isFreed_of_dict (Obj.data_mapDict hd _))) (c.mapDict _) (Obj.data_mapDict hd _) (Heap.SameBut.update ..))))))
end
section
variable {prog:Program} {w:World} {K:Type} [DecidableEq K] {A:Around} {E:Value->Shared->Prop} {s:Shared} {d:Addr} {k:K}
section
variable {knd:HeapKind prog w K}
def DictOfHE (knd:HeapKind prog w K) (h:Heap) (d:Addr) (xs:List (K×Addr×Value)):Prop :=
 ∃ o es a,h.get? d=some o/\o.ExactDict/\o.data=.dict es a/\es.toList=xs.map (entryOfKey knd)/\(∀ x∈xs,knd.is h x.1 x.2.1)/\(xs.map (·.1)).Nodup/\a=es.size
theorem DictOfHE.of (x:DictOfHE knd h d xs):h.DictOfH knd d xs:=let ⟨o,es,a,h1,h2,h3,b,e,c,_⟩:=x;⟨o,es,a,h1,h2,h3,b,e,c⟩
theorem vh {y:Addr×Value} (b:(xs.map (·.1)).Nodup) (h:k ∉ xs.map (·.1)):((xs++[(k,y)]).map (·.1)).Nodup:=by
 rw[List.map_append]
 exact List.nodup_append.mpr ⟨b,List.nodup_cons.mpr ⟨List.not_mem_nil,List.nodup_nil⟩,λx a y c e=>h (by have:=Fz.mp c;subst this;exact e ▸ a)⟩
theorem iD (hu:knd.room A) (b:knd.is s.heap k a) (hm:DictOfHE knd s.heap d xs) (n:∀ h',DictOfHE knd h' d (storedH xs k a v)->Heap.SameBut d s.heap h'->Q () { s with heap:=h',toks:=s.toks+knd.draws k }) (hsz:xs.length<=sizeLine:=by size_fits):wpAny (model prog w) A (dictSet d (.ref a) v) Q E s:=by
 obtain ⟨o,es,t,l,q,hd,he,c,m,rfl⟩:=hm
 unfold dictSet
 refine EV (ET (knd.pyHash hu b ?_))
 refine mF (s:={ s with toks:=s.toks+knd.draws k }) (F:=λ| none=>∀ (j:Nat) (p:Addr×Value),xs[j]?≠some (k,p) | some j=>∃ p,xs[j]?=some (k,p)) l q hd (size_of_entries he ▸ hsz)
  (wpAny_dictFind_heap (s:={ s with toks:=s.toks+knd.draws k }) hu b l hd he c m (λz=>⟨rfl,z⟩) λj p z=>⟨rfl,p,z⟩) ?_ ?_
 ·rintro i h' o' ⟨p,f⟩ g1 g2 g3 h
  have at':=storedH_old (atKey_of_get m f) a v
  refine n h' ⟨o',_,_,g1,g2,g3,?_,?_,?_,?_⟩ h <;> try rw[at']
  ·rw[Array.toList_modify,he]
   exact modify_map_putAt (entryOfKey knd) _ k v (λ_ _=>rfl) m f
  ·intro x g
   obtain ⟨y,r,rfl⟩:=Fe.mp g
   have:=knd.keeps (c y r) l hd h
   by_cases e:y.1=k <;> simpa[putAt,e] using this
  ·exact (keys_map_putAt xs k v).symm ▸ m
  ·exact (Array.size_modify).symm
 ·intro h' o' f g1 g2 g3 h
  have at':=storedH_new (atKey_none_of_get f) a v
  refine n h' ⟨o',_,_,g1,g2,g3,?_,?_,?_,?_⟩ h <;> try rw[at']
  ·simp[he,entryOfKey]
  ·intro x g
   rcases E8.mp g with g | g
   ·exact knd.keeps (c x g) l hd h
   ·cases Fz.mp g;exact knd.keeps b l hd h
  ·exact vh m (not_mem_keys_of_get f)
  ·simp
theorem md (hu:knd.room A.in1) (b:knd.is s.heap k a) (hm:DictOfHE knd s.heap d xs) (c:∀ h',DictOfHE knd h' d (storedH xs k a v)->Heap.SameBut d s.heap h'->Q () { s with heap:=h',toks:=s.toks+knd.draws k }) (hsz:xs.length<=sizeLine:=by size_fits):wpAny (model prog w) A (setItem (.ref d) (.ref a) v) Q E s :=
 pE hm.of.typeIs (iD (hsz:=hsz) hu b hm c)
end
section
variable {knd:KeyKind prog w K} {key:Value}
theorem gq (a:knd.is k key=true) (hm:DictOfE knd s.heap d kvs) (l:∀ h',DictOfE knd h' d (stored kvs k v)->Heap.SameBut d s.heap h'->Q () { s with heap:=h',toks:=s.toks+1 }) (hsz:kvs.length<=sizeLine:=by size_fits):wpAny (model prog w) A (dictSet d key v) Q E s:=by
 obtain ⟨o,⟨es⟩,t,m,p,hd,g,b,j,rfl⟩:=hm
 have same:=b.findIdx k
 have hz:(⟨es⟩:Array DictEntry).size<=sizeLine:=by have:=b.length;simp at this ⊢;omega
 unfold dictSet
 refine EV (ET (knd.pyHash a ?_))
 refine mF (s:={ s with toks:=s.toks+1 }) (F:=λr=>es.findIdx? (λe=>knd.is k e.key)=r) m p hd hz
  (wpAny_dictFind_of (s:={ s with toks:=s.toks+1 }) a m hd g ⟨rfl,by simp⟩) ?_ ?_
 ·intro i h' o' f g1 g2 g3 c
  have at':stored kvs k v=_:=if_pos (any_of_findIdx_some (same.symm.trans f))
  refine l h' ⟨o',_,_,g1,g2,g3,g.modify _ _,?_,?_,(Array.size_modify).symm⟩ c <;> rw[at']
  ·simpa using b.modify j f v
  ·exact (keys_map_store kvs k v).symm ▸ j
 ·intro h' o' f g1 g2 g3 c
  have no:=not_mem_of_findIdx_none (same.symm.trans f)
  have at':stored kvs k v=_:=if_neg λz=>by
   obtain ⟨x,h,e⟩:=List.any_eq_true.mp z
   exact no (Fe.mpr ⟨x,h,of_decide_eq_true e⟩)
  refine l h' ⟨o',_,_,g1,g2,g3,g.push a _,?_,?_,by simp⟩ c <;> rw[at']
  ·simpa using b.append a (knd.hash k) v
  ·rw[List.map_append]
   exact List.nodup_append.mpr ⟨j,List.nodup_cons.mpr ⟨List.not_mem_nil,List.nodup_nil⟩,λx h y q e=>no (by cases Fz.mp q;have n:x=k:=e;exact n ▸ h)⟩
theorem k7 (a:knd.is k key=true) (hm:DictOfE knd s.heap d kvs) (b:∀ h',DictOfE knd h' d (stored kvs k v)->Heap.SameBut d s.heap h'->Q () { s with heap:=h',toks:=s.toks+1 }) (hsz:kvs.length<=sizeLine:=by size_fits):wpAny (model prog w) A (setItem (.ref d) key v) Q E s :=
 pE hm.of.typeIs (gq (hsz:=hsz) a hm b)
end
end
section
variable {κ:Type} [DecidableEq κ]
def ki (kvs:List (κ×V)) (k:κ):Option V:=(kvs.find? λa=>decide (a.1=k)).map (·.2)
def fh (kvs:List (κ×V)) (k:κ) (v:V):List (κ×V) :=
 if (kvs.any λa=>decide (a.1=k))=true then kvs.map (λa=>if a.1=k then (a.1,v) else a) else kvs++[(k,v)]
theorem iZ {p:κ×V} {k:κ} (e:p.1=k):ki (p::r) k=some p.2:=by simp[ki,List.find?_cons,e]
theorem i5 {p:κ×V} {k:κ} (e:¬ p.1=k):ki (p::r) k=ki r k:=by simp[ki,List.find?_cons,e]
theorem pA (k:κ):∀ kvs:List (κ×V),(kvs.any λa=>decide (a.1=k))=(ki kvs k).isSome
 | []=>rfl
 | p::r=>by
  rw[List.any_cons]
  by_cases e:p.1=k
  ·simp only[iZ e,Fo e,Bool.true_or,Option.isSome_some]
  ·rw[i5 e,Fp e,Bool.false_or];exact pA k r
theorem kb (kvs:List (κ×V)) (k:κ) (v:V):(fh kvs k v).length<=kvs.length+1:=by
 unfold fh
 split
 ·rw[Fa];omega
 ·rw[Ft,Fu,List.length_nil];omega
theorem RelO.isSome_eq (r:RelO o u):o.isSome=u.isSome:=by
 cases o with
 | none=>cases u with
  | none=>rfl
  | some _=>exact (show False from r).elim
 | some _=>cases u with
  | none=>exact (show False from r).elim
  | some _=>rfl
theorem RelO.getD (r:RelO o u) (a:RelV d d'):RelV (o.getD d) (u.getD d'):=by
 cases o with
 | none=>cases u with
  | none=>exact a
  | some _=>exact (show False from r).elim
 | some _=>cases u with
  | none=>exact (show False from r).elim
  | some _=>exact r
theorem KV.val (r:KV kvs vs) (k:κ):RelO (ki kvs k) (valueAt vs k):=by
 unfold KV at r
 induction r with
 | nil=>exact True.intro
 | @cons p q ps qs h t ih =>
  obtain ⟨h1,h2⟩:=h
  by_cases e:p.1=k
  ·have a:q.1=k:=h1.symm.trans e
   have b:valueAt (q::qs) k=some q.2:=by simp[valueAt,List.find?_cons,a]
   rw[iZ e,b];exact h2
  ·have a:¬ q.1=k:=λz=>e (h1.trans z)
   have b:valueAt (q::qs) k=valueAt qs k:=by simp[valueAt,List.find?_cons,a]
   rw[i5 e,b];exact ih
theorem KV.any (r:KV kvs vs) (k:κ):(kvs.any λa=>decide (a.1=k))=vs.any λa=>decide (a.1=k):=by
 unfold KV at r
 induction r with
 | nil=>rfl
 | cons h t ih=>rw[List.any_cons,List.any_cons,ih,h.1]
theorem KV.repl (r:KV kvs vs) (k:κ) (b:RelV y u) :
  KV (kvs.map λa=>if a.1=k then (a.1,y) else a) (vs.map λa=>if a.1=k then (a.1,u) else a):=by
 unfold KV at r ⊢
 induction r with
 | nil=>exact .nil
 | @cons p q ps qs h t ih =>
  rw[Fm,Fm]
  refine .cons ?_ ih
  obtain ⟨h1,h2⟩:=h
  by_cases e:p.1=k
  ·rw[if_pos e,if_pos (h1.symm.trans e)];exact ⟨h1,b⟩
  ·rw[if_neg e,if_neg (λz=>e (h1.trans z))];exact ⟨h1,h2⟩
theorem KV.put (r:KV kvs vs) (k:κ) (a:RelV y u):KV (fh kvs k y) (stored vs k u):=by
 unfold fh stored
 rw[r.any k]
 by_cases e:(vs.any λb=>decide (b.1=k))=true
 ·rw[if_pos e,if_pos e];exact r.repl k a
 ·rw[if_neg e,if_neg e];exact Paired.snoc r ⟨rfl,a⟩
theorem KV.length {kvs:List (κ×V)} (r:KV kvs vs):kvs.length=vs.length:=Paired.length r
end
theorem t4 (r:RelV (kV k) u):(bE P w).is k u=true:=by
 cases k with
 | inl i=>obtain ⟨t,e⟩:=(show ∃ t,u=Value.int i t from r);subst e;exact p9 P w i t
 | inr x=>obtain ⟨t,e⟩:=(show ∃ t,u=Value.str x t from r);subst e;exact p8 P w x t
theorem ni:∀ {a:List Key} {us:List Value},Vals (a.map kV) us->ItemsAre (bE P w) a us
 | [],_,r=>by rw[List.map_nil] at r;cases r;exact .nil
 | k::a,_,r=>by
  rw[Fm] at r
  cases r with
  | cons h t=>exact .cons (t4 h) (ni t)
abbrev KT (H:Hp):List (List Key×V)->List (List Key×Addr×Value)->Prop:=Paired λp q=>p.1=q.1/\H q.2.1=some (.tup (p.1.map kV))/\RelV p.2 q.2.2
theorem KT.val (r:KT H kvs xs) (k:List Key):RelO (ki kvs k) ((atKey xs k).map (·.2)):=by
 induction r with
 | nil=>exact True.intro
 | @cons p q ps qs h t ih =>
  obtain ⟨h1,_,h2⟩:=h
  by_cases e:p.1=k
  ·have a:q.1=k:=h1.symm.trans e
   have b:atKey (q::qs) k=some q.2:=by simp[atKey,List.find?_cons,a]
   rw[iZ e,b];exact h2
  ·have a:¬ q.1=k:=λz=>e (h1.trans z)
   have b:atKey (q::qs) k=atKey qs k:=by simp[atKey,List.find?_cons,a]
   rw[i5 e,b];exact ih
theorem KT.repl (r:KT H kvs xs) (k:List Key) (b:RelV y u) :
  KT H (kvs.map λa=>if a.1=k then (a.1,y) else a) (xs.map (putAt k u)):=by
 induction r with
 | nil=>exact .nil
 | @cons p q ps qs h t ih =>
  rw[Fm,Fm]
  refine .cons ?_ ih
  obtain ⟨h1,h2,h3⟩:=h
  unfold putAt
  by_cases e:p.1=k
  ·rw[if_pos e,if_pos (h1.symm.trans e)];exact ⟨h1,h2,b⟩
  ·rw[if_neg e,if_neg (λz=>e (h1.trans z))];exact ⟨h1,h2,h3⟩
theorem KT.put (r:KT H kvs xs) (k:List Key) (c:H b=some (.tup (k.map kV))) (a:RelV y u) :
  KT H (fh kvs k y) (storedH xs k b u):=by
 have e:(kvs.any λd=>decide (d.1=k))=(atKey xs k).isSome:=by
  rw[pA,(r.val k).isSome_eq,Option.isSome_map]
 unfold fh storedH
 rw[e]
 by_cases q:(atKey xs k).isSome=true
 ·rw[if_pos q,if_pos q];exact r.repl k a
 ·rw[if_neg q,if_neg q];exact Paired.snoc r ⟨rfl,c,a⟩
theorem KT.keeps (r:KT H kvs xs) (a:∀ b ys,H b=some (.tup ys)->H' b=some (.tup ys)):KT H' kvs xs :=
 Paired.mapP r λ_ _ z=>⟨z.1,a _ _ z.2.1,z.2.2⟩
section
variable {P:Program} {w:World} {H:Hp} {h:Heap} {a:Addr}
theorem BW (ok:HOk P w H h) (e:Rd H a u):ObjOk P w H h a u:=e.ok ok
theorem r9 (ok:HOk P w H h) (e:Rd H a (.dK kvs)):kvs.length<=sizeLine/\(a == sysModules)=false/\∃ vs,KV kvs vs/\DictOfE (bE P w) h a vs :=
 show ObjOk P w H h a (.dK kvs) from BW ok e
theorem Cg (ok:HOk P w H h) (e:Rd H a (.dK kvs)):kvs.length<=sizeLine/\(a == sysModules)=false/\∃ vs,KV kvs vs/\h.DictOf (bE P w) a vs:=let ⟨z,y,vs,r,d⟩:=r9 ok e;⟨z,y,vs,r,d.of⟩
theorem oQ (ok:HOk P w H h) (e:H a=some (.tup (ks.map kV))):(tupleKind (bE P w)).is h ks a:=by
 obtain ⟨_,its,r,o,h1,h2,n,h3⟩:=(show ObjOk P w H h a (.tup (ks.map kV)) from ok a _ e)
 exact ⟨o,its.toArray,n,h1,h2,congrArg Prod.fst h3,by simpa using ni r⟩
theorem r0 (ok:HOk P w H h) (e:Rd H a (.dT kvs)):kvs.length<=sizeLine/\(a == sysModules)=false /\
  ∃ xs,KT H kvs xs/\DictOfHE (tupleKind (bE P w)) h a xs:=by
 obtain ⟨z,y,xs,r,o,es,c,h1,h2,h3,d,f⟩:=(show ObjOk P w H h a (.dT kvs) from BW ok e)
 refine ⟨z,y,xs,r,o,es,c,h1,h2,h3,d,λx b=>?_,f⟩
 have all:∀ {l:List (List Key×V)} {m:List (List Key×Addr×Value)},KT H l m->∀ x∈m,(tupleKind (bE P w)).is h x.1 x.2.1:=by
  intro l m q
  induction q with
  | nil=>intro x b;exact nomatch b
  | @cons p q ps qs hq t ih =>
   intro x b
   rcases E5.mp b with e | b
   ·subst e
    exact oQ ok (by rw[<- hq.1];exact hq.2.1)
   ·exact ih x b
 exact all r x b
theorem Cf (ok:HOk P w H h) (e:Rd H a (.dT kvs)):kvs.length<=sizeLine/\(a == sysModules)=false /\
  ∃ xs,KT H kvs xs/\h.DictOfH (tupleKind (bE P w)) a xs:=let ⟨z,y,xs,r,d⟩:=r0 ok e;⟨z,y,xs,r,d.of⟩
end
def DGet (H:Hp) (a:Addr) (y:V) (r:Option V):Prop :=
 (∃ kvs k,Rd H a (.dK kvs)/\y=kV k/\r=ki kvs k)\/∃ kvs k b,Rd H a (.dT kvs)/\y=.ref b/\H b=some (.tup (k.map kV))/\r=ki kvs k
def DPut (H:Hp) (a:Addr) (y v:V) (H':Hp):Prop :=
 (∃ kvs k,H a=some (.dK kvs)/\y=kV k/\kvs.length < sizeLine/\H'=upd H a (.dK (fh kvs k v))) \/
 ∃ kvs k b,H a=some (.dT kvs)/\y=.ref b/\H b=some (.tup (k.map kV))/\kvs.length < sizeLine/\H'=upd H a (.dT (fh kvs k v))
theorem DGet.t (e:H a=some (.dT kvs)) (c:H b=some (.tup (k.map kV))):DGet H a (.ref b) (ki kvs k):=.inr ⟨kvs,k,b,.inl e,rfl,c,rfl⟩
theorem DPut.t (e:H a=some (.dT kvs)) (c:H b=some (.tup (k.map kV))) (hl:kvs.length < sizeLine) :
  DPut H a (.ref b) v (upd H a (.dT (fh kvs k v))):=.inr ⟨kvs,k,b,e,rfl,c,hl,rfl⟩
section
variable {X:Cx} {pins:List (Addr×Obj)} {σ:St} {H:Hp} {s:Shared} {a:Addr} {y v:V} {u r:Value} {o:Option V} {A:Around} {E:Value->Shared->Prop}
theorem Inv.big (I:Inv X pins σ H s):sysModules < s.heap.objs.size:=by
 have h:mainGlobals < s.heap.objs.size:=(I.mod.glob.keeps I.bk).lt
 exact Nat.lt_trans (by decide) h
theorem vS (hu:A.units+1 < cLine) (I:Inv X pins σ H s) (g:DGet H a y (some v)) (j:RelV y u) (h:∀ d s',Inv X pins σ H s'->RelV v d->Q d s') :
  wpAny (model X.prog X.w) A (getItem (.ref a) u) Q E s:=by
 rcases g with ⟨kvs,k,e,i,l⟩ | ⟨kvs,k,b,e,i,m,l⟩
 ·subst i
  obtain ⟨z,hd,vs,rel,dd⟩:=Cg I.hok e
  obtain ⟨d,hw,c⟩:=RelO.some_of (v:=v) (o:=valueAt vs k) (by rw[l];exact rel.val k)
  exact wpAny_getItem_of (t4 j) dd.mapOf hw (h d _ (I.tok _) c)
 ·subst i
  cases (show u=Value.ref b from j)
  obtain ⟨z,hd,xs,rel,dd⟩:=Cf I.hok e
  obtain ⟨d,hw,c⟩:=RelO.some_of (v:=v) (o:=(atKey xs k).map (·.2)) (by rw[l];exact rel.val k)
  obtain ⟨p,n,f⟩:=E2.mp hw
  refine wpAny_getItem_heap (tupleKind_room_in1 hu) (oQ I.hok m) dd n ?_
  rw[f]
  exact h d _ (I.tok _) c
theorem kN {t':Nat} (I:Inv X pins σ H s) (d:Mut (H a)) (hs:Heap.SameBut a s.heap h') (he:∃ q,h'.get? a=some q) (new:ObjOk X.prog X.w (upd H a ob) h' a ob) :
  Inv X pins σ (upd H a ob) { s with heap:=h',toks:=t' } :=
 I.write (x:=a) (e:=a) d (.inl rfl) (λb q c z=>(hs.2 b c).trans z) he new
theorem y9 (z:kvs.length<=sizeLine) (hd:(a == sysModules)=false) (rel:KV kvs vs) (dd:DictOfE (bE P w) h' a vs) :
  ObjOk P w H' h' a (.dK kvs):=⟨z,hd,vs,rel,dd⟩
theorem vR (hu:A.units+1 < cLine) (I:Inv X pins σ H s) (g:DPut H a y v H') (p:RelV y u) (m:RelV v r) (h:∀ s',Inv X pins σ H' s'->Q () s') :
  wpAny (model X.prog X.w) A (setItem (.ref a) u r) Q E s:=by
 rcases g with ⟨kvs,k,e,j,l,i⟩ | ⟨kvs,k,b,e,j,n,l,i⟩
 ·subst j i
  obtain ⟨z,hd,vs,rel,dd⟩:=r9 I.hok (.inl e)
  have hz:vs.length<=sizeLine:=by rw[<- rel.length];exact z
  have hl:(fh kvs k v).length<=sizeLine:=by have:=kb kvs k v;omega
  refine k7 (hsz:=hz) (t4 p) dd λh' d hs=>h _ ?_
  have he:∃ q,h'.get? a=some q:=let ⟨q,_,_,f,_⟩:=d;⟨q,f⟩
  exact kN I (by rw[e];exact True.intro) hs he (y9 hl hd (rel.put k m) d)
 ·subst j i
  cases (show u=Value.ref b from p)
  obtain ⟨z,hd,xs,rel,dd⟩:=r0 I.hok (.inl e)
  have hz:xs.length<=sizeLine:=by rw[<- Paired.length rel];exact z
  have hl:(fh kvs k v).length<=sizeLine:=by have:=kb kvs k v;omega
  refine md (hsz:=hz) (tupleKind_room_in1 hu) (oQ I.hok n) dd λh' d hs=>h _ ?_
  obtain ⟨q,es,t,f,h2,h3,x,_,B⟩:=d
  refine kN I (by rw[e];exact True.intro) hs ⟨q,f⟩ ⟨hl,hd,_,(rel.put k n m).keeps λc ys o=>?_,q,es,t,f,h2,h3,x,B⟩
  rw[ak (B4 o e (λz=>nomatch z))]
  exact o
end
theorem qC (I:Inv X pins σ H s) (g:DGet H a y o):s.TypeIs (.ref a) "dict":=by
 rcases g with ⟨kvs,k,e,_,_⟩ | ⟨kvs,k,b,e,_,_,_⟩
 ·obtain ⟨_,_,vs,_,dd⟩:=Cg I.hok e
  exact dd.typeIs
 ·obtain ⟨_,_,xs,_,dd⟩:=Cf I.hok e
  exact dd.typeIs
theorem za (h:Heap) (a:sysModules < h.objs.size):ObjOk P w H (h.push { cls:=.type "dict",data:=.dict #[] }) h.objs.size (.dK []) :=
 ⟨Nat.zero_le _,beq_eq_false_iff_ne.mpr (Ne.symm (Fi a)),[],.nil,_,#[],0,E9 _ rfl,⟨rfl,rfl,rfl⟩,rfl,(λ_ h=>by simp at h),.nil,List.nodup_nil,rfl⟩
theorem y7 (h:Heap) (a:sysModules < h.objs.size):ObjOk P w H (h.push { cls:=.type "dict",data:=.dict #[] }) h.objs.size (.dT []) :=
 ⟨Nat.zero_le _,beq_eq_false_iff_ne.mpr (Ne.symm (Fi a)),[],.nil,_,#[],0,E9 _ rfl,⟨rfl,rfl,rfl⟩,rfl,rfl,List.nodup_nil,rfl⟩
end L2
namespace L2
open PySem PySem.Spec PyProof.Rows
end L2
end
section
namespace L2
open PySem PySem.Spec PyProof.Rows
def ko (cells:List (Str×Addr)) (cs:List (Str×Addr)) (x:Str×NameKind):List (Str×Addr) :=
 if x.2 == .free then (match cells.lookup x.1 with | some c=>(x.1,c)::cs | none=>cs) else cs
def clo (cells:List (Str×Addr)) (names:List (Str×NameKind)):List (Str×Addr):=names.foldl (ko cells) []
theorem lO {α β:Type} {f:α->β->Sem (ForInStep β)} {g:β->α->β}:∀ {l:List α} {c:β},(∀ x∈l,∀ c,f x c=pure (.yield (g c x)))->forIn l c f=pure (l.foldl g c)
 | [],c,_=>rfl
 | x::l,c,h=>by
  rw[List.forIn_cons,h x EW,pure_bind]
  exact lO λy a=>h y (EY _ a)
theorem gv (h:∀ x∈scope.names,x.2=.free->∃ c,env.cells.lookup x.1=some c):closureFor scope env=pure (clo env.cells scope.names):=by
 simp only[closureFor]
 rw[lO (g:=ko env.cells) (λx f c=>by
  obtain ⟨n,kind⟩:=x
  unfold ko
  by_cases b:kind=.free
  ·subst b
   obtain ⟨a,e⟩:=h _ f rfl
   have i:env.cells.lookup n=some a:=e
   simp[cellOf,i]
  ·have d:(kind == NameKind.free)=false:=by simpa using b
   simp[d])]
 rfl
theorem nt:∀ {l:List (Str×NameKind)} {cs:List (Str×Addr)},(∀ y d,cs.lookup y=some d->cells.lookup y=some d)->(l.foldl (ko cells) cs).lookup x=some c->cells.lookup x=some c
 | [],cs,h,e=>h x c e
 | y::l,cs,h,e=>by
  refine nt (l:=l) (cs:=ko cells cs y) (λz d q=>?_) e
  unfold ko at q
  split at q
  ·cases b:cells.lookup y.1 with
   | none=>rw[b] at q;exact h z d q
   | some a =>
    rw[b] at q
    simp only[List.lookup_cons] at q
    cases hz:z == y.1 with
    | true=>rw[hz] at q;have:=eq_of_beq hz;subst this;rw[b];exact q
    | false=>rw[hz] at q;exact h z d q
  ·exact h z d q
theorem oY (e:(clo cells l).lookup x=some c):cells.lookup x=some c:=nt (λ_ _ q=>by simp at q) e
theorem lP (b:cells.lookup x=some c):∀ {l:List (Str×NameKind)} {cs:List (Str×Addr)},cs.lookup x=some c->(l.foldl (ko cells) cs).lookup x=some c
 | [],_,e=>e
 | y::l,cs,e=>by
  refine lP b (l:=l) (cs:=ko cells cs y) ?_
  unfold ko
  split
  ·cases d:cells.lookup y.1 with
   | none=>exact e
   | some a =>
    simp only[List.lookup_cons]
    cases hz:x == y.1 with
    | true=>have:=eq_of_beq hz;subst this;rw[b] at d;exact d.symm
    | false=>exact e
  ·exact e
theorem nz (a:cells.lookup x=some c):∀ {l:List (Str×NameKind)} {cs:List (Str×Addr)},(x,NameKind.free)∈l->(l.foldl (ko cells) cs).lookup x=some c
 | [],_,m=>by simp at m
 | y::l,cs,m=>by
  rcases E5.mp m with rfl | m
  ·refine lP a (l:=l) ?_
   simp[ko,a]
  ·exact nz a (l:=l) (cs:=ko cells cs y) m
theorem ut (a:cells.lookup x=some c) (m:(x,NameKind.free)∈l):(clo cells l).lookup x=some c:=nz a m
theorem jd {env:Env}:∀ {names:List (Str×NameKind)} {x:Str},names.lookup x=some .free ->
  (names.map λ(n,k)=>if (k == NameKind.free && env.scope.kind == .function && env.kindOf n == some .cell) then (n,NameKind.cell) else (n,k)).lookup x=some .cell \/
  (names.map λ(n,k)=>if (k == NameKind.free && env.scope.kind == .function && env.kindOf n == some .cell) then (n,NameKind.cell) else (n,k)).lookup x=some .free
 | [],_,h=>by simp at h
 | (n,k)::r,x,h=>by
  have b:=@jd env r x
  show List.lookup x ((if (k == NameKind.free && env.scope.kind == .function && env.kindOf n == some .cell)=true then (n,NameKind.cell) else (n,k))::_)=_ \/
   List.lookup x ((if (k == NameKind.free && env.scope.kind == .function && env.kindOf n == some .cell)=true then (n,NameKind.cell) else (n,k))::_)=_
  cases a:x == n with
  | true =>
   simp only[List.lookup_cons,a] at h
   cases h
   split
   ·left;simp[List.lookup_cons,a]
   ·right;simp[List.lookup_cons,a]
  | false =>
   simp only[List.lookup_cons,a] at h
   split
   ·simp only[List.lookup_cons,a];exact b h
   ·simp only[List.lookup_cons,a];exact b h
theorem lc {env:Env}:∀ {names:List (Str×NameKind)} {x:Str},(∀ y∈names,y.2≠.cell) ->
  ((names.map λ(n,k)=>if (k == NameKind.free && env.scope.kind == .function && env.kindOf n == some .cell) then (n,NameKind.cell) else (n,k)).lookup x=some .cell \/
  (names.map λ(n,k)=>if (k == NameKind.free && env.scope.kind == .function && env.kindOf n == some .cell) then (n,NameKind.cell) else (n,k)).lookup x=some .free)->(x,NameKind.free)∈names
 | [],_,_,h=>by simp at h
 | (n,k)::r,x,hc,h=>by
  have d:=@lc env r x (λy f=>hc y (EY _ f))
  have b:=hc (n,k) EW
  have h':List.lookup x ((if (k == NameKind.free && env.scope.kind == .function && env.kindOf n == some .cell)=true then (n,NameKind.cell) else (n,k))::(r.map λ(n,k)=>if (k == NameKind.free && env.scope.kind == .function && env.kindOf n == some .cell) then (n,NameKind.cell) else (n,k)))=some .cell \/
   List.lookup x ((if (k == NameKind.free && env.scope.kind == .function && env.kindOf n == some .cell)=true then (n,NameKind.cell) else (n,k))::(r.map λ(n,k)=>if (k == NameKind.free && env.scope.kind == .function && env.kindOf n == some .cell) then (n,NameKind.cell) else (n,k)))=some .free:=h
  cases a:x == n with
  | true =>
   have e:=eq_of_beq a
   subst e
   by_cases hf:k=.free
   ·subst hf;exact EW
   ·exfalso
    have c:(k == NameKind.free)=false:=by simpa using hf
    simp[c,List.lookup_cons] at h'
    rcases h' with q | q
    ·exact b q
    ·exact hf q
  | false =>
   refine EY _ (d ?_)
   split at h'
   ·simpa only [List.lookup_cons,a] using h'
   ·simpa only [List.lookup_cons,a] using h'
def aN (X:Cx) (NY:List Str) (scope:Scope) (s:Shared) (H:Hp) (C:Addr) (fp:List Addr):Cx where
 prog:=X.prog
 w:=X.w
 K:=X.K
 mg:=X.mg
 base:=X.base
 A:=X.A
 N:=NY
 s₀:=s
 H₀:=H
 env:=compEnvC scope (clo X.env.cells scope.names) C X.env
 outer:=X.stack
 stack:=X.stack
 ex:=fp
 fn:=λ_=>false
 calm:=X.calm
 pn:=[]
 xe:=λ_ _=>False
def cap (ix:List (Option Nat)) (σ:St):St:=ix.map λo=>match o with | some i=>(σ[i]?).getD none | none=>none
def gr (sc:Scope) (b:List Str) (a:Scope) (NY:List Str) (ix:List (Option Nat)):Bool :=
 sc.kind == .function && sc.names.all (λy=>y.2 != .cell) && sc.names.all (λy=>y.2 != .local || sc.names.lookup y.1 == some .local) && sc.names.all (λy=>y.2 != .free || sc.names.lookup y.1 == some .free)
  && sc.names.all (λy=>y.2 != .free || (a.names.lookup y.1 == some .cell || a.names.lookup y.1 == some .free))
  && ix.length == NY.length && (NY.zip ix).all λp=>match p.2 with | none=>true | some i=>(b[i]? == some p.1) && sc.names.contains (p.1,NameKind.free)
structure CompOk (sc:Scope) (XN:List Str) (Xsc:Scope) (NY:List Str) (ix:List (Option Nat)):Prop where
 kind:sc.kind=.function
 nocell:∀ y∈sc.names,y.2≠.cell
 loc:∀ y∈sc.names,y.2=.local->sc.names.lookup y.1=some .local
 fre:∀ y∈sc.names,y.2=.free->sc.names.lookup y.1=some .free
 out:∀ y∈sc.names,y.2=.free->Xsc.names.lookup y.1=some .cell\/Xsc.names.lookup y.1=some .free
 len:ix.length=NY.length
 cap:∀ (j:Nat) x i,NY[j]?=some x->ix[j]?=some (some i)->XN[i]?=some x/\(x,NameKind.free)∈sc.names
theorem CompOk.of (h:gr sc XN Xsc NY ix=true):CompOk sc XN Xsc NY ix:=by
 simp only[gr,Bool.and_eq_true,List.all_eq_true,beq_iff_eq] at h
 obtain ⟨⟨⟨⟨⟨⟨h1,h2⟩,h3⟩,c⟩,g⟩,d⟩,f⟩:=h
 refine ⟨h1,λy a=>by simpa using h2 y a,λy a e=>?_,λy a e=>?_,λy a e=>?_,d,λj x i e1 b=>?_⟩
 ·have:=h3 y a;rw[e] at this;simpa using this
 ·have:=c y a;rw[e] at this;simpa using this
 ·have:=g y a;rw[e] at this;simpa using this
 ·have m:(x,some i)∈NY.zip ix:=by
   refine Fc (i:=j) ?_
   rw[List.getElem?_zip_eq_some]
   exact ⟨e1,b⟩
  have:=f _ m
  simpa using this
section
variable {X:Cx}
theorem FpOk.of_upd (f:FpOk X pins H b) (h:b≠D):FpOk X pins (upd H D o) b:=⟨by rw[ak h];exact f.1,f.2⟩
theorem HOk.track (x:HOk P w H h) (f:H a=none) (new:ObjOk P w (upd H a o) h a o):HOk P w (upd H a o) h:=λb u e=>by
 by_cases d:b=a
 ·subst d;rw[aA] at e;cases e;exact new
 ·rw[ak d] at e
  exact (x b u e).stay (λc v _ q=>q) (λc q=>by rw[ak (aO q f)];exact q) λc xs q=>by rw[ak (aO q f)];exact q
def PTs (Y:Cx) (ifs:List Expr) (t:TT):Prop :=
 ∀ (pins:List (Addr×Obj)) (s:Shared) (σ:St) (H:Hp) (Q:Bool->Hp->Prop),Inv Y pins σ H s->t σ H Q ->
  wpAny (model Y.prog Y.w) Y.A (forIn ifs true λc r=>if r=true then do let ok <- isTrue c Y.env (eval c Y.env);pure (ForInStep.yield ok) else pure (ForInStep.yield r)) (TP Y pins σ Q) Y.xe s
def tYes:TT:=λ_ H Q=>Q true H
theorem AC:PTs Y [] tYes:=λpins s σ H Q I h=>wpAny_tests_nil ⟨H,I,h⟩
def qN (J:It) (g:TG) (tc:TT) (te:TE) (Z:List V->Hp->Prop) (τ0:St) (H1:Hp):Prop :=
 ∃ W:Nat->Nat->List V->St->Hp->Prop,(∃ m,W 0 m [] τ0 H1)/\∀ i m ys τ H,W i m ys τ H->ys.length < sizeLine /\
  ((J.stop i H/\Z ys H)\/(J.go i H/\∃ N:List V->St->Hp->Prop,(∀ a τ' H',N a τ' H'->∃ m',m' < m/\W (i+1) m' a τ' H')/\∀ x H',J.yld i H x H'->g x τ H' λτ2 H2=>tc τ2 H2 λb c =>
   if b=true then te τ2 c λy d=>N (ys++[y]) τ2 d else N ys τ2 c))
def BR (a:TI) (g:TG) (tc:TT) (te:TE) (ix:List (Option Nat)):TE:=λσ H Q =>
 a σ H λJ H1=>qN J g tc te (λys H2=>∀ p,H2 p=none->Q (.ref p) (upd H2 p (.lst ys))) (cap ix σ) H1
theorem se (d:CompOk scope X.N X.env.scope NY ix) (I:Inv X pins σ H s) (f:∀ b∈fp,FpOk X pins H b) (j:s.heap.objs.size<=C) (n:∀ b∈fp,b < s.heap.objs.size) (J:s4.os=s.os) (B:s4.gens=s.gens) (keep:∀ b o,s.heap.get? b=some o->s4.heap.get? b=some o) (ns:s4.heap.Ns C λ_=>none):Inv (aN X NY scope s H C fp) [] (cap ix σ) H s4:=by
 have G:FpOk X pins H C:=I.fpOk j (I.hok.fresh j)
 have cls:∀ x c,(clo X.env.cells scope.names).lookup x=some c->X.env.cells.lookup x=some c:=λx c e=>oY e
 have h:∀ x,(x,NameKind.free)∈scope.names->∃ c,X.env.cells.lookup x=some c:=λx m=>by
  rcases d.out _ m rfl with q | q
  ·exact I.ok.has x (.inl q)
  ·exact I.ok.has x (.inr q)
 refine ⟨⟨I.ok.mod,d.kind,I.ok.glob,I.ok.blt,j,λx y c e1 w=>I.ok.inj x y c (cls x c e1) (cls y c w),λx O=>?_,λx c e _=>(Fh e).elim,λe=>I.ok.hd e,I.ok.frames,.inl rfl,λb g=>⟨Fi (Fq (n b g) j),λx c e=>(f b g).2.2.2.2.1 x c (cls x c e)⟩,
  I.bs,FH I.ok.bsz I.sz,λb o e g=>?_,λb g hz=>?_,I.stack,I.stkFree⟩,J,by rw[B];exact I.bare,Un.kept keep,⟨_,ns,λi x v e1 w R=>?_⟩,λx c e=>?_,G.1,λx c e=>I.freeC x c (cls x c e),λp P=>absurd (show p∈([]:List (Addr×Obj)) from P) (by simp),I.hok.kept keep,?_⟩
 ·have m:(x,NameKind.free)∈scope.names:=lc d.nocell O
  obtain ⟨c,e⟩:=h x m
  exact ⟨c,ut e m⟩
 ·rcases (f b g).2.2.2.1 with z | z
  ·exact I.ok.noex b o e z
  ·exact absurd (Fq (E7 e) (FH I.ok.bsz z)) (Nat.lt_irrefl _)
 ·rcases E5.mp (I.stkSub b hz) with e | e
  ·exact (f b g).2.1 e
  ·exact (f b g).2.2.1 e
 ·-- a captured name
  have q:∃ k,ix[i]?=some (some k)/\σ[k]?=some (some v):=by
   unfold cap at w
   grind
  obtain ⟨k,L,ev⟩:=q
  obtain ⟨E,m⟩:=d.cap i x k e1 L
  obtain ⟨Q,F,hl⟩:=I.loc
  have D:Vis X.env.scope x:=by
   rcases d.out _ m rfl with q | q
   ·exact .inr (.inl q)
   ·exact .inr (.inr q)
  obtain ⟨u,r,l⟩:=hl k x v E ev D
  refine ⟨u,r,.inr ?_⟩
  rcases l with ⟨A,_⟩ | ⟨_,c,M,K⟩
  ·exfalso
   rcases d.out _ m rfl with q | q
   ·have:=A.symm.trans q;cases this
   ·have:=A.symm.trans q;cases this
  ·obtain ⟨o,t,hd⟩:=K
   exact ⟨jd (d.fre _ m rfl),c,ut M m,o,keep c o t,hd⟩
 ·obtain ⟨v,o,t,hd⟩:=I.cell x c (cls x c e)
  exact ⟨v,o,keep c o t,hd⟩
 ·show (cap ix σ).length=NY.length
  unfold cap
  rw[Fa]
  exact d.len
set_option tactic.hygienic true in
theorem gu (I:Nat->Shared->Prop) (turn:∀ n s,I n s->wpAny (model prog w) A (pyNext it) (λr e=>match r with
   | none=>R (.ok .next) e
   | some v=>wpAny (model prog w) A (letOwnedTupleGo target it v) (λ_ a=>wpAny (model prog w) A (assign target env v) (λ_ i =>
     wpAny (model prog w) A (forIn ifs true λc r=>if r=true then do let ok <- isTrue c env (eval c env);pure (ForInStep.yield ok) else pure (ForInStep.yield r)) (λok b =>
      if ok=true then wpAny (model prog w) A (eval elt env) (λx f =>
       wpAny (model prog w) A (call (.builtin "list.append") [acc,x]) (λ_ g=>∃ m,m < n/\I m g) (λ_ _=>False) f) (λ_ _=>False) b
      else ∃ m,m < n/\I m b) (λ_ _=>False) i) (λ_ _=>False) a) (λ_ _=>False) e) (λ_ _=>False) s) (n:Nat) (h:I n s) :
  codeAny (model prog w) A (.compLoop (.ListComp elt [⟨target,iter,ifs,0⟩] scope pos) 0 it acc env) R s:=by
 refine codeAny_loop rfl I (λn s q=>?_) n h
 show wpAny _ A ((compTurn (.ListComp elt [⟨target,iter,ifs,0⟩] scope pos) 0 it acc env).onRaise (λx=>do noteFrame x env;theTreesLotGoes x)) _ _ s
 refine wpAny_noted ?_
 rw[compTurn_list]
 refine ET (wpAny_standAt (ET (wpAny_mono (turn n s q) (λr e j=>?_) λ_ _ h'=>h'.elim)))
 cases r with
 | none=>exact EU j
 | some v =>
  refine ET (wpAny_mono j (λ_ a d=>?_) λ_ _ h'=>h'.elim)
  refine ET (wpAny_mono d (λ_ i p=>ET (wpAny_mono p (λok b k=>?_) λ_ _ h'=>h'.elim)) λ_ _ h'=>h'.elim)
  cases ok with
  | false=>exact EU ⟨rfl,k⟩
  | true =>
   exact ET (ET (wpAny_mono k (λx f l=>ET (wpAny_mono l (λ_ g o=>EU (EU ⟨rfl,o⟩)) λ_ _ h'=>h'.elim)) λ_ _ h'=>h'.elim))
set_option tactic.hygienic true in
theorem qE {RR:Value->Addr->Result->Shared->Prop} (hc:X.calm=true) (ck:CompOk scope X.N X.env.scope NY ix) (hg:∀ s H C fp,PG (aN X NY scope s H C fp) tg g) (ht:∀ s H C fp,PTs (aN X NY scope s H C fp) ifs tc) (he:∀ s H C fp,PE (aN X NY scope s H C fp) elt te) (I:Inv X pins σ H s) (T:Turn X.prog X.w X.K tg J fp it tn) (st:tn 0 s.heap) (f:∀ b∈fp,FpOk X pins H b) (hW:qN J g tc te Z (cap ix σ) H) (cm:∀ D C s' ys H' m,s'.heap.Ns C m->H' D=none->FpOk X pins (upd H' D (.lst ys)) C->Inv X pins σ (upd H' D (.lst ys)) s'->Z ys H'->RR (.ref D) C (.ok .next) s') :
  wpAny (model X.prog X.w) X.A (newList []) (λacc s₃=>wpAny (model X.prog X.w) X.A (newFunctionEnv scope X.env.globals (clo X.env.cells scope.names) [] X.env.qual none .none (some X.env)) (λF s₄ =>
   codeAny (model X.prog X.w) X.A (.compStart (.ListComp elt [⟨tg,iter,ifs,0⟩] scope pos) 0 (.ref it) acc { F with scope:=relabel scope X.env }) (RR acc F.locals) s₄) E s₃) E s:=by
 obtain ⟨W,⟨m0,w0⟩,turn⟩:=hW
 refine wpAny_newObj_type (wpAny_newFunctionEnv ck.nocell (by intro y hy;simp at hy) (λh₁ t j=>?_) ck.kind)
 dsimp only at t j ⊢
 generalize G:s.heap.push { cls:=.type "list",dict:=none,data:=.seq ([]:List Value).toArray }=H2 at t j ⊢
 have a6:H2.objs.size=s.heap.objs.size+1:=by rw[<- G,FE]
 have B:s.heap.objs.size≠H2.objs.size:=by rw[a6];exact Fi (Nat.lt_succ_self _)
 have h:s.heap.objs.size<=H2.objs.size:=by rw[a6];exact Nat.le_succ _
 generalize Q:s.heap.objs.size=D at *
 generalize hC:H2.objs.size=C at *
 have below:∀ b o,s.heap.get? b=some o->b < D:=λb o e=>by rw[<- Q];exact E7 e
 have old:∀ b o,s.heap.get? b=some o->h₁.get? b=some o:=λb o e=>j.extBut b o (Fi (Fq (below b o e) h)) (EZ _ (G ▸ EZ _ e))
 have O:H2.get? D=some { cls:=.type "list",dict:=none,data:=.seq ([]:List Value).toArray }:=by
  rw[<- G,<- Q];exact E9 _ rfl
 have ae:h₁.PlainList D #[]:=⟨_,j.extBut _ _ B (EZ _ O)⟩
 have az:∀ b∈fp,b < s.heap.objs.size:=λb a=>by
  obtain ⟨o,e,_⟩:=T.obj 0 _ st b a
  exact E7 e
 have k:∀ b∈fp,b < D:=λb a=>by rw[<- Q];exact az b a
 have IY:Inv (aN X NY scope s H C fp) [] (cap ix σ) H { s with heap:=h₁,toks:=s.toks+([]:List (Str×Value)).length } :=
  se ck I f (by rw[Q];exact h) az rfl rfl old t
 have b3:H D=none:=I.hok.fresh (by rw[Q];exact Fg _)
 have l:∀ b∈frs X.stack,b < D:=λb a=>by
  obtain ⟨_,o,ho,_⟩:=I.stack.mem a
  exact below b o ho
 have loop:∀ s₃:Shared,s₃={ s with heap:=h₁,toks:=s.toks+([]:List (Str×Value)).length } ->
   codeAny (model X.prog X.w) X.A (.compLoop (.ListComp elt [⟨tg,iter,ifs,0⟩] scope pos) 0 (.ref it) (.ref D) (aN X NY scope s H C fp).env) (RR (.ref D) C) s₃:=by
  rintro s₃ rfl
  refine gu (λn s'=>∃ i ys τ H' its,Inv (aN X NY scope s H C fp) [] τ H' s'/\H' D=none/\s'.heap.PlainList D its/\Vals ys its.toList/\tn i s'.heap/\(∀ b∈fp,H' b=none)/\W i n ys τ H') ?_ m0
   ⟨0,[],cap ix σ,H,#[],IY,b3,ae,.nil,T.keep _ _ _ st λb _ o e=>old b o e,λb a=>(f b a).1,w0⟩
  rintro n s3 ⟨i,ys,τ,S,its,I3,d3,l3,v3,a5,U,w3⟩
  obtain ⟨nl,e3⟩:=id l3
  have ax:Inv (aN X NY scope s H C fp) [(D,{ cls:=.type "list",data:=.seq its nl })] τ S s3:=I3.pins_of λp Y=>by
   have e:p=(D,{ cls:=.type "list",data:=.seq its nl }):=by simpa using Y
   subst e
   exact ⟨e3,d3,B,λz=>Nat.lt_irrefl _ (l D z),λv z=>by cases z⟩
  have R:∀ {H':Hp} {pl:List (Addr×Obj)},(∀ b∈fp,H' b=none)->(∀ p∈pl,p.1=D)->∀ b∈fp,FpOk (aN X NY scope s H C fp) pl H' b:=λhn Y b a =>
   ⟨hn b a,Fi (Fq (k b a) h),λz=>by
    rcases E5.mp (I.stkSub b z) with e | e
    ·exact (f b a).2.1 e
    ·exact (f b a).2.2.1 e,.inl a,λx c e=>(f b a).2.2.2.2.1 x c (oY e),λp a7=>by
    have e:p.1=D:=Y p ((E8.mp a7).elim (λz=>absurd (show p∈([]:List (Addr×Obj)) from z) (by simp)) λz=>z)
    rw[e]
    exact Nat.ne_of_gt (k b a)⟩
  obtain ⟨zl,step⟩:=turn i n ys τ S w3
  have single:∀ p∈[(D,({ cls:=.type "list",data:=.seq its nl }:Obj))],p.1=D:=λp Y=>by
   have e:p=(D,{ cls:=.type "list",data:=.seq its nl }):=by simpa using Y
   rw[e]
  rcases step with ⟨stop,qn⟩ | ⟨go,N,hN,step⟩
  ·refine wpAny_mono (T.done (aN X NY scope s H C fp) rfl rfl rfl hc i _ s3 τ S (λ_ _=>False) ax (R U single) a5 stop) (λr s4 ⟨hr,M⟩=>?_) λ_ _ e=>e
   subst hr
   obtain ⟨mC,b6,_⟩:=id M.loc
   obtain ⟨e4,V,_⟩:=M.pin (D,{ cls:=.type "list",data:=.seq its nl }) (by simp[aN])
   have b5:∀ b o,s.heap.get? b=some o->b≠D:=λb o e=>Fi (below b o e)
   have P:=M.base
   refine cm D C s4 ys S mC b6 V ?_ ?_ qn
   ·exact (I.fpOk (by rw[Q];exact h) (by exact M.free)).of_upd (Ne.symm B)
   ·refine I.call' (ch:=fp) M.os (H':=upd S D (.lst ys)) ⟨P.keep,P.slot,λb o e n hx=>?_,P.there,λb xs e=>?_,λb o u e=>?_,λb ps e=>?_⟩ ?_ M.bare λb a=>?_
    ·rw[ak (b5 b o e)];exact P.free b o e n hx
    ·have q:=P.tups b xs e;rw[ak (aO q V)];exact q
    ·have q:=P.frzs b o u e;rw[ak (aO q V)];exact q
    ·obtain ⟨more,q⟩:=P.tbls b ps e;exact ⟨more,by rw[ak (aO q V)];exact q⟩
    ·exact M.hok.track V ⟨Nat.le_of_lt zl,its.toList,nl,v3,by simpa using e4⟩
    ·exact ⟨(f b a).2.2.2.1,(f b a).2.1,(f b a).2.2.2.2.1,(f b a).2.2.2.2.2⟩
  ·refine wpAny_mono (T.item (aN X NY scope s H C fp) rfl rfl rfl hc i _ s3 τ S (λ_ _=>False) ax (R U single) a5 go) (λr s4 ⟨u,hr,h4⟩=>?_) λ_ _ e=>e
   subst hr
   refine wpAny_mono h4 (λ_ s5 ⟨x,H5,I5,r5,y5,L,bt⟩=>?_) λ_ _ e=>e
   have b4:=I5.pinned (R bt single) (T.obj _ _ L)
   refine wpAny_mono (hg s H C fp _ s5 τ H5 x u _ b4 r5 (step x H5 y5)) (λ_ s6 ⟨τ6,H6,I6,q6⟩=>?_) λ_ _ e=>e
   refine wpAny_mono (ht s H C fp _ s6 τ6 H6 _ I6 q6) (λb s7 ⟨H7,I7,q7⟩=>?_) λ_ _ e=>e
   have after:∀ {s':Shared} {H':Hp},Inv (aN X NY scope s H C fp) ([(D,{ cls:=.type "list",data:=.seq its nl })]++lr fp s5.heap) τ6 H' s'->tn (i+1) s'.heap/\(∀ b∈fp,H' b=none)/\H' D=none/\s'.heap.PlainList D its:=λ{s' H'} I' =>
    ⟨T.keep _ _ _ L λb a o e=>(I'.pin (b,o) (E4 _ (E4 _ (fm a e)))).1,λb a=>by
     obtain ⟨o,e,d⟩:=T.obj _ _ L b a
     exact (I'.pin (b,o) (E4 _ (E4 _ (fm a e)))).2.1,(I'.pin (D,_) (E4 _ (E3 _ (Fz.mpr rfl)))).2.1,
     nl,(I'.pin (D,_) (E4 _ (E3 _ (Fz.mpr rfl)))).1⟩
   cases b with
   | false =>
    rw[if_neg Fh]
    rw[if_neg Fh] at q7
    obtain ⟨m',hm,w7⟩:=hN _ _ _ q7
    obtain ⟨a1,a2,a3,a4⟩:=after I7
    exact ⟨m',hm,i+1,ys,τ6,H7,its,I7.pins_of (λ_ z=>absurd z (by simp)),a3,a4,v3,a1,a2,w7⟩
   | true =>
    rw[if_pos rfl]
    rw[if_pos rfl] at q7
    refine wpAny_mono (he s H C fp _ s7 τ6 H7 _ I7 q7) (λy s8 ⟨yv,H8,I8,r8,n8⟩=>?_) λ_ _ e=>e
    obtain ⟨m',hm,w8⟩:=hN _ _ _ n8
    obtain ⟨a1,a2,a3,a4⟩:=after I8
    have cv:ys.length=its.size:=by simpa using v3.length
    have hsz:its.size<=sizeLine:=by lia
    refine wpAny_list_append_plain (hsz:=hsz) a4 λh9 l9 ar=>?_
    have I9:Inv (aN X NY scope s H C fp) [] τ6 H8 { s8 with heap:=h9,toks:=s8.toks }:=(I8.pins_of (pins':=[]) λ_ z=>absurd z (by simp)).turned (it:=D) (λb o a e=>(ar.2 b a).trans e) a3 B (.inr (by show s.heap.objs.size<=D;rw[Q];exact Fg _)) (λx c e z=>?_) λp z=>absurd (show p∈([]:List (Addr×Obj)) from z) (by simp)
    ·refine ⟨m',hm,i+1,ys++[yv],τ6,H8,its.push y,I9,a3,l9,?_,T.keep _ _ _ a1 λb a o e=>(ar.2 b (Fi (k b a))).trans e,a2,w8⟩
     rw[Array.toList_push]
     exact v3.append (.cons r8 .nil)
    ·obtain ⟨v,o,ho,_⟩:=I.cell x c (oY e)
     exact Nat.lt_irrefl _ (z ▸ below c o ho)
 exact codeAny_compStart_list (loop _ rfl) (T.self X.A 0 _ _ _ (T.keep _ _ _ st λb _ o e=>old b o e) (loop _ rfl))
theorem AK (NY:List Str) (ix:List (Option Nat)) (t:X.calm=true) (hi:PI X tg iter wi) (j:∀ s H C fp,PG (aN X NY scope s H C fp) tg g) (u:∀ s H C fp,PTs (aN X NY scope s H C fp) ifs tc) (he:∀ s H C fp,PE (aN X NY scope s H C fp) elt te) (a:gr scope X.N X.env.scope NY ix=true) (hs:∀ x,foldedSetIterable iter X.env x=pure x:=by intro _;rfl):PE X (.ListComp elt [⟨tg,iter,ifs,0⟩] scope pos) (BR wi g tc te ix):=by
 intro pins s σ H Q I h
 have a:=CompOk.of a
 rw[eval_ListComp]
 refine wpAny_comprehension_free (use:=none) rfl hs (gv (scope:=scope) (env:=X.env) λx m e=>?_) a.kind a.loc (thn (hi pins s σ H _ I h) λv s1 h1=>thn h1 λn s2 h2=>?_)
 ·rcases a.out x m e with q | q
  ·exact I.ok.has x.1 (.inl q)
  ·exact I.ok.has x.1 (.inr q)
 ·obtain ⟨it,fp,E,J,H2,e,y,T,c,f2,l⟩:=h2
  subst e
  refine qE (RR:=λacc C=>compPost (model X.prog X.w) X.A X.xe none (EP X pins σ Q) acc C) t a j u he y T c f2 l ?_
  intro D C s' ys H' m z f r B d
  obtain ⟨f0,f1,f2,k,f4,i⟩:=r
  exact ⟨m,z,λh' sb=>⟨.ref D,_,B.turned (t':=s'.toks) (λb o p e=>(sb.2 b p).trans e) f0 f1 k f4 i,rfl,d D f⟩⟩
def BV (i:Nat) (a:TI) (g:TG) (tc:TT) (te:TE) (ix:List (Option Nat)):TS:=λD σ H =>
 a σ H λJ H1=>qN J g tc te (λys H2=>∀ p,H2 p=none->D.nx (σ.set i (some (.ref p))) (upd H2 p (.lst ys))) (cap ix σ) H1
set_option tactic.hygienic true in
theorem rB {i:Nat} (K:X.N.Nodup) (R:X.N[i]?=some y) (W:Loc X.env.scope y) (NY:List Str) (ix:List (Option Nat)) (P:X.calm=true) (hi:PI X tg iter wi) (B:∀ s H C fp,PG (aN X NY scope s H C fp) tg g) (U:∀ s H C fp,PTs (aN X NY scope s H C fp) ifs tc) (he:∀ s H C fp,PE (aN X NY scope s H C fp) elt te) (c:gr scope X.N X.env.scope NY ix=true) (f:swapsWith (.ListComp elt [⟨tg,iter,ifs,0⟩] scope pos) (some (.Name y py)) spos.line X.env=pure true:=by rfl) (hf:X.fn y=true\/X.env.scope.names.lookup y=some .local:=by first | exact .inl rfl | exact .inr rfl | assumption) (hs:∀ x,foldedSetIterable iter X.env x=pure x:=by intro _;rfl):PS X (.Assign [.Name y py] (.ListComp elt [⟨tg,iter,ifs,0⟩] scope pos) spos) (BV i wi g tc te ix):=by
 intro pins s σ H D I h
 have c:=CompOk.of c
 rw[exec_Assign_Name_used _ _ _ _ f]
 refine ET (wpAny_standAt (ET ?_))
 show wpAny _ X.A (do let _ <- comprehension (.ListComp elt [⟨tg,iter,ifs,0⟩] scope pos) scope X.env _ (newList []) false (eval iter X.env) (some (assign (.Name y py) X.env))) _ _ s
 refine ET (wpAny_mono (wpAny_comprehension_free (use:=some (assign (.Name y py) X.env)) (Q:=λ_ s'=>SP X pins D .next s') rfl hs (gv (scope:=scope) (env:=X.env) λx m e=>?_) c.kind c.loc
  (thn (hi pins s σ H _ I h) λv s1 h1=>thn h1 λG s2 h2=>?_)) (λ_ s' S=>EU (EU S)) λ_ _ e=>e)
 ·rcases c.out x m e with q | q
  ·exact I.ok.has x.1 (.inl q)
  ·exact I.ok.has x.1 (.inr q)
 ·obtain ⟨it,fp,tn,J,H2,e,V,T,l,f2,F⟩:=h2
  subst e
  refine qE (RR:=λacc C=>compPost (model X.prog X.w) X.A X.xe (some (assign (.Name y py) X.env)) (λ_ s'=>SP X pins D .next s') acc C) P c B U he V T l f2 F ?_
  intro d C s' ys H' m Y t O Z r
  obtain ⟨f0,f1,f2,E,f4,u⟩:=O
  show wpAny _ X.A (assign (.Name y py) X.env (.ref d)) _ _ _
  refine wpAny_assign_Name (mG Z K R W (v:=.ref d) rfl (λj k ⟨a,sb,M⟩=>?_) hf)
  have n:C≠a:=by
   rcases M with e | e
   ·rw[e];exact f1
   ·exact λz=>f4 y a e z.symm
  exact ⟨m,Y.sameBut sb n,λh' p=>⟨_,_,k.turned (t':=j.toks) (λb o L e=>(p.2 b L).trans e) f0 f1 E f4 u,r d t⟩⟩
end
end L2
end
section
namespace L2
open PySem PySem.Spec PyProof.Rows
section
variable {X:Cx}
inductive KindOf (K:FG) (H:Hp):V->String->Prop
 | int (i:Int):KindOf K H (.int i) "int"
 | bool (b:Bool):KindOf K H (.bl b) "bool"
 | str (x:Str):KindOf K H (.str x) "str"
 | non:KindOf K H .non "NoneType"
 | tuple {a:Addr} {xs:List V}:SqT K H a xs->KindOf K H (.ref a) "tuple"
 | list {a:Addr} {xs:List V}:SqL K H a xs->KindOf K H (.ref a) "list"
 | dK {a:Addr} {kvs}:H a=some (.dK kvs)->KindOf K H (.ref a) "dict"
 | dT {a:Addr} {kvs}:H a=some (.dT kvs)->KindOf K H (.ref a) "dict"
def jO (k t:String):Bool:=k == t || (k == "bool" && t == "int")
theorem Inv.clsK (I:Inv X pins σ H s) (h:KindOf X.K H (.ref a) k):∃ o,s.heap.get? a=some o/\o.cls=.type k:=by
 cases h with
 | tuple h=>obtain ⟨its,_,⟨o,e,c,_⟩,_⟩:=I.tuple h;exact ⟨o,e,c⟩
 | list h=>obtain ⟨its,_,⟨o,n,e,c,_⟩,_⟩:=I.list h;exact ⟨o,e,c⟩
 | dK h=>obtain ⟨_,_,_,_,o,_,_,e,c,_⟩:=I.hok a _ h;exact ⟨o,e,c.1⟩
 | dT h=>obtain ⟨_,_,_,_,o,_,_,e,c,_⟩:=I.hok a _ h;exact ⟨o,e,c.1⟩
theorem o8:bN X (.builtin "isinstance") (λxs H Q=>∃ x k,xs=[x,.ty "int"]/\KindOf X.K H x k/\Q (.bl (jO k "int")) H):=by
 intro pins s σ H xs us Q I r h
 obtain ⟨x,k,rfl,f,q⟩:=h
 obtain ⟨u,v,rfl,a,d⟩:=jY r
 cases (show v=Value.type "int" from d)
 cases f with
 | int i=>obtain ⟨tk,rfl⟩:=a;exact IsiPair.int_int ⟨.bl true,H,I,rfl,q⟩
 | bool b=>cases (show u=Value.bool b from a);exact IsiPair.bool_int ⟨.bl true,H,I,rfl,q⟩
 | str z=>obtain ⟨tk,rfl⟩:=a;exact IsiPair.str_int ⟨.bl false,H,I.tok _,rfl,q⟩
 | non=>cases (show u=Value.none from a);exact IsiPair.NoneType_int ⟨.bl false,H,I.tok _,rfl,q⟩
 | tuple hh=>cases a;obtain ⟨o,e,c⟩:=I.clsK (.tuple hh);exact IsiPair.tuple_int e c ⟨.bl false,H,I.tok _,rfl,q⟩
 | list hh=>cases a;obtain ⟨o,e,c⟩:=I.clsK (.list hh);exact IsiPair.list_int e c ⟨.bl false,H,I.tok _,rfl,q⟩
 | dK hh=>cases a;obtain ⟨o,e,c⟩:=I.clsK (.dK hh);exact IsiPair.dict_int e c ⟨.bl false,H,I.tok _,rfl,q⟩
 | dT hh=>cases a;obtain ⟨o,e,c⟩:=I.clsK (.dT hh);exact IsiPair.dict_int e c ⟨.bl false,H,I.tok _,rfl,q⟩
theorem mw:bN X (.builtin "isinstance") (λxs H Q=>∃ x k,xs=[x,.ty "bool"]/\KindOf X.K H x k/\Q (.bl (jO k "bool")) H):=by
 intro pins s σ H xs us Q I r h
 obtain ⟨x,k,rfl,f,q⟩:=h
 obtain ⟨u,v,rfl,a,d⟩:=jY r
 cases (show v=Value.type "bool" from d)
 cases f with
 | int i=>obtain ⟨tk,rfl⟩:=a;exact IsiPair.int_bool ⟨.bl false,H,I.tok _,rfl,q⟩
 | bool b=>cases (show u=Value.bool b from a);exact IsiPair.bool_bool ⟨.bl true,H,I,rfl,q⟩
 | str z=>obtain ⟨tk,rfl⟩:=a;exact IsiPair.str_bool ⟨.bl false,H,I.tok _,rfl,q⟩
 | non=>cases (show u=Value.none from a);exact IsiPair.NoneType_bool ⟨.bl false,H,I.tok _,rfl,q⟩
 | tuple hh=>cases a;obtain ⟨o,e,c⟩:=I.clsK (.tuple hh);exact IsiPair.tuple_bool e c ⟨.bl false,H,I.tok _,rfl,q⟩
 | list hh=>cases a;obtain ⟨o,e,c⟩:=I.clsK (.list hh);exact IsiPair.list_bool e c ⟨.bl false,H,I.tok _,rfl,q⟩
 | dK hh=>cases a;obtain ⟨o,e,c⟩:=I.clsK (.dK hh);exact IsiPair.dict_bool e c ⟨.bl false,H,I.tok _,rfl,q⟩
 | dT hh=>cases a;obtain ⟨o,e,c⟩:=I.clsK (.dT hh);exact IsiPair.dict_bool e c ⟨.bl false,H,I.tok _,rfl,q⟩
theorem lU:bN X (.builtin "isinstance") (λxs H Q=>∃ x k,xs=[x,.ty "tuple"]/\KindOf X.K H x k/\Q (.bl (jO k "tuple")) H):=by
 intro pins s σ H xs us Q I r h
 obtain ⟨x,k,rfl,f,q⟩:=h
 obtain ⟨u,v,rfl,a,d⟩:=jY r
 cases (show v=Value.type "tuple" from d)
 cases f with
 | int i=>obtain ⟨tk,rfl⟩:=a;exact IsiPair.int_tuple ⟨.bl false,H,I.tok _,rfl,q⟩
 | bool b=>cases (show u=Value.bool b from a);exact IsiPair.bool_tuple ⟨.bl false,H,I.tok _,rfl,q⟩
 | str z=>obtain ⟨tk,rfl⟩:=a;exact IsiPair.str_tuple ⟨.bl false,H,I.tok _,rfl,q⟩
 | non=>cases (show u=Value.none from a);exact IsiPair.NoneType_tuple ⟨.bl false,H,I.tok _,rfl,q⟩
 | tuple hh=>cases a;obtain ⟨o,e,c⟩:=I.clsK (.tuple hh);exact IsiPair.tuple_tuple e c ⟨.bl true,H,I,rfl,q⟩
 | list hh=>cases a;obtain ⟨o,e,c⟩:=I.clsK (.list hh);exact IsiPair.list_tuple e c ⟨.bl false,H,I.tok _,rfl,q⟩
 | dK hh=>cases a;obtain ⟨o,e,c⟩:=I.clsK (.dK hh);exact IsiPair.dict_tuple e c ⟨.bl false,H,I.tok _,rfl,q⟩
 | dT hh=>cases a;obtain ⟨o,e,c⟩:=I.clsK (.dT hh);exact IsiPair.dict_tuple e c ⟨.bl false,H,I.tok _,rfl,q⟩
theorem mr:bN X (.builtin "isinstance") (λxs H Q=>∃ x k,xs=[x,.ty "list"]/\KindOf X.K H x k/\Q (.bl (jO k "list")) H):=by
 intro pins s σ H xs us Q I r h
 obtain ⟨x,k,rfl,f,q⟩:=h
 obtain ⟨u,v,rfl,a,d⟩:=jY r
 cases (show v=Value.type "list" from d)
 cases f with
 | int i=>obtain ⟨tk,rfl⟩:=a;exact IsiPair.int_list ⟨.bl false,H,I.tok _,rfl,q⟩
 | bool b=>cases (show u=Value.bool b from a);exact IsiPair.bool_list ⟨.bl false,H,I.tok _,rfl,q⟩
 | str z=>obtain ⟨tk,rfl⟩:=a;exact IsiPair.str_list ⟨.bl false,H,I.tok _,rfl,q⟩
 | non=>cases (show u=Value.none from a);exact IsiPair.NoneType_list ⟨.bl false,H,I.tok _,rfl,q⟩
 | tuple hh=>cases a;obtain ⟨o,e,c⟩:=I.clsK (.tuple hh);exact IsiPair.tuple_list e c ⟨.bl false,H,I.tok _,rfl,q⟩
 | list hh=>cases a;obtain ⟨o,e,c⟩:=I.clsK (.list hh);exact IsiPair.list_list e c ⟨.bl true,H,I,rfl,q⟩
 | dK hh=>cases a;obtain ⟨o,e,c⟩:=I.clsK (.dK hh);exact IsiPair.dict_list e c ⟨.bl false,H,I.tok _,rfl,q⟩
 | dT hh=>cases a;obtain ⟨o,e,c⟩:=I.clsK (.dT hh);exact IsiPair.dict_list e c ⟨.bl false,H,I.tok _,rfl,q⟩
theorem wn {bs:List Bool}:((List.range bs.length).all λi=>bs.getD i false)=bs.all id:=by
 rw[Bool.eq_iff_iff]
 simp only[List.all_eq_true,List.mem_range,id]
 constructor
 ·intro h b a
  obtain ⟨i,hi,rfl⟩:=List.mem_iff_getElem.mp a
  simpa[List.getD,hi] using h i hi
 ·intro h i hi
  simpa[List.getD,hi] using h _ (List.getElem_mem hi)
theorem zm (y:X.calm=true):bN X (.builtin "all") (λxs H Q=>∃ (a:Addr) (bs:List Bool),xs=[.ref a]/\SqL X.K H a (bs.map V.bl)/\Q (.bl (bs.all id)) H):=by
 intro pins s σ H xs us Q I r h
 obtain ⟨a,bs,rfl,z,q⟩:=h
 obtain ⟨u,rfl,g⟩:=cW r
 cases g
 obtain ⟨its,k,p,hz⟩:=I.list z
 have hl:=k.length
 rw[Fa] at hl
 have f:a < s.heap.objs.size:=by obtain ⟨o,_,e,_⟩:=id p;exact E7 e
 refine call_all_walk (wpAny_pyIter_list p.isList ?_)
 refine ⟨s.heap.objs.size,_,_,_,_,_,λi=>bs.getD i false,rfl,Walks.list (show X.A.in1.handled=none from I.ok.hd y) s.heap.objs.size a (Fi f) its.toArray,⟨⟨_,E9 _ rfl,rfl,rfl⟩,p.isList.at λo e=>EZ _ e⟩,?_,?_⟩
 ·intro i v s' l B n j
  have c:its[i]?=some v:=by simpa using n
  have hi:i < bs.length:=by
   have:=(Fb.mp c).1
   lia
  obtain ⟨u,hu,g⟩:=k.get (i:=i) (x:=V.bl (bs[i])) (by simp[hi])
  rw[c] at hu
  cases hu
  cases (show v=Value.bool bs[i] from g)
  refine FF ?_
  have e:bs.getD i false=bs[i]:=by simp[List.getD,hi]
  have d:l (bs.getD i false) s':=j
  rw[e] at d
  exact d
 ·intro h' tk w
  have t:Inv X pins σ H { s with heap:=h',toks:=tk }:=I.kept λb o e=>w b o (by
   intro hm
   have m:b=s.heap.objs.size:=by simpa using hm
   exact absurd (m ▸ E7 e) (Nat.lt_irrefl _)) (EZ _ e)
  refine ⟨.bl (bs.all id),H,t,?_,q⟩
  show Value.bool _=Value.bool _
  rw[Fj,<- hl,wn]
def Ite (K:FG) (a:Addr):It :=
 ⟨λi H=>∃ xs x,SqL K H a xs/\xs[i]?=some x,λi H x H'=>∃ T y,x=.ref T/\H T=none/\H'=upd H T (.tup [.int i,y])/\∀ xs,SqL K H a xs->xs[i]?=some y,λi H=>∃ xs,SqL K H a xs/\xs.length<=i⟩
theorem Inv.two {tk:Nat} (I:Inv X pins σ H s) (g:FpOk X pins H e) (f:FpOk X pins H it) (k:∀ b o,b≠e->b≠it->s.heap.get? b=some o->h'.get? b=some o):Inv X pins σ H { s with heap:=h',toks:=tk }:=by
 have p:∀ b u,H b=some u->b≠e/\b≠it:=λb u q=>⟨aO q g.1,aO q f.1⟩
 have a:∀ b,b ∉ [e,it]->b≠e/\b≠it:=λb h=>⟨λz=>h (by simp[z]),λz=>h (by simp[z])⟩
 refine I.step (g':=s.gens) (d':=s.drawn) (ch:=[e,it]) (λb h=>?_) (λb o _ _ d q _=>k b o (a b d).1 (a b d).2 q) (λb o _ _ d q _=>⟨o.slots,k b o (a b d).1 (a b d).2 q⟩) (λ_ _ _ _ n=>n)
  (λb o d q=>⟨o,k b o (a b d).1 (a b d).2 q⟩) (λ_ _ q=>q) (λ_ _ _ q=>q) (λb ps q=>⟨#[],by rw[q];simp⟩) (λm hm=>?_) (λb u q=>?_) I.bare
 ·have j:b=e\/b=it:=by simpa using h
  rcases j with rfl | rfl
  ·exact ⟨g.2.2.2.1,g.2.1,g.2.2.2.2.1,g.2.2.2.2.2⟩
  ·exact ⟨f.2.2.2.1,f.2.1,f.2.2.2.2.1,f.2.2.2.2.2⟩
 ·obtain ⟨o,es,i,l,r⟩:=hm
  exact ⟨o,es,i,k _ o (Ne.symm g.2.1) (Ne.symm f.2.1) l,r⟩
 ·refine (I.hok b u q).stay (λc v d z=>?_) (λ_ z=>z) λ_ _ z=>z
  grind
theorem Inv.trackT (I:Inv X pins σ H s) (J:Inv X pins σ H s0) (f:s0.heap.objs.size<=T) (j:IsTupD s.heap T its.toArray) (r:Vals xs its) (hz:xs.length<=sizeLine):Inv X pins σ (upd H T (.tup xs)) s:=by
 have m:H T=none:=J.hok.fresh f
 obtain ⟨e1,G,D,a,B,C,t,A,y,g,k⟩:=id I
 have d:∀ b,H b=none->∀ o,s0.heap.get? b=some o->upd H T (.tup xs) b=none:=λb w o e=>by
  rw[ak (Fi (Fq (E7 e) f))];exact w
 have i:∀ b u,H b=some u->upd H T (.tup xs) b=some u:=λb u e=>by rw[ak (aO e m)];exact e
 have h:X.s₀.heap.objs.size<=T:=FH J.sz f
 refine ⟨e1,G,D,⟨a.keep,a.slot,λb o q n j=>?_,a.there,λb ys q=>i _ _ (a.tups b ys q),λb o u q=>i _ _ (a.frzs b o u q),λb ps q=>?_⟩,B,C,?_,λx c q=>?_,λp l=>?_,?_,k⟩
 ·rw[ak (Fi (Fq (E7 q) h))];exact a.free b o q n j
 ·obtain ⟨more,z⟩:=a.tbls b ps q;exact ⟨more,i _ _ z⟩
 ·rw[ak (Fi (Fq J.lt f))];exact t
 ·obtain ⟨v,o,E,_⟩:=J.cell x c q
  exact d c (A x c q) o E
 ·obtain ⟨a1,a2,F⟩:=y p l
  exact ⟨a1,d p.1 a2 p.2 (J.pin p l).1,F⟩
 ·exact g.track m ⟨hz,its,r,j⟩
theorem uH {P:Program} {w:World} {K:FG} {elts:List Expr} {k:Nat} {pos:Pos} (a e it:Addr) (t:e≠it):Turn P w K (.Tuple elts k pos) (Ite K a) [e,it] e (λi h=>(∃ old,IsEnum h e it i old)/\h.IsListIter it a i) where
 mem:=by simp
 obj:=λi h st b g=>by
  obtain ⟨⟨old,he⟩,o,l,c,d⟩:=st
  have J:b=e\/b=it:=by simpa using g
  rcases J with rfl | rfl
  ·exact ⟨_,he,λv z=>by cases z⟩
  ·exact ⟨o,l,λv z=>by rw[d] at z;cases z⟩
 keep:=λi h h' st k=>⟨let ⟨old,he⟩:=st.1;⟨old,k e (by simp) _ he⟩,st.2.at λo q=>k it (by simp) o q⟩
 item:=by
  intro X M hw D O i pins s σ H E I hf st B
  subst M hw D
  obtain ⟨xs,x,A,N⟩:=B
  obtain ⟨its,L,p,hz⟩:=I.list A
  obtain ⟨u,hu,V⟩:=L.get N
  obtain ⟨⟨old,he⟩,hit⟩:=st
  refine wpAny_pyNext_enum_item he hit p.isList (x:=u) (by simpa using hu) t λh' C m R hsz W=>?_
  refine ⟨_,rfl,wpAny_letOwnedTupleGo_enum C λn y f=>?_⟩
  have j:e < s.heap.objs.size:=E7 he
  have S:Inv X pins σ H { s with heap:=n,toks:=s.toks+1 }:=I.two (hf e (by simp)) (hf it (by simp)) λb o hb1 hb2 q=>(f.2 b hb1).trans (W b o hb1 hb2 q)
  have F:n.get? s.heap.objs.size=some { cls:=.type "tuple",data:=.seq #[.int i s.toks,u] }:=(f.2 _ (Nat.ne_of_gt j)).trans R
  have Z:=S.trackT (s0:=s) (T:=s.heap.objs.size) (xs:=[.int i,x]) (its:=[.int i s.toks,u]) I (Fg _) ⟨_,F,rfl,_,rfl⟩ (.cons ⟨_,rfl⟩ (.cons V .nil)) (by show 2<=sizeLine;decide)
  refine ⟨.ref s.heap.objs.size,_,Z,rfl,⟨_,x,rfl,I.hok.fresh (Fg _),rfl,λys U=>by rw[I.list_inj U A];exact N⟩,⟨⟨_,by simpa using y⟩,?_⟩,λb g=>?_⟩
  ·obtain ⟨o,l,r⟩:=m
   exact ⟨o,(f.2 it (Ne.symm t)).trans l,r⟩
  ·have G:b < s.heap.objs.size:=by
    have J:b=e\/b=it:=by simpa using g
    rcases J with rfl | rfl
    ·exact j
    ·obtain ⟨o,l,r⟩:=hit;exact E7 l
   rw[ak (Fi G)]
   exact (hf b g).1
 done:=by
  intro X M hw D O i pins s σ H E I hf st B
  subst M hw D
  obtain ⟨xs,A,N⟩:=B
  obtain ⟨its,L,p,hz⟩:=I.list A
  obtain ⟨⟨old,he⟩,hit⟩:=st
  have hl:=L.length
  obtain ⟨f0,f1,f2,Q,f4,f5⟩:=hf it (by simp)
  exact wpAny_pyNext_enum_end (I.ok.hd O) he hit p.isList (by simp;lia) λh' Y=>⟨rfl,I.turned (t':=s.toks) (λb o g q=>Y b o g q) f0 f1 Q f4 f5⟩
 self:=λ_ _ _ _ _ st h=>let ⟨_,he⟩:=st.1;wpAny_pyIter_enum he h
def Cc (K:FG) (ta:TA):TI:=λσ H R=>ta σ H λvs H1=>∃ a,vs=[.ref a]/\(∃ xs,SqL K H1 a xs)/\R (Ite K a) H1
theorem AJ {k:Nat} (g:Gl X "enumerate") (hm:X.mg "enumerate"=none) (j:PA X [a] ta) (hs:starEach [a] X.env=[(false,eval a X.env)]:=by rfl):PI X (.Tuple elts k tp) (.Call (.Name "enumerate" p) [a] [] pos) (Cc X.K ta):=by
 intro pins s σ H R I h
 refine Call_ (jL I g hm boot_enumerate (PyProof.Rows.callWith_type1 (thn (j pos pins s σ H _ I h) λus s1 ⟨vs,H1,d,o,n⟩=>?_) hs rfl))
 obtain ⟨a,e,⟨xs,l⟩,q⟩:=n
 subst e
 obtain ⟨u,rfl,f⟩:=cW o
 cases f
 obtain ⟨its,r,pl,hz⟩:=d.list l
 refine call_enumerate_list pl.isList λh' he hit hsz i=>?_
 refine wpAny_pyIter_enum he ?_
 have m:Inv X pins σ H1 { s1 with heap:=h' }:=d.kept (t':=s1.toks) i
 refine ⟨s1.heap.objs.size+1,[s1.heap.objs.size+1,s1.heap.objs.size],_,_,H1,rfl,m,uH a _ _ (Nat.succ_ne_self _),⟨⟨_,he⟩,hit⟩,λb t=>?_,q⟩
 have c:s1.heap.objs.size<=b:=by
  grind
 exact d.fpOk c (d.hok.fresh c)
end
end L2
end
section
namespace L2
open PySem PySem.Spec PyProof.Rows
structure Callee (P:Program) (w:World) (K:FG) (mg:Str->Option Value) (base:Heap) (x:Str) (k:Nat) (ps:List Str) (sp:Sp):Prop where
 ex:∃ (f:Addr) (fd:FuncData),FnOk P w K mg base CX0 k f fd ps sp/\mg x=some (.ref f)/\PySem.W.keepIn K (.ref f)=true/\Binds K fd ps []
structure DefAt (K:FG) (mg:Str->Option Value) (x:Str) (st:Stmt) (f:Addr) (fd:FuncData):Prop where
 fn:Fun K x x st f fd
 mg:mg x=some (.ref f)
def Def (K:FG) (mg:Str->Option Value) (x:Str) (st:Stmt):Prop:=∃ f fd,DefAt K mg x st f fd
theorem Def.callee {K:FG} {st:Stmt} {k:Nat} (D:Def K mg x st) (b:∀ (kV doc pm:Value) (an:Option Addr) (a ct:Value) (us:List Value),us.length=ps.length->bindArgs (PySem.W.fnOf x x (aH st) (aw st) (ad st) .none kV doc pm an a ct) ⟨us,[]⟩=pure (ps.zip us)) (h:∀ f fd,Fun K x x st f fd->FnOk P w K mg base CX0 k f fd ps sp):Callee P w K mg base x k ps sp :=
 let ⟨f,fd,d⟩:=D
 ⟨f,fd,h f fd d.fn,d.mg,d.fn.kp,d.fn.binds b⟩
section
variable {X:Cx} {x:Str} {p pos:Pos} {e:Expr} {es:List Expr} {t:TA} {k:Nat} {ps:List Str} {sp:Sp}
def tFn (sp:Sp) (t:TA):TE:=λσ H Q=>t σ H λvs H1=>sp vs H1 Q E0
theorem pe_fn (c:Callee X.prog X.w X.K X.mg X.base x k ps sp) (g:Room k X.A) (l:PA X (e::es) t) (d:Gl X x:=by rfl) (b:(x == ("__debug__":Str))=false:=by decide)
  (he:starEach (e::es) X.env=(false,eval e X.env)::starEach es X.env:=by rfl) (a:(backTo pos (starEach es X.env)).any (·.1)=false:=by rfl):PE X (.Call (.Name x p) (e::es) [] pos) (tFn sp t):=by
 obtain ⟨f,fd,F,hm,i,j⟩:=c.ex
 have h:=AM (pos:=pos) (p:=p) (dvs:=[]) (E:=E0) F g d hm i j .nil pass0 l b he a
 intro pins s σ H Q I q
 refine h pins s σ H Q I ?_
 show t σ H λvs H1=>sp (vs++[]) H1 Q E0
 have m:t σ H (λvs H1=>sp vs H1 Q E0):=q
 simpa using m
end
def But (p:Addr) (H H':Hp):Prop:=∀ b o,H b=some o->b≠p->H' b=some o
theorem But.trans (a:But p H H1) (b:But p H1 H2):But p H H2:=λc o h n=>b c o (a c o h n) n
abbrev Pt:=Int×Int
def ba (p q r:Pt):Int:=(q.1 - p.1) * (r.2 - p.2) - (q.2 - p.2) * (r.1 - p.1)
def Small (p:Pt):Prop:=-(2 ^ 62) < p.1/\p.1 < 2 ^ 62/\-(2 ^ 62) < p.2/\p.2 < 2 ^ 62
def Rising (ps:List Pt):Prop:=∀ (i j:Nat) (p q:Pt),i < j->ps[i]?=some p->ps[j]?=some q->p.1 < q.1
def NoLine (ps:List Pt):Prop:=∀ (i j k:Nat) (p q r:Pt),i < j->j < k->ps[i]?=some p->ps[j]?=some q->ps[k]?=some r->ba p q r≠0
structure GoodSh (ps:List Pt):Prop where
 pos:0 < ps.length
 most:ps.length<=24
 small:∀ p∈ps,Small p
 rising:Rising ps
 noline:NoLine ps
def wm:Expr->Option Int
 | .Constant (.int i) _ _=>some i
 | _=>none
theorem tL:∀ {es:List Expr} (ns:List Int),es.map wm=ns.map some->PA X es (λ_ H Q=>Q (ns.map V.int) H)
 | [],[],_=>lx
 | [],_::_,h=>by simp at h
 | _::_,[],h=>by simp at h
 | e::es,n::ns,h=>by
  simp only[Fm,List.cons.injEq] at h
  obtain ⟨h1,h2⟩:=h
  have a:=tL (X:=X) ns h2
  cases e with
  | Constant c j pos =>
   cases c with
   | int i =>
    have b:i=n:=by simpa[wm] using h1
    subst b
    exact fj oB a
   | _=>simp[wm] at h1
  | _=>simp[wm] at h1
def j6:List Pt->List (Pt×Pt)
 | []=>[]
 | p::r=>r.map (λq=>(p,q))++j6 r
theorem mY:∀ {ps:List Pt} {i j:Nat} {p q:Pt},i < j->ps[i]?=some p->ps[j]?=some q->(p,q)∈j6 ps
 | [],_,_,_,_,_,h,_=>by simp at h
 | a::r,0,0,_,_,h,_,_=>by lia
 | a::r,0,j+1,p,q,_,h1,h2=>by
  simp at h1 h2;subst h1
  exact E3 _ (Fe.mpr ⟨q,Fc h2,rfl⟩)
 | a::r,i+1,0,_,_,h,_,_=>by lia
 | a::r,i+1,j+1,p,q,h,h1,h2=>E4 _ (mY (ps:=r) (i:=i) (j:=j) (by lia) (by simpa using h1) (by simpa using h2))
theorem pX:∀ {ps:List Pt} {p q:Pt},(p,q)∈j6 ps->∃ i j:Nat,i < j/\ps[i]?=some p/\ps[j]?=some q
 | [],_,_,h=>by simp[j6] at h
 | a::r,p,q,h=>by
  rcases E8.mp h with h | h
  ·obtain ⟨z,hz,e⟩:=Fe.mp h
   cases e
   obtain ⟨j,b,e⟩:=List.mem_iff_getElem.mp hz
   exact ⟨0,j+1,by lia,rfl,by simp[b,e]⟩
  ·obtain ⟨i,j,h0,h1,h2⟩:=pX h
   exact ⟨i+1,j+1,by lia,by simpa using h1,by simpa using h2⟩
theorem mT:∀ ps:List Pt,(j6 ps).length<=ps.length * ps.length
 | []=>by simp[j6]
 | a::r=>by
  have b:=mT r
  simp only[j6,Ft,Fa,Fu]
  have:(r.length+1) * (r.length+1)=r.length * r.length+2 * r.length+1:=by
   rw[Nat.add_mul,Nat.mul_add];lia
  lia
def zK (ps:List Pt) (z:Pt):Prop:=∀ (i j:Nat) (p q:Pt),i < j->ps[i]?=some p->ps[j]?=some q->ba p q z≠0
def above (ps:List Pt) (x y:Int):Nat:=((j6 ps).filter λpr=>decide (ba pr.1 pr.2 (x,y)<=0)).length
theorem ze {α:Type} {p q:α->Bool}:∀ {l:List α},(∀ a∈l,p a=true->q a=true)->(l.filter p).length<=(l.filter q).length
 | [],_=>by simp
 | a::l,h=>by
  have e:=ze (l:=l) λb f=>h b (EY _ f)
  have g:=h a EW
  cases c:p a with
  | true=>rw[List.filter_cons_of_pos c,List.filter_cons_of_pos (g c)];simpa using e
  | false =>
   rw[List.filter_cons_of_neg (by simp[c])]
   cases d:q a with
   | true=>rw[List.filter_cons_of_pos d];simp;lia
   | false=>rw[List.filter_cons_of_neg (by simp[d])];exact e
theorem zd {α:Type} {p q:α->Bool}:∀ {l:List α} {z:α},(∀ a∈l,p a=true->q a=true)->z∈l->q z=true->p z=false->(l.filter p).length < (l.filter q).length
 | [],_,_,hz,_,_=>by simp at hz
 | a::l,z,h,hz,h1,h2=>by
  have hl:∀ b∈l,p b=true->q b=true:=λb f=>h b (EY _ f)
  rcases E5.mp hz with rfl | hz
  ·rw[List.filter_cons_of_neg (by simp[h2]),List.filter_cons_of_pos h1]
   have:=ze hl
   simp;lia
  ·have e:=zd hl hz h1 h2
   have g:=h a EW
   cases c:p a with
   | true=>rw[List.filter_cons_of_pos c,List.filter_cons_of_pos (g c)];simpa using e
   | false =>
    rw[List.filter_cons_of_neg (by simp[c])]
    cases d:q a with
    | true=>rw[List.filter_cons_of_pos d];simp;lia
    | false=>rw[List.filter_cons_of_neg (by simp[d])];exact e
theorem ux (p q:Pt) (x y:Int):ba p q (x,y+1)=ba p q (x,y)+(q.1 - p.1):=by
 unfold ba
 grind
theorem zF {x y:Int} (R:Rising ps) {i j:Nat} (a:i < j) (hi:ps[i]?=some p) (c:ps[j]?=some q) (h0:ba p q (x,y)=0):above ps x (y+1) < above ps x y:=by
 refine zd (z:=(p,q)) (λpr b h=>?_) (mY a hi c) (by simp[h0]) ?_
 ·obtain ⟨d,f,h',e1,e⟩:=pX (p:=pr.1) (q:=pr.2) b
  have:=R d f _ _ h' e1 e
  have h:=of_decide_eq_true h
  rw[ux] at h
  exact Fo (by lia)
 ·have:=R i j _ _ a hi c
  show decide (ba p q (x,y+1)<=0)=false
  rw[ux,h0]
  exact Fp (by lia)
theorem zG (ps:List Pt) (x y:Int):above ps x y<=ps.length * ps.length:=FH (List.length_filter_le _ _) (mT ps)
theorem de {α:Type} {l:List α} {z a:α} {i:Nat} (h:(l++[z])[i]?=some a):(l[i]?=some a/\i < l.length)\/(a=z/\i=l.length):=by grind
theorem Rising.snoc (R:Rising ps) (h:∀ p∈ps,p.1 < z.1):Rising (ps++[z]):=λi j p q a h1 h2=>by
 rcases de h1 with ⟨a1,b1⟩ | ⟨rfl,b1⟩
 ·rcases de h2 with ⟨a2,b2⟩ | ⟨rfl,b2⟩
  ·exact R i j p q a a1 a2
  ·exact h p (Fc a1)
 ·rcases de h2 with ⟨a2,b2⟩ | ⟨rfl,b2⟩
  ·lia
  ·lia
theorem NoLine.snoc (N:NoLine ps) (F:zK ps z):NoLine (ps++[z]):=λi j k p q r a b h1 h2 h3=>by
 rcases de h1 with ⟨a1,b1⟩ | ⟨rfl,b1⟩
 ·rcases de h2 with ⟨a2,b2⟩ | ⟨rfl,b2⟩
  ·rcases de h3 with ⟨d,c⟩ | ⟨rfl,c⟩
   ·exact N i j k p q r a b a1 a2 d
   ·exact F i j p q a a1 a2
  ·rcases de h3 with ⟨d,c⟩ | ⟨rfl,c⟩ <;> lia
 ·rcases de h2 with ⟨a2,b2⟩ | ⟨rfl,b2⟩ <;> lia
def iI (a b c:Int) (p:Pt):Pt:=(a * p.1+c,b * p.2)
theorem sC (a b c:Int) (p q r:Pt):ba (iI a b c p) (iI a b c q) (iI a b c r)=(a * b) * ba p q r:=by
 unfold ba iI
 grind
theorem Rising.scale {a b c:Int} (h:0 < a) (R:Rising ps):Rising (ps.map (iI a b c)):=λi j p q e h1 h2=>by
 rw[Ff] at h1 h2
 obtain ⟨d,e1,rfl⟩:=E2.mp h1
 obtain ⟨f,g,rfl⟩:=E2.mp h2
 have:=R i j d f e e1 g
 have h3:a * d.1 < a * f.1:=Int.mul_lt_mul_of_pos_left this h
 show a * d.1+c < a * f.1+c
 lia
theorem NoLine.scale {a b c:Int} (o:0 < a) (n:0 < b) (N:NoLine ps):NoLine (ps.map (iI a b c)):=λi j k p q r e d h1 h2 h3=>by
 rw[Ff] at h1 h2 h3
 obtain ⟨f,e1,rfl⟩:=E2.mp h1
 obtain ⟨m,h,rfl⟩:=E2.mp h2
 obtain ⟨l,g,rfl⟩:=E2.mp h3
 rw[sC]
 exact Int.mul_ne_zero (Int.mul_ne_zero (by lia) (by lia)) (N i j k f m l e d e1 h g)
section InBlock
variable {X:Cx} {NY:List Str} {scope:Scope} {s:Shared} {H:Hp} {C:Addr} {fp:List Addr}
end InBlock
end L2
end
section
namespace L2
open PySem PySem.Spec PyProof.Rows
mutual
inductive DV (K:FG) (H:Hp):V->PyData->Prop
 | non:DV K H .non .none
 | bl (b:Bool):DV K H (.bl b) (.bool b)
 | int (i:Int):DV K H (.int i) (.int i)
 | str (x:Str):DV K H (.str x) (.str x)
 | tup {a:Addr} {xs:List V} {ds:List PyData}:SqT K H a xs->DVs K H xs ds->DV K H (.ref a) (.tuple ds)
 | lst {a:Addr} {xs:List V} {ds:List PyData}:SqL K H a xs->DVs K H xs ds->DV K H (.ref a) (.list ds)
inductive DVs (K:FG) (H:Hp):List V->List PyData->Prop
 | nil:DVs K H [] []
 | cons {x:V} {d:PyData} {xs:List V} {ds:List PyData}:DV K H x d->DVs K H xs ds->DVs K H (x::xs) (d::ds)
end
section
variable {X:Cx} {pins:List (Addr×Obj)} {σ:St} {H:Hp} {s:Shared}
mutual
theorem DV.reads (I:Inv X pins σ H s):∀ {v:V} {d:PyData} {u:Value},DV X.K H v d->RelV v u->∃ as,Reads s.heap u d as
 | _,_,u,.non,r=>by cases (show u=Value.none from r);exact ⟨_,.none⟩
 | _,_,u,.bl b,r=>by cases (show u=Value.bool b from r);exact ⟨_,.bool b⟩
 | _,_,u,.int i,r=>by obtain ⟨t,rfl⟩:=r;exact ⟨_,.int i t⟩
 | _,_,u,.str x,r=>by obtain ⟨t,rfl⟩:=r;exact ⟨_,.str x t⟩
 | _,_,u,.tup (a:=a) h rs,r=>by
  cases (show u=Value.ref a from r)
  obtain ⟨its,f,⟨o,e,c,n,d⟩,_⟩:=I.tuple h
  obtain ⟨as,q⟩:=DVs.reads I rs f
  exact ⟨_,.tuple e c d (by simpa using q)⟩
 | _,_,u,.lst (a:=a) h rs,r=>by
  cases (show u=Value.ref a from r)
  obtain ⟨its,f,⟨o,n,e,c,_,d⟩,_⟩:=I.list h
  obtain ⟨as,q⟩:=DVs.reads I rs f
  exact ⟨_,.list e c d (by simpa using q)⟩
theorem DVs.reads (I:Inv X pins σ H s):∀ {v:List V} {d:List PyData} {us:List Value},DVs X.K H v d->Vals v us->∃ as,ReadsAll s.heap us d as
 | _,_,_,.nil,.nil=>⟨_,.nil⟩
 | _,_,_,.cons h r,.cons q t=>by
  obtain ⟨as,e1⟩:=DV.reads I h q
  obtain ⟨bs,a⟩:=DVs.reads I r t
  exact ⟨_,.cons e1 a⟩
end
end
end L2
end
section
namespace L2
open PySem PySem.Spec PyProof.Rows
abbrev mi (i:Int):Str:=Str.ofString (toString i)
def dig (m:Nat):List Nat:=(Nat.toDigits 10 m).map Char.toNat
theorem numC (i:Int):(mi i).cps.toList=if i < 0 then 45::dig i.natAbs else dig i.natAbs:=by
 cases i with
 | ofNat m =>
  rw[if_neg (by simp)]
  exact PySem.W.KIN.signs_num m
 | negSucc m =>
  rw[if_pos (by exact Int.negSucc_lt_zero m)]
  unfold mi
  rw[PyProof.Rows.signs_ofString]
  show (("-"++toString (Nat.succ m)):String).toList.map Char.toNat=45::dig (Nat.succ m)
  rw[String.toList_append,List.map_append]
  show [45]++((Nat.repr (m+1)).toList.map Char.toNat)=_
  rw[Nat.toList_repr]
  rfl
theorem BA {m k:Nat} (a:0 < k) (h:m < 10 ^ k):(dig m).length<=k:=by
 unfold dig
 rw[Fa]
 exact (Nat.length_toDigits_le_iff (by decide) a).mpr h
end L2
end
section
namespace L2
open PySem PySem.Spec PyProof.Rows
end L2
end
section
namespace L2
open PySem PySem.Spec PyProof.Rows
end L2
end
section
namespace L2
open PySem PySem.Spec PyProof.Rows
end L2
end
section
namespace L2
open PySem PySem.Spec PyProof.Rows
end L2
end
section
namespace L2
open PySem PySem.Spec PyProof.Rows
end L2
end
section
namespace L2
open PySem PySem.Spec PyProof.Rows
end L2
end
section
namespace L2
open PySem PySem.Spec PyProof.Rows
end L2
end
section
namespace L2
open PySem PySem.Spec PyProof.Rows
end L2
end
section
namespace L2
open PySem PySem.Spec PyProof.Rows
end L2
end
section
namespace PySem
open Sem (wp)
end PySem
end
section
namespace L2
open PySem PySem.Spec PyProof.Rows
end L2
end
section
namespace L2
open PySem PySem.Spec PyProof.Rows
end L2
end
section
namespace L2
open PySem PySem.Spec PyProof.Rows
section
variable {X:Cx}
theorem xZ:MtR X "list.index" (λx vs H Q=>∃ (a:Addr) (xs:List V) (k:V) (j:Nat),x=.ref a/\vs=[k]/\SqL X.K H a xs/\fK k=true/\xs.all fK=true/\(∃ y,xs[j]?=some y/\eqV y k=true)/\(∀ (i:Nat) (y:V),i < j->xs[i]?=some y->eqV y k=false)/\Q (.int j) H):=by
 intro pins s σ H x vs v us Q I R L h
 obtain ⟨a,xs,k,j,rfl,rfl,hl,M,fx,⟨y,E,P⟩,B,q⟩:=h
 cases R
 obtain ⟨u,rfl,J⟩:=cW L
 obtain ⟨its,r,⟨o,n,e,D,hd,hs⟩,hz⟩:=I.list hl
 obtain ⟨w,hw,l⟩:=r.get E
 have hlen:=r.length
 have O:j < its.length:=(Fb.mp hw).1
 have C:∀ z∈xs,fK z=true:=List.all_eq_true.mp fx
 have hit:eqU k its.toArray[j]=true:=by
  have e1:its.toArray[j]=w:=by
   have:=(Fb.mp hw).2
   simpa using this
  rw[e1,oX l (C y (Fc E))]
  exact P
 have no:∀ m (hm:m < its.toArray.size),m < j->eqU k its.toArray[m]=false:=λm hm A=>by
  have b:m < xs.length:=by simp at hm;lia
  obtain ⟨N,g,p⟩:=r.get (E6 b)
  have e1:its.toArray[m]=N:=by
   have:=(Fb.mp g).2
   simpa using this
  rw[e1,oX p (C _ (List.getElem_mem _))]
  exact B m _ A (E6 b)
 have G:s.heap.get? a=some { cls:=.type "list",dict:=none,data:=.seq its.toArray n,slots:=o.slots }:=by
  rw[e]
  obtain ⟨c,d,dt,sl⟩:=o
  dsimp only at D hd hs
  subst D hd hs
  rfl
 have t:(j:Int) < 2 ^ 63 - 1:=by
  have:sizeLine < 2 ^ 60:=by decide
  lia
 refine call_meets F.slot_list_index ⟨_,G,rfl⟩ F.entry_list_index (F.args_list_index_2 _ _) (SeqAt.list_indexAt a its.toArray n none o.slots u (eqU k) j (by simpa using O) t hit no) ⟨G,λz f=>lC J M r fx z (by simpa using f),?_⟩
 exact ⟨.int j,H,I.tok _,⟨_,rfl⟩,q⟩
end
end L2
end
section
namespace PyProof.Rows
open PySem
end PyProof.Rows
end
section
namespace L2
open PySem PySem.Spec PyProof.Rows
end L2
end
section
namespace L2
open PySem PySem.Spec PyProof.Rows
end L2
end
section
namespace L2
open PySem PySem.Spec PyProof.Rows
def IsNts (h:Heap) (b:Addr) (n:List Int):Prop:=∃ it:Array Value,IsTup h b it/\IntsAre it.toList n
theorem qo:∀ x:List Int,HT.lexLt x x=false
 | []=>rfl
 | a::x=>by rw[HT.lexLt_cons,if_pos rfl];exact qo x
theorem jK:∀ {x y z:List Int},HT.lexLt x y=true->HT.lexLt y z=true->HT.lexLt x z=true
 | [],[],_,h1,_=>by cases h1
 | [],_::_,[],_,h2=>by cases h2
 | [],_::_,_::_,_,_=>rfl
 | _::_,[],_,h1,_=>by cases h1
 | _::_,_::_,[],_,h2=>by cases h2
 | a::x,b::y,c::z,h1,h2=>by
  rw[HT.lexLt_cons] at *
  by_cases e1:a=b
  ·rw[if_pos e1] at h1
   by_cases d:b=c
   ·rw[if_pos d] at h2
    rw[if_pos (e1.trans d)];exact jK h1 h2
   ·rw[if_neg d] at h2
    rw[if_neg (λq=>d (e1.symm.trans q)),e1];exact h2
  ·rw[if_neg e1] at h1
   have e:=of_decide_eq_true h1
   by_cases d:b=c
   ·rw[if_neg (λq=>e1 (q.trans d.symm)),<- d];exact h1
   ·rw[if_neg d] at h2
    have f:=of_decide_eq_true h2
    rw[if_neg (by lia)];exact Fo (by lia)
theorem tX:∀ {x y:List Int},HT.lexLt x y=false->HT.lexLt y x=false->x=y
 | [],[],_,_=>rfl
 | [],_::_,h,_=>by cases h
 | _::_,[],_,h=>by cases h
 | a::x,b::y,h1,h2=>by
  rw[HT.lexLt_cons] at *
  by_cases e:a=b
  ·rw[if_pos e] at h1
   rw[if_pos e.symm] at h2
   rw[e,tX h1 h2]
  ·rw[if_neg e] at h1
   rw[if_neg (Ne.symm e)] at h2
   have:=of_decide_eq_false h1
   have:=of_decide_eq_false h2
   lia
end L2
end
section
namespace L2
open PySem PySem.Spec PyProof.Rows
abbrev aV (f:Bool):SortKind:=(sortPriv% PySem.Builtin.KeyKind.tuples) f
section
variable {prog:Program} {w:World} {A:Around} {E:Value->Shared->Prop} {s:Shared}
theorem rH (f:Bool) {a b:Int} (h:Q (decide (a < b)) s):wpAny (model prog w) A (oneLt' f (.int a t) (.int b u)) Q E s:=by
 cases f with
 | true=>exact oneLt_int h
 | false =>
  rw[oneLt'_eq]
  simp only[FA,if_false]
  refine ET (HT.rcLt_int A s a t b u prog w E _ ?_)
  exact FF h
set_option tactic.hygienic true in
theorem m4 (f:Bool) (n m:Nat) {k:Option Bool×Unit->Sem Bool} (j:∀ p q i c,g ((p,q),i) c=(do
          let b <- eqBool p q
          if (!b)=true then do
            let r <- oneLt' (f && i == 0) p q
            pure (ForInStep.done (some r,()))
          else pure (ForInStep.yield (none,())))) (h:∀ b,k (some b,())=pure b) (d:k (none,())=pure (decide (n < m))):∀ (vs ws:List Value) (ns ms:List Int) (i:Nat),IntsAre vs ns->IntsAre ws ms->ns.length+m=ms.length+n->Q (HT.lexLt ns ms) s ->
    wpAny (model prog w) A (forIn ((vs.zip ws).zipIdx i) ((none,()):Option Bool×Unit) g) (λr s'=>wpAny (model prog w) A (k r) Q E s') E s
  | [],ws,ns,ms,i,h1,h2,hl,q=>by
    cases h1
    have e:HT.lexLt [] ms=decide (n < m):=by
      cases ms with
      | nil=>simp at hl;rw[HT.lexLt_nil_nil];exact (Fp (by lia)).symm
      | cons a ms=>simp at hl;rw[HT.lexLt_nil_cons];exact (Fo (by lia)).symm
    rw[e] at q
    rw[List.zip_nil_left]
    simp only[List.zipIdx_nil,List.forIn_nil]
    refine EU ?_
    rw[d]
    exact EU q
  | v::vs,[],ns,ms,i,h1,h2,hl,q=>by
    cases h2
    cases h1 with
    | cons a t h1 =>
    rename_i ns
    have e:HT.lexLt (a::ns) []=decide (n < m):=by
      simp at hl;rw[HT.lexLt_cons_nil];exact (Fp (by lia)).symm
    rw[e] at q
    rw[List.zip_nil_right]
    simp only[List.zipIdx_nil,List.forIn_nil]
    refine EU ?_
    rw[d]
    exact EU q
  | v::vs,u::ws,ns,ms,i,h1,h2,hl,q=>by
    cases h1 with
    | cons a t h1 =>
    cases h2 with
    | cons b t2 h2 =>
    rename_i ns ms
    rw[List.zip_cons_cons,List.zipIdx_cons,List.forIn_cons,j]
    rw[HT.lexLt_cons] at q
    refine ET (ET ((intKind prog w).eqBool (a:=a) (b:=b) (by simp[intKind,Value.isInt]) (by simp[intKind,Value.isInt]) ?_))
    by_cases e:a=b
    · rw[if_pos e] at q
      rw[Fo e]
      simp only[Bool.not_true,FA,if_false]
      refine EU ?_
      exact m4 f n m j h d vs ws ns ms (i+1) h1 h2 (by simp at hl;lia) q
    · rw[if_neg e] at q
      rw[Fp e]
      simp only[Bool.not_false,if_true]
      refine ET (rH _ (EU (EU ?_)))
      rw[h]
      exact EU q
theorem vB (l:IsNts s.heap a x) (i:IsNts s.heap b y) (h:Q (HT.lexLt x y) s):wpAny (model prog w) A (keyLt' (aV f) (.ref a) (.ref b)) Q E s:=by
 obtain ⟨d,⟨p,e1,c1,o,d1⟩,e⟩:=l
 obtain ⟨c,⟨r,m,c2,q,j⟩,g⟩:=i
 refine ET (listItems_at e1 d1 ?_)
 refine ET (listItems_at m j ?_)
 refine ET ?_
 have k:x.length=d.size:=by rw[<- e.length];simp
 have n:y.length=c.size:=by rw[<- g.length];simp
 exact m4 f d.size c.size (λ_ _ _ _=>rfl) (λ_=>rfl) rfl d.toList c.toList x y 0 e g (by lia) h
end
end L2
end
section
namespace L2
open PySem PySem.Spec PyProof.Rows
end L2
end
section
namespace L2
open PySem PySem.Spec PyProof.Rows
section
variable {prog:Program} {w:World} {A:Around} {E:Value->Shared->Prop} {s:Shared}
theorem rY (v:Value):firstOfTuple' v=(do
  if (<- typeOf v) != .type "tuple" then return none
  return (<- Builtin.List.listItems v)[0]?):=rfl
theorem nB (a:IsNts s.heap b n) (h0:n≠[]) (h:∀ i t,Q (some (.int i t)) s):wpAny (model prog w) A (firstOfTuple' (.ref b)) Q E s:=by
 obtain ⟨it,⟨o,e,c,k,d⟩,j⟩:=a
 rw[rY]
 refine ET (wpAny_typeOf (T:="tuple") ⟨o,e,c⟩ ?_)
 rw[if_neg (by decide)]
 refine ET (listItems_at e d ?_)
 cases hl:it.toList with
 | nil=>rw[hl] at j;cases j;exact absurd rfl h0
 | cons v vs =>
  rw[hl] at j
  cases j with
  | cons i t j =>
   have:it[0]?=some (.int i t):=by rw[<- Array.getElem?_toList,hl];rfl
   rw[this]
   exact EU (h i t)
theorem lR:∀ (bs:List Addr),(∀ b∈bs,∃ n,n≠[]/\IsNts s.heap b n)->(∀ (vs:List Value) (ns:List Int),IntsAre vs ns->vs.length=bs.length->Q (vs.map some) s) ->
  wpAny (model prog w) A ((bs.map Value.ref).mapM firstOfTuple') Q E s
 | [],_,q=>by
  simp only[List.map_nil,List.mapM_nil]
  exact EU (q [] [] .nil rfl)
 | b::bs,h,q=>by
  rw[Fm,List.mapM_cons]
  obtain ⟨n,h0,a⟩:=h b EW
  refine ET (nB a h0 λi t=>?_)
  refine ET (lR bs (λc d=>h c (EY _ d)) λvs ns hi hl=>?_)
  exact EU (q (.int i t::vs) (i::ns) (.cons i t hi) (by simp[hl]))
theorem yA (h2:bs≠[]) (c:∀ b∈bs,∃ n,n≠[]/\IsNts s.heap b n) (h:Q (aV true) s):wpAny (model prog w) A (keyKind' (bs.map Value.ref).toArray) Q E s:=by
 rw[keyKind'_eq,List.mapM_toArray]
 refine ET ?_
 rw[map_eq_pure_bind]
 refine ET (lR bs c λvs ns hi hl=>EU ?_)
 have d:(vs.map some).toArray.all (·.isSome)=true:=by simp
 rw[if_pos d]
 refine ET (wpAny_rule ?_)
 have hf:(vs.map some).toArray.filterMap id=vs.toArray:=by simp
 rw[hf,oneTypeOnly'_eq,List.mapM_toArray,mapM_typeOf_ints hi]
 simp only[map_pure,pure_bind]
 cases vs with
 | nil=>exact absurd (List.length_eq_zero_iff.mp hl.symm) h2
 | cons v vs =>
  have a:((List.map (λ_=>Value.type "int") (v::vs)).toArray.all λx=>x == Value.type "int")=true:=by
   simp only[List.all_toArray,List.all_map,List.all_eq_true]
   intro _ _
   rfl
  have h0:(List.map (λ_=>Value.type "int") (v::vs)).toArray[0]?=some (Value.type "int"):=by simp
  rw[h0]
  simp only[a,if_true,pure_bind,Option.any_some]
  exact EU h
end
end L2
end
section
namespace L2
open PySem PySem.Spec PyProof.Rows
theorem IsNts.at (x:IsNts h b n) (e:∀ o,h.get? b=some o->h'.get? b=some o):IsNts h' b n:=by
 obtain ⟨it,⟨o,e1,r⟩,j⟩:=x
 exact ⟨it,⟨o,e o e1,r⟩,j⟩
structure NRow (h:Heap) (bs:List Addr) (ns:List (List Int)):Prop where
 len:ns.length=bs.length
 at':∀ (i:Nat) (b:Addr) (n:List Int),bs[i]?=some b->ns[i]?=some n->IsNts h b n/\n≠[]
 asc:∀ (i:Nat) (x y:List Int),ns[i]?=some y->ns[i+1]?=some x->HT.lexLt x y=false
theorem NRow.keep (r:NRow h bs ns) (k:∀ b∈bs,∀ o,h.get? b=some o->h'.get? b=some o):NRow h' bs ns :=
 ⟨r.len,λi b n e1 a=>⟨(r.at' i b n e1 a).1.at (k b (Fc e1)),(r.at' i b n e1 a).2⟩,r.asc⟩
end L2
end
section
namespace L2
open PySem PySem.Spec PyProof.Rows
end L2
end
section
namespace L2
open PySem PySem.Spec PyProof.Rows
end L2
end
section
namespace L2
open PySem PySem.Spec PyProof.Rows
theorem iY:∀ bs:List Addr,Vals (bs.map V.ref) (bs.map Value.ref)
 | []=>.nil
 | _::bs=>.cons rfl (iY bs)
end L2
end
section
namespace L2
open PySem
abbrev Up (xs:Array Nat):Prop:=xs.toList.Pairwise (· < ·)
theorem Up.at (h:Up xs) {i k:Nat} (a:i < k) (b:k < xs.size):xs[i]'(by omega) < xs[k]:=by
 have:=List.pairwise_iff_getElem.mp h i k (by simp;lia) (by simpa using b) a
 simpa using this
theorem zt (h:Up xs) (j:Nat):∀ (fuel lo hi:Nat),hi - lo<=fuel->lo<=hi->hi<=xs.size ->
  (∀ i (z:i < xs.size),i < lo->xs[i] < j)->(∀ i (z:i < xs.size),hi<=i->j<=xs[i]) ->
  (∀ i (z:i < xs.size),i < SetTable.below.go xs j fuel lo hi->xs[i] < j)/\(∀ i (z:i < xs.size),SetTable.below.go xs j fuel lo hi<=i->j<=xs[i])/\SetTable.below.go xs j fuel lo hi<=xs.size:=by
 intro fuel
 induction fuel with
 | zero =>
  intro lo hi f l z a b
  have e:lo=hi:=by lia
  subst e
  unfold SetTable.below.go
  exact ⟨a,b,z⟩
 | succ fuel ih =>
  intro lo hi f l z a b
  unfold SetTable.below.go
  by_cases hl:lo < hi
  ·rw[if_pos hl]
   have hm:(lo+hi) / 2 < xs.size:=by lia
   have k:xs.getD ((lo+hi) / 2) j=xs[(lo+hi) / 2]:=by simp[Array.getD,hm]
   dsimp only
   rw[k]
   by_cases c:xs[(lo+hi) / 2] < j
   ·rw[if_pos c]
    refine ih _ _ (by lia) (by lia) z (λi g d=>?_) b
    by_cases e:i=(lo+hi) / 2
    ·subst e;exact c
    ·exact Nat.lt_trans (h.at (show i < (lo+hi) / 2 by lia) hm) c
   ·rw[if_neg c]
    refine ih _ _ (by lia) (by lia) (by lia) a (λi g d=>?_)
    by_cases e:i=(lo+hi) / 2
    ·subst e;lia
    ·have:=h.at (show (lo+hi) / 2 < i by lia) g;lia
  ·rw[if_neg hl]
   have e:lo=hi:=by lia
   subst e
   exact ⟨a,b,z⟩
theorem zr (h:Up xs) (j:Nat):(∀ i (z:i < xs.size),i < SetTable.below xs j->xs[i] < j)/\(∀ i (z:i < xs.size),SetTable.below xs j<=i->j<=xs[i])/\SetTable.below xs j<=xs.size :=
 zt h j xs.size 0 xs.size (by lia) (by lia) (Fg _) (λi z c=>by lia) (λi z c=>by lia)
theorem uE (h:Up xs) {j:Nat} (m:(xs[SetTable.below xs j]? == some j)=false):Up (SetTable.insertAt xs (SetTable.below xs j) j):=by
 obtain ⟨a,b,c⟩:=zr h j
 show (SetTable.insertAt xs (SetTable.below xs j) j).toList.Pairwise _
 rw[SetTable.toList_insertAt]
 generalize SetTable.below xs j=r at *
 have g:∀ x∈xs.toList.take r,x < j:=λx d=>by
  obtain ⟨i,hi,rfl⟩:=List.mem_take_iff_getElem.mp d
  simp at hi
  exact a i (by lia) (by lia)
 have f:∀ x∈xs.toList.drop r,j < x:=λx d=>by
  obtain ⟨i,hi,rfl⟩:=List.mem_drop_iff_getElem.mp d
  simp at hi
  have h1:=b (r+i) (by lia) (by lia)
  have h2:xs[r]'(by lia)≠j:=by
   intro e
   rw[Array.getElem?_eq_getElem (by lia),e] at m
   simp at m
  simp only[Array.getElem_toList]
  rcases Nat.eq_zero_or_pos i with e | e
  ·subst e
   simp only[Nat.add_zero] at h1 ⊢
   lia
  ·have h3:=h.at (show r < r+i by lia) (by lia)
   have n:=b r (by lia) (Fg _)
   lia
 have k:(xs.toList.take r++xs.toList.drop r).Pairwise (· < ·):=by rw[List.take_append_drop];exact h
 rw[List.pairwise_append] at k ⊢
 refine ⟨k.1,List.pairwise_cons.mpr ⟨f,k.2.1⟩,λx d y l=>?_⟩
 rcases E5.mp l with rfl | l
 ·exact g x d
 ·exact Nat.lt_trans (g x d) (f y l)
theorem uO {t:SetTable} {j:Nat} (h:∀ i,t.slot j≠.live i):(t.place[SetTable.below t.place j]? == some j)=false:=by
 cases e:(t.place[SetTable.below t.place j]? == some j) with
 | false=>rfl
 | true =>
  refine absurd ?_ (h (SetTable.below t.place j))
  unfold SetTable.slot
  simp only[e,if_true]
set_option tactic.hygienic true in
theorem xI {h:Int} {j:Nat}:∀ (n:Nat) (p:SetTable.Probe),(∀ x,p.dummy=some x->∀ i,t.slot x≠.live i) ->
  SetTable.probe.go t f h n p=some (.empty j d)->∀ i,t.slot (d.getD j)≠.live i:=by
 intro n
 induction n with
 | zero=>intro p _ e;simp[SetTable.probe.go] at e
 | succ n ih =>
  intro p g e
  have a:∀ q:SetTable.Probe,(t.advance q).dummy=q.dummy:=λq=>by unfold SetTable.advance;split <;> rfl
  unfold SetTable.probe.go at e
  split at e
  ·rename_i hs
   simp only[Option.some.injEq,SetTable.Met.empty.injEq] at e
   obtain ⟨e1,c⟩:=e
   cases hd:p.dummy with
   | none=>rw[<- c,hd,Option.getD_none,<- e1,hs];exact λi z=>by cases z
   | some x=>rw[<- c,hd,Option.getD_some];exact g x hd
  ·rename_i hs
   refine ih _ (λx b=>?_) e
   rw[a] at b
   simp only[Option.some.injEq] at b
   rw[<- b,hs]
   exact λi z=>by cases z
  ·split at e
   ·simp at e
   ·exact ih _ (λx b=>g x (by rw[<- b,a])) e
set_option tactic.hygienic true in
theorem vI {t:SetTable} {h:Int} {j:Nat} (e:t.freeSlot h=some (j,b)):∀ i,t.slot j≠.live i:=by
 unfold SetTable.freeSlot at e
 split at e
 ·rename_i f d c
  simp only[Option.some.injEq,Prod.mk.injEq] at e
  rw[<- e.1]
  exact xI _ _ (λx a=>by simp[SetTable.probeStart] at a) c
 ·cases e
structure Tab (b:Bool) (t:SetTable):Prop where
 up:Up t.place
 led:t.led=b
theorem wv (n:Nat):Up (Array.range n):=by
 show (Array.range n).toList.Pairwise _
 rw[Array.toList_range]
 exact List.pairwise_lt_range
theorem Tab.stand (h:Tab b t) (n:Nat):Tab b (t.standIn n):=⟨wv n,h.led⟩
theorem Tab.or (h:Tab b t) (n:Nat):Tab b (t.orStandIn n):=by
 unfold SetTable.orStandIn
 split
 ·exact h
 ·exact h.stand n
set_option tactic.hygienic true in
theorem Tab.new (h:Tab b t) (es:Array (Int×Value)) (k:Int) (x:Value):Tab b (layNew t es k x).2.1:=by
 unfold layNew
 split
 ·rename_i j d e
  have z:Tab b (t.put j).1:=⟨uE h.up (uO (vI e)),h.led⟩
  exact z.or _
 ·exact h.stand _
set_option tactic.hygienic true in
theorem Tab.all (h:Tab b t) (es:Array (Int×Value)) (n:Nat):Tab b (relayAll t es n).2.1:=by
 unfold relayAll
 split
 ·rename_i t' order e
  dsimp only
  split
  ·unfold SetTable.relaid SetTable.laid at e
   simp only[Option.bind_eq_bind,Fy,Option.pure_def,Option.some.injEq,Prod.mk.injEq] at e
   obtain ⟨k,_,e1,_⟩:=e
   subst e1
   refine ⟨?_,h.led⟩
   have aux:∀ (f:Nat->Option Nat) (m:Nat),((List.filterMap (λj=>(f j).map (j,·)) (List.range m)).map (·.1)).Pairwise (· < ·):=λf m=>by
    rw[List.pairwise_map,List.pairwise_filterMap]
    refine List.pairwise_lt_range.imp λ{a c} d x i y g=>?_
    rw[E2] at i g
    obtain ⟨_,_,rfl⟩:=i
    obtain ⟨_,_,rfl⟩:=g
    exact d
   exact aux _ _
  ·exact h.stand _
 ·exact h.stand _
theorem Tab.off (h:Tab b t) (c:Bool):Tab b (if c=true then t else { t with plain:=false }):=by
 cases c
 ·exact ⟨h.up,h.led⟩
 ·exact h
end L2
end
section
namespace L2
open PySem PyProof.Rows
abbrev jm (w:World):Bool:=!w.params.followText "set-order"
def SetL (prog:Program) (w:World) (h:Heap) (a:Addr) (ns:List Int):Prop :=
 ∃ o es b t ms,h.get? a=some o/\o.ExactSet/\o.data=.set es b t/\ElemsOf (intKind prog w) es.toList/\IntsAre (es.toList.map (·.2)) ms/\ms.Perm ns/\es.size < scanBound/\t.fits es.size=true/\Tab (jm w) t
theorem SetL.keep (x:SetL prog w h a ns) (k:∀ o,h.get? a=some o->h'.get? a=some o):SetL prog w h' a ns :=
 let ⟨o,es,b,t,ms,e,r⟩:=x;⟨o,es,b,t,ms,k o e,r⟩
def met (ns:List Int) (k:Int):List Int:=if k∈ns then ns else ns++[k]
theorem eE:∀ {l:List (Int×Value)},ElemsOf (intKind prog w) l->∃ ms,IntsAre (l.map (·.2)) ms
 | [],_=>⟨[],.nil⟩
 | e::l,h=>by
  obtain ⟨ms,hm⟩:=eE h.tail
  obtain ⟨⟨k,a,_⟩,_⟩:=h.head
  obtain ⟨t,b⟩:=Value.isInt_shape a
  refine ⟨k::ms,?_⟩
  rw[Fm,b]
  exact .cons k t hm
theorem nq (p:List.Perm vs ws) (a:IntsAre vs ns) (b:IntsAre ws ms):ns.Perm ms:=by
 rw[<- a.nums,<- b.nums]
 exact p.map _
section
variable {prog:Program} {w:World} {A:Around} {E:Value->Shared->Prop} {s:Shared}
theorem vJ {l:List (Int×Value)} {k:Int} (hi:IntsAre (l.map (·.2)) ms):(l.findIdx? (λe=>(intKind prog w).is k e.2)).isSome=true ↔ k∈ms:=by
 induction l generalizing ms with
 | nil=>cases hi;simp
 | cons e l ih =>
  obtain ⟨h0,v⟩:=e
  rw[Fm] at hi
  cases hi with
  | cons n t hr =>
   rw[List.findIdx?_cons]
   by_cases c:k=n
   ·subst c
    rw[if_pos (intKind_is prog w k t)]
    simp
   ·have:(intKind prog w).is k (Value.int n t)=false:=by
     cases z:(intKind prog w).is k (Value.int n t) with
     | false=>rfl
     | true=>exact absurd ((intKind prog w).inj _ _ _ z (intKind_is prog w n t)) c
    rw[this]
    simp only[FA,if_false,Option.isSome_map,E5,c,false_or]
    exact ih hr
theorem wQ {k:Int} (Y:SetL prog w s.heap a ns) (K:ns.length+1 < scanBound) (h:∀ b h',Heap.SameBut a s.heap h'->SetL prog w h' a (met ns k)->Q b { s with heap:=h' }):wpAny (model prog w) A (setAddHashed a (.int k tk) (hashInt k)) Q E s:=by
 obtain ⟨o,es,N,t,ms,B,hex,hd,g,hi,y,T,hf,W⟩:=Y
 have hn:es.size=ns.length:=by rw[<- y.length_eq,<- hi.length,Fa,Array.length_toList]
 have D:=vJ (prog:=prog) (w:=w) (k:=k) hi
 unfold setAddHashed setAddHashedIn
 refine EV (ET (wpAny_setState_of B hd hf ?_))
 dsimp only
 rw[if_pos (byScan_of (x:=.int k tk) rfl T g)]
 refine ET (ET (wpAny_rule (ET (wpAny_setScan_of (knd:=intKind prog w) (intKind_is prog w k tk) B hd hf g ?_))))
 cases V:List.findIdx? (λe=>(intKind prog w).is k e.2) es.toList with
 | some j =>
  rw[V] at D
  have M:k∈ns:=y.mem_iff.mp (D.mp rfl)
  refine EU (EU ?_)
  have:=h false s.heap (Heap.SameBut.refl a s.heap) ⟨o,es,N,t,ms,B,hex,hd,g,hi,by rw[met,if_pos M];exact y,T,hf,W⟩
  exact this
 | none =>
  rw[V] at D
  have M:k ∉ ns:=λz=>by have:=D.mpr (y.mem_iff.mpr z);simp at this
  have p:=layNew_perm t es (hashInt k) (.int k tk)
  have f1:=layNew_fits t es (hashInt k) (.int k tk)
  have t1:=W.new es (hashInt k) (.int k tk)
  generalize layNew t es (hashInt k) (.int k tk)=L at p f1 t1 ⊢
  obtain ⟨d,u,X,U⟩:=L
  dsimp only at p f1 t1 ⊢
  rw[Array.toList_push] at p
  have n:ElemsOf (intKind prog w) d.toList:=(g.push (intKind_is prog w k tk) rfl).perm p
  obtain ⟨I,R⟩:=eE n
  have b1:d.size=es.size+1:=by have:=p.length_eq;simpa using this
  have q1:I.Perm (met ns k):=by
   have i0:IntsAre ((es.toList++[(hashInt k,Value.int k tk)]).map (·.2)) (ms++[k]):=by
    rw[List.map_append]
    exact hi.append (.cons k tk .nil)
   rw[met,if_neg M]
   exact (nq (p.map _) R i0).trans (y.append_right [k])
  have done:∀ (h1:Heap) (i:Obj) (f:Array (Int×Value)) (m:Nat) (l:SetTable),h1.get? a=some i->i.ExactSet->i.data=.set f m l->f.toList.Perm d.toList->l.fits f.size=true->Tab (jm w) l->Heap.SameBut a s.heap h1->Q true { s with heap:=h1 }:=by
   intro h1 i f m l g1 g2 g3 C Z g6 g7
   obtain ⟨O,S⟩:=eE (n.perm C)
   exact h true h1 g7 ⟨i,f,m,l,O,g1,g2,g3,n.perm C,S,(nq (C.map _) S R).trans q1,by have:=C.length_eq;simp at this;lia,Z,g6⟩
  have P:∀ (b:Bool) {J:Shared} {G:Unit->Shared->Prop},G () J->wpAny (model prog w) A (match b with | true=>rule "set.scan.the-table-gave-way" | false=>pure ()) G E J:=λb J G q=>by
   cases b
   ·exact EU q
   ·exact wpAny_rule q
  have two:∀ (c:Bool),wpAny (model prog w) A (do
    storeSet a d (if c=true then u else { u with plain:=false })
    if (!X && (if c=true then u else { u with plain:=false }).tooFull)=true then do
     let r:=relayAll (if c=true then u else { u with plain:=false }) d (SetTable.grown d.size)
     (match r.2.2 with | true=>rule "set.scan.the-table-gave-way" | false=>pure ())
     storeSet a r.1 r.2.1
     pure (some true)
    else pure (some true)) (λr s'=>r=some true/\Q true s') E s:=by
   intro c
   have l:=t1.off c
   have f2:(if c=true then u else { u with plain:=false }).fits d.size=true:=by cases c <;> exact f1
   generalize (if c=true then u else { u with plain:=false })=v at l f2 ⊢
   refine ET (wpAny_storeSet_of (hz:=fits_of_scanBound (by lia)) B hd ?_)
   have i:(s.heap.update a (Obj.putSet d v)).get? a=some { o with data:=.set d (N+1) v }:=by
    have:=Fs (Obj.putSet d v) B (by rw[putSet_of d v hd];rfl)
    rw[putSet_of d v hd] at this
    exact this
   split
   ·have F:=relayAll_perm v d (SetTable.grown d.size)
    have H:=relayAll_fits v d (SetTable.grown d.size)
    have t3:=l.all d (SetTable.grown d.size)
    generalize relayAll v d (SetTable.grown d.size)=r at F H t3 ⊢
    obtain ⟨f,v2,g2⟩:=r
    dsimp only at F H t3 ⊢
    have b3:f.size=d.size:=by have:=F.length_eq;simpa using this
    refine ET (P _ (ET (wpAny_storeSet_of (hz:=fits_of_scanBound (by lia)) i rfl (EU ⟨rfl,?_⟩))))
    have o2:((s.heap.update a (Obj.putSet d v)).update a (Obj.putSet f v2)).get? a=some { o with data:=.set f (N+1+1) v2 }:=by
     have:=Fs (Obj.putSet f v2) i (by rw[putSet_of f v2 rfl];rfl)
     rw[putSet_of f v2 rfl] at this
     exact this
    exact done _ _ f _ v2 o2 hex rfl F H t3 ((Heap.SameBut.update _ a _).trans (Heap.SameBut.update _ a _))
   ·refine EU ⟨rfl,?_⟩
    exact done _ _ d _ v i hex rfl (List.Perm.refl _) f2 l (Heap.SameBut.update _ a _)
  have fin:∀ (r:Option Bool) (s':Shared) {x:Sem Bool},r=some true/\Q true s'->wpAny (model prog w) A (match r with | some b=>pure b | none=>x) Q E s':=λr s' x z=>by
   obtain ⟨rfl,q⟩:=z
   exact EU q
  refine ET (P _ ?_)
  split
  ·refine ET (wpAny_of_eq (a:=true) rfl ?_)
   exact wpAny_mono (two true) (λr s' z=>fin r s' z) λ_ _ z=>z
  ·refine ET (EU ?_)
   exact wpAny_mono (two true) (λr s' z=>fin r s' z) λ_ _ z=>z
end
end L2
end
section
namespace L2
open PySem PyProof.Rows
theorem tR (ns:List Int) (k:Int):(met ns k).length<=ns.length+1:=by
 unfold met
 split <;> simp
theorem qa:∀ (c ns:List Int),(c.foldl met ns).length<=ns.length+c.length
 | [],ns=>Fg _
 | k::c,ns=>by
  have a:=qa c (met ns k)
  have b:=tR ns k
  simp only[List.foldl_cons,Fu]
  lia
section
variable {prog:Program} {w:World} {A:Around} {E:Value->Shared->Prop}
variable {s:Shared}
theorem A0 (h:∀ o,o=({ cls:=.type "set",dict:=none,data:=.set #[] 0 (.fresh 0 0 (jm w)) }:Obj)->Q (.ref s.heap.objs.size) { s with heap:=s.heap.push o }) :
  codeAny (model prog w) A (.call (.builtin "set.__new__") ⟨[.type "set",a],[]⟩) (wants Q E) s:=by
 refine codeAny_of_tree ?_
 refine ET (wpAny_of_eq (F.newCall_set_1 a) (EU ⟨plainId_quiet F.plain_set_new _,codeAny_builtin F.entry_set_new ?_⟩))
 rw[Around.under_plainId F.plain_set_new _]
 have sub:=sub_set_self
 obtain ⟨b,g,d,tk,os⟩:=s
 wp_walk
 refine wpAny_askSetting ?_
 wp_walk
 exact h _ rfl
end
end L2
end
section
namespace L2
open PySem PyProof.Rows
def SIt (w:World) (h:Heap) (I a:Addr) (es:Array (Int×Value)) (b:Nat) (t:SetTable) (ord:List Value) (i:Nat):Prop :=
  ∃ first,h.get? I=some { cls:=.type "set_iterator",dict:=none,data:=.fields #[first,rawInt i,.ref a,rawInt es.size,rawInt b],slots:=#[] } /\
    ((w.params.followText "set-order"=true /\ first=rawInt 0 /\ ord=(pickOrder (w.params.setOrder a b) es).toList.map (·.2)) \/
     (w.params.followText "set-order"=false /\ (!t.plain && es.size > 1)=false /\ (∃ k:Nat,first=rawInt k /\ SetTable.below t.place k=i) /\ ord=es.toList.map (·.2)) \/
     (∃ (T:Addr) (ps:List Nat),first=.ref T /\ T≠I /\ h.get? T=some { cls:=.type "tuple",data:=.seq (ps.map λ(p:Nat)=>rawInt p).toArray } /\ ps.Perm (List.range es.size) /\ ord=ps.filterMap λp=>es[p]?.map (·.2)))
structure SAt (w:World) (h:Heap) (a:Addr) (es:Array (Int×Value)) (ep:Nat) (t:SetTable):Prop where
 at':∃ o,h.get? a=some o/\o.data=.set es ep t
 fits:t.fits es.size=true
 tab:Tab (jm w) t
end L2
end
section
namespace L2
open PySem PyProof.Rows
section
variable {prog:Program} {w:World} {A:Around} {E:Value->Shared->Prop} {s:Shared}
theorem SAt.keep {b:Nat} (x:SAt w h a es b t) (k:∀ o,h.get? a=some o->h'.get? a=some o):SAt w h' a es b t :=
 let ⟨⟨o,e,d⟩,f,t⟩:=x;⟨⟨o,k o e,d⟩,f,t⟩
theorem SIt.keep {c:Nat} {i:Nat} (x:SIt w h I a es c t ord i) (n:I≠S) (e:∀ T ps,h.get? T=some { cls:=.type "tuple",data:=.seq ps }->T≠S) (k:∀ b o,b≠S->h.get? b=some o->h'.get? b=some o):SIt w h' I a es c t ord i:=by
 obtain ⟨f,g,m⟩:=x
 refine ⟨f,k _ _ n g,?_⟩
 rcases m with m | m | ⟨T,ps,e1,l,d,j⟩
 ·exact .inl m
 ·exact .inr (.inl m)
 ·exact .inr (.inr ⟨T,ps,e1,l,k _ _ (e _ _ d) d,j⟩)
end
end L2
end
section
namespace L2
open PySem PySem.Spec PyProof.Rows
section
variable {X:Cx}
abbrev CS (X:Cx) (p:Addr) (ns:List Int):HO:=.ext λh=>SetL X.prog X.w h p ns
end
end L2
end
section
namespace L2
open PySem PySem.Spec PyProof.Rows
section
variable {X:Cx}
theorem pW (h:wpAny (model prog w) A (eval k env) (λx s1=>wpAny (model prog w) A (eval v env) (λy s2=>wpAny (model prog w) A (dictSet s.heap.objs.size x y) (λ_ s3=>Q (.ref s.heap.objs.size) s3) E s2) E s1) E { s with heap:=s.heap.push { cls:=.type "dict",data:=.dict #[] } }) :
  wpAny (model prog w) A (eval (.Dict [some k] [v] pos) env) Q E s:=by
 rw[arm_eval_Dict]
 refine ET (wpAny_standAt ?_)
 have e:=dictDisplay_pairs [(eval k env,(do let x <- eval v env;standAt pos;pure x:Sem Value))] (by simp) (by simp)
 refine (show wpAny (model prog w) A (dictDisplay ([(eval k env,(do let x <- eval v env;standAt pos;pure x:Sem Value))].map λp=>(some p.1,p.2))) Q E s from ?_)
 rw[e]
 refine ET ?_
 unfold subDict
 refine ET (wpAny_alloc (ET (EV ?_)))
 rw[if_pos (by simp)]
 refine ET ?_
 unfold evalPairs
 refine ET (wpAny_mono h (λx s1 h1=>?_) λ_ _ z=>z)
 refine ET (EV (ET (wpAny_mono h1 (λy s2 h2=>?_) λ_ _ z=>z)))
 refine ET (wpAny_standAt (EU ?_))
 refine ET (EV (EU (EU (EV ?_))))
 simp only[List.forIn_cons,List.forIn_nil]
 refine ET (ET (ET (wpAny_mono h2 (λ_ s3 h3=>?_) λ_ _ z=>z)))
 exact EU (EU (EU (EU (EU h3))))
def tD1K (k:Key) (v:V):TE:=λ_ H Q=>∀ p,H p=none->Q (.ref p) (upd (upd H p (.dK [])) p (.dK [(k,v)]))
theorem DE (j:PE X k (tC (kV key))) (h:PE X v (tC d)):PE X (.Dict [some k] [v] pos) (tD1K key d):=by
 intro pins s σ H Q I q
 have t:=I.hok.fresh (Fg s.heap.objs.size)
 have i:=I.laid (a:=s.heap.objs.size) (o:=.dK []) (h':=s.heap.push { cls:=.type "dict",data:=.dict #[] }) (t':=s.toks) (λ_ _ q=>EZ _ q) (Fg _) (za s.heap I.big)
 refine pW (thn (j pins _ σ _ (λx H2=>x=kV key/\H2=upd H s.heap.objs.size (.dK [])) i ⟨rfl,rfl⟩) λx s1 ⟨u,H1,p,m,e1,f⟩=>thn (h pins s1 σ H1 (λy H2=>y=d/\H2=upd H s.heap.objs.size (.dK [])) p ⟨rfl,f⟩) λy s2 ⟨e,H2,c,r,l,g⟩=>?_)
 subst e1 f l g
 obtain ⟨z,hd,vs,rel,dd⟩:=r9 c.hok (.inl aA)
 cases rel
 refine gq (hsz:=Nat.zero_le _) (t4 m) dd λh' b hs=>?_
 have he:∃ q,h'.get? s.heap.objs.size=some q:=let ⟨q,_,_,n,_⟩:=b;⟨q,n⟩
 have hz:[(key,e)].length<=sizeLine:=(by decide:1<=sizeLine)
 exact ⟨.ref s.heap.objs.size,_,kN c (by rw[aA];exact True.intro) hs he (y9 (kvs:=[(key,e)]) hz hd (KV.put (kvs:=[]) .nil key r) b),rfl,q _ t⟩
def tD1T (ns:List Int) (v:V):TE:=λ_ H Q=>∀ p,H p=none->∀ b,upd H p (.dT []) b=none->Q (.ref p) (upd (upd (upd H p (.dT [])) b (.tup (ns.map V.int))) p (.dT [(ns.map Sum.inl,v)]))
theorem DD {x1:Nat} (hu:X.A.units+1 < cLine) (h0:ns≠[]) (hz:ns.length<=100) (u:es.map wm=ns.map some) (r:PE X v (tC d)):PE X (.Dict [some (.Tuple es x1 pos')] [v] pos) (tD1T ns d):=by
 intro pins s σ H Q I q
 have K:=I.hok.fresh (Fg s.heap.objs.size)
 have t:=I.laid (a:=s.heap.objs.size) (o:=.dT []) (h':=s.heap.push { cls:=.type "dict",data:=.dict #[] }) (t':=s.toks) (λ_ _ q=>EZ _ q) (Fg _) (y7 s.heap I.big)
 have n:=xL (X:=X) (x1:=x1) (pos:=pos') (tL ns u)
 have len:(ns.map V.int).length<=sizeLine:=by rw[Fa,sizeLine_eq];omega
 refine pW (thn (n pins _ σ _ (λx H2=>∃ b,x=.ref b/\upd H s.heap.objs.size (.dT []) b=none/\H2=upd (upd H s.heap.objs.size (.dT [])) b (.tup (ns.map V.int))) t ⟨len,λb e=>⟨b,rfl,e,rfl⟩⟩) λx s1 ⟨M,H1,E,D,b,e1,e,G⟩=>thn (r pins s1 σ H1 (λy H2=>y=d/\H2=H1) E ⟨rfl,rfl⟩) λy s2 ⟨F,H2,f,J,B,p⟩=>?_)
 subst e1 G B p
 have nb:b≠s.heap.objs.size:=λz=>by rw[z,aA] at e;cases e
 cases (show x=Value.ref b from D)
 have i:upd (upd H s.heap.objs.size (.dT [])) b (.tup (ns.map V.int)) s.heap.objs.size=some (.dT []):=by rw[ak (Ne.symm nb),aA]
 have hb2:upd (upd H s.heap.objs.size (.dT [])) b (.tup (ns.map V.int)) b=some (.tup ((ns.map Sum.inl).map kV)):=by rw[aA,FJ];rfl
 obtain ⟨z,hd,xs,rel,dd⟩:=r0 f.hok (.inl i)
 cases rel
 refine iD (hsz:=Nat.zero_le _) (show (tupleKind (bE X.prog X.w)).room X.A from Nat.lt_of_succ_lt hu) (oQ f.hok hb2) dd λh' g hs=>?_
 obtain ⟨k,h,j,m,h2,h3,C,_,L⟩:=g
 refine ⟨.ref s.heap.objs.size,_,kN (ob:=.dT [(ns.map Sum.inl,F)]) f (by rw[i];exact True.intro) hs ⟨k,m⟩ ⟨(by decide:1<=sizeLine),hd,_,(KT.put (kvs:=[]) .nil (ns.map Sum.inl) hb2 J).keeps λc ys l=>?_,k,h,j,m,h2,h3,C,L⟩,rfl,q _ K b e⟩
 rw[ak (B4 l i (λz=>nomatch z))]
 exact l
end
end L2
end
section
namespace L2
open PySem PySem.Spec PyProof.Rows
def qR (l:Array Value):Obj:=seqObj "tuple" l 0
def ev (cmp:Nat->Nat->Option Bool) {α:Type} (m:Sem α):Option Addr->Option (α×Option Addr):=by
 induction m with
 | pure a=>exact λp=>some (a,p)
 | rule _ k ih=>exact ih ()
 | load b _ k ih=>exact λp=>match p with
  | none=>ih (qR #[]) (some b)
  | some a=>match cmp a b with
   | some true=>ih (qR #[Value.none]) none
   | some false=>ih (qR #[]) none
   | none=>none
 | _=>exact λ_=>none
theorem ug (m:Sem α) (f:α->Sem β):∀ p,ev cmp (m.bind f) p=(ev cmp m p).bind λr=>ev cmp (f r.1) r.2:=by
 induction m with
 | pure a=>exact λp=>rfl
 | rule _ k ih=>exact ih ()
 | load b _ k ih =>
  intro p
  cases p with
  | none=>exact ih _ _
  | some a =>
   show (match cmp a b with
    | some true=>ev cmp ((k (qR #[Value.none])).bind f) none
    | some false=>ev cmp ((k (qR #[])).bind f) none
    | none=>none)=Option.bind (match cmp a b with
    | some true=>ev cmp (k (qR #[Value.none])) none
    | some false=>ev cmp (k (qR #[])) none
    | none=>none) _
   grind
 | _=>exact λ_=>rfl
def rJ (k:SortKind):Prop:=k=aV true\/k=oneType'
structure Fol (φ:Keyed->Keyed) (st ps:SortSt):Prop where
 kind:rJ (kindOf st)
 kind':kindOf ps=aV true
 arr:arrOf st=(arrOf ps).map φ
 pend:pendingOf st=pendingOf ps
 mg:gallopOf st=gallopOf ps
 fail:failedOf st=none
 fail':failedOf ps=none
class EqRl (α:Type) where
instance:EqRl Nat:=⟨⟩
instance:EqRl Bool:=⟨⟩
instance:EqRl PUnit:=⟨⟩
instance {α:Type} [EqRl α]:EqRl (Option α):=⟨⟩
instance {α:Type} [EqRl α]:EqRl (Array α):=⟨⟩
instance {α β:Type} [EqRl α] [EqRl β]:EqRl (α×β):=⟨⟩
instance {α:Type} [EqRl α]:EqRl (ForInStep α):=⟨⟩
class Rl (φ:Keyed->Keyed) (α:Type) where
 rel:α->α->Prop
variable {φ:Keyed->Keyed}
instance rlO {α:Type} [Rl φ α]:Rl φ (Option α):=⟨λx y=>match x,y with | none,none=>True | some a,some b=>Rl.rel φ a b | _,_=>False⟩
instance rlP {α β:Type} [Rl φ α] [Rl φ β]:Rl φ (α×β):=⟨λx y=>Rl.rel φ x.1 y.1/\Rl.rel φ x.2 y.2⟩
instance rlF {α:Type} [Rl φ α]:Rl φ (ForInStep α):=⟨λx y=>match x,y with | .done a,.done b=>Rl.rel φ a b | .yield a,.yield b=>Rl.rel φ a b | _,_=>False⟩
instance rlK:Rl φ Keyed:=⟨λp i=>p=φ i⟩
instance rlA:Rl φ (Array Keyed):=⟨λp i=>p=i.map φ⟩
instance rlS:Rl φ SortSt:=⟨Fol φ⟩
instance (priority:=high) rlE {α:Type} [EqRl α]:Rl φ α:=⟨Eq⟩
section
variable {prog:Program} {w:World} {A:Around} {E:Value->Shared->Prop} {s:Shared} {cmp:Nat->Nat->Option Bool} {α β:Type}
def Sim (prog:Program) (w:World) (A:Around) (E:Value->Shared->Prop) (s:Shared) (φ:Keyed->Keyed) (cmp:Nat->Nat->Option Bool) {α:Type} [Rl φ α] (m p:StateT SortSt Sem α):Prop :=
 ∀ st ps b d q,Fol φ st ps->ev cmp (p.run ps) none=some ((b,d),q)->∃ a c,Rl.rel φ a b/\Fol φ c d/\q=none/\∀ Q:α->SortSt->Prop,Q a c->wpS (model prog w) A E s m Q st
theorem aK [Rl φ α] {a b:α} (h:Rl.rel φ a b):Sim prog w A E s φ cmp (pure a) (pure b):=by
 intro st ps d c g f e
 cases e
 exact ⟨a,st,h,f,rfl,λQ q=>wpS_pure q⟩
theorem cj [Rl φ α] [Rl φ β] {m p:StateT SortSt Sem α} {f g:α->StateT SortSt Sem β} (h:Sim prog w A E s φ cmp m p) (k:∀ a b,Rl.rel φ a b->Sim prog w A E s φ cmp (f a) (g b)):Sim prog w A E s φ cmp (m >>= f) (p >>= g):=by
 intro st ps o i t u e
 have e:ev cmp ((p.run ps).bind λx=>(g x.1).run x.2) none=some ((o,i),t):=e
 rw[ug] at e
 obtain ⟨⟨⟨b,d⟩,y⟩,e1,z⟩:=Fy.mp e
 obtain ⟨a,st1,r,j,rfl,h1⟩:=h st ps b d y u e1
 obtain ⟨c,n,v,l,rfl,h2⟩:=k a b r st1 d o i t j z
 exact ⟨c,n,v,l,rfl,λQ q=>wpS_bind (h1 _ (h2 Q q))⟩
theorem aC [EqRl α] [Rl φ β] {f g:α->StateT SortSt Sem β} (h:Sim prog w A E s φ cmp m p) (k:∀ a,Sim prog w A E s φ cmp (f a) (g a)):Sim prog w A E s φ cmp (m >>= f) (p >>= g) :=
 cj h λa b (r:a=b)=>r ▸ k a
theorem bp [EqRl α] [Rl φ β] {f g:Option α->StateT SortSt Sem β} (h:Sim prog w A E s φ cmp m p) (c:Sim prog w A E s φ cmp (f none) (g none)) (d:∀ a,Sim prog w A E s φ cmp (f (some a)) (g (some a))):Sim prog w A E s φ cmp (m >>= f) (p >>= g) :=
 cj h λa b (r:a=b)=>r ▸ (match a with | none=>c | some a=>d a)
theorem bu [Rl φ α] [Decidable c] {m n p q:StateT SortSt Sem α} (h1:c->Sim prog w A E s φ cmp m p) (h2:¬ c->Sim prog w A E s φ cmp n q):Sim prog w A E s φ cmp (if c then m else n) (if c then p else q):=by grind
theorem wI [Rl φ α] {m p:StateT SortSt Sem α} (h:∀ ps,ev cmp (p.run ps) none=none):Sim prog w A E s φ cmp m p:=λst ps b a q f e=>by
 rw[h] at e
 cases e
theorem cL [Rl φ α]:Sim prog w A E s φ cmp m (unsupported t:Sem α):=wI λ_=>rfl
theorem j3 [Rl φ α] (h:∀ i x y,Rl.rel φ x y -> @Sim prog w A E s φ cmp _ rlF (f i x) (g i y)):∀ (l:List Nat) (x y:α),Rl.rel φ x y -> Sim prog w A E s φ cmp (forIn l x f) (forIn l y g)
  | [],x,y,r=>by rw[List.forIn_nil,List.forIn_nil]; exact aK r
  | i::l,x,y,r=>by
    rw[List.forIn_cons,List.forIn_cons]
    refine @cj _ _ _ _ _ _ _ _ _ rlF _ _ _ _ _ (h i x y r) λa b ab=>?_
    cases a <;> cases b <;> first | exact False.elim ab | skip
    · exact aK ab
    · exact j3 h l _ _ ab
theorem eU [Rl φ α] {a b:Nat} {x y:α} (r:Rl.rel φ x y) (h:∀ i x y,Rl.rel φ x y->@Sim prog w A E s φ cmp _ rlF (f i x) (g i y)):Sim prog w A E s φ cmp (forIn [a:b] x f) (forIn [a:b] y g):=by
 rw[Std.Legacy.Range.forIn_eq_forIn_range',Std.Legacy.Range.forIn_eq_forIn_range']
 exact j3 h _ _ _ r
theorem hU [EqRl α] {a b:Nat} {x:α} (h:∀ i x,Sim prog w A E s φ cmp (f i x) (g i x)):Sim prog w A E s φ cmp (forIn [a:b] x f) (forIn [a:b] x g):=by
 refine eU rfl λi x y r=>?_
 cases r
 intro st ps b d q k e
 obtain ⟨c,j,r,rest⟩:=h i x st ps b d q k e
 refine ⟨c,j,?_,rest⟩
 obtain rfl:c=b:=r
 cases c <;> exact (rfl:_=_)
theorem sU:Sim prog w A E s φ cmp (get:StateT SortSt Sem SortSt) get:=by
 intro st ps b a q f e
 cases e
 exact ⟨st,st,f,f,rfl,λQ q=>wpS_get q⟩
theorem dH (h:∀ st ps,Fol φ st ps->Fol φ (f st) (g ps)):Sim prog w A E s φ cmp (modify f:StateT SortSt Sem PUnit) (modify g):=by
 intro st ps b a q c e
 cases e
 exact ⟨_,_,rfl,h st ps c,rfl,λQ q=>wpS_modify q⟩
theorem Ab (h:Fol φ c a):Sim prog w A E s φ cmp (set c:StateT SortSt Sem PUnit) (set a):=by
 intro st ps b a q d e
 cases e
 exact ⟨_,_,rfl,h,rfl,λQ q=>EU ⟨rfl,q⟩⟩
theorem dG:Sim prog w A E s φ cmp (liftM (PySem.rule r:Sem Unit):StateT SortSt Sem Unit) (liftM (PySem.rule r:Sem Unit)):=by
 intro st ps b a q c e
 cases e
 exact ⟨_,st,rfl,c,rfl,λQ q=>wpS_lift (wpAny_rule ⟨rfl,q⟩)⟩
theorem wL {i:Nat}:Sim prog w A E s φ cmp (elem' (arr.map φ) i) (elem' arr i):=by
 rw[elem'_eq,elem'_eq]
 cases e:arr[i]? with
 | none=>exact cL
 | some x =>
  have:(arr.map φ)[i]?=some (φ x):=by rw[Array.getElem?_map,e];rfl
  rw[this]
  exact aK rfl
theorem bC [Rl φ α] {i:Nat} {f g:Keyed->StateT SortSt Sem α} (k:∀ u,Sim prog w A E s φ cmp (f (φ u)) (g u)):Sim prog w A E s φ cmp (elem' (arr.map φ) i >>= f) (elem' arr i >>= g) :=
 cj wL λu u' (hu:u=φ u')=>hu ▸ k u'
end
def lS (bs:List Addr) (x:Keyed):Keyed:=match x.1 with
 | .ref i=>(.ref (bs.getD i 0),.ref (bs.getD i 0))
 | _=>(.none,.none)
def fL (ns:List (List Int)) (i j:Nat):Option Bool:=match ns[i]?,ns[j]? with
 | some x,some y=>some (HT.lexLt x y)
 | _,_=>none
section
variable {prog:Program} {w:World} {A:Around} {E:Value->Shared->Prop} {s:Shared} {bs:List Addr} {ns:List (List Int)}
set_option tactic.hygienic true in
theorem qr (h:∀ a,v≠.ref a):∃ t,Builtin.List.listItems v=Sem.unsupported t:=by
 cases v
 case ref a=>exact absurd rfl (h a)
 case builtin id =>
  by_cases b:(withoutEnding? id "#opaque").isSome=true
  ·have e:notAStandIn (.builtin id)=Sem.unsupported id:=if_pos b
   refine ⟨id,?_⟩
   show Sem.bind (Sem.bind (notAStandIn (.builtin id)) _) _=_
   rw[e]
   rfl
  ·have e:notAStandIn (.builtin id)=Sem.pure ():=if_neg b
   have c:Builtin.List.listItems (.builtin id)=Sem.bind (Sem.bind (notAStandIn (.builtin id)) _) _:=rfl
   rw[e] at c
   exact ⟨_,c⟩
 all_goals exact ⟨_,rfl⟩
theorem Be (h:∀ a,v≠.ref a):∃ t,keyLt' (aV true) v y=Sem.unsupported t:=by
 obtain ⟨t,e⟩:=qr h
 obtain ⟨G,e1⟩:∃ G,keyLt' (aV true) v y=(Builtin.List.listItems v).bind G:=⟨_,rfl⟩
 exact ⟨t,by rw[e1,e];rfl⟩
theorem Bd (h:∀ a,v≠.ref a):∃ t,keyLt' (aV true) (.ref i) v=(Builtin.List.listItems (.ref i)).bind λ_=>Sem.unsupported t:=by
 obtain ⟨t,e⟩:=qr h
 obtain ⟨G,e1⟩:∃ G:Array Value->Array Value->Sem Bool,keyLt' (aV true) (.ref i) v=(Builtin.List.listItems (.ref i)).bind λxs=>(Builtin.List.listItems v).bind (G xs):=⟨_,rfl⟩
 exact ⟨t,by rw[e1,e];rfl⟩
theorem ve (q:IsNts s.heap a x) (l:IsNts s.heap b y) (hu:A.units < cLine) (h:Q (HT.lexLt x y) s):wpAny (model prog w) A (oneLt' true (.ref a) (.ref b)) Q E s:=by
 obtain ⟨o,⟨⟨c1,d,n,f⟩,e1,c1,j,d1⟩,k⟩:=q
 obtain ⟨i,⟨⟨c2,e,p,c⟩,r,c2,m,g⟩,t⟩:=l
 simp only at c1 d1 c2 g
 subst c1 d1 c2 g
 rw[oneLt'_eq]
 simp only[if_true]
 refine ET (wpAny_cRoomFor hu ?_)
 refine ET (wpAny_callSpecialIfBound?_slot (T:="tuple") ⟨_,e1,rfl⟩ PySem.F.slot_tuple_lt (call_meets PySem.F.slot_tuple_lt (T:="tuple") ⟨_,e1,rfl⟩ PySem.F.entry_tuple_lt (PySem.F.args_tuple_lt_2 _ _) (HT.tuple_lt_ints a b o i j m d e f c x y k t) ⟨e1,r,?_⟩))
 exact FF h
theorem CQ (hu:A.units < cLine) (u:∀ (i:Nat) (n:List Int),ns[i]?=some n->IsNts s.heap (bs.getD i 0) n) (x y:Keyed):Sim prog w A E s (lS bs) (fL ns) (lt' (lS bs x) (lS bs y)) (lt' x y):=by
 intro st ps b c q f e
 obtain ⟨x1,z⟩:=x
 obtain ⟨o,v⟩:=y
 have l:=f.kind'
 cases ps with
 | mk k a pd g fl =>
 have l:k=aV true:=l
 subst l
 by_cases d:∀ a,x1≠.ref a
 ·obtain ⟨t,h⟩:=Be (y:=o) d
  rw[lt'_eq] at e
  have e:ev (fL ns) (Sem.bind (Sem.bind (Sem.attempt (keyLt' (aV true) x1 o)) _) _) none=some ((b,c),q):=e
  rw[h] at e
  cases e
 ·by_cases p:∀ a,o≠.ref a
  ·obtain ⟨i,d⟩:=Classical.not_forall.mp d
   obtain rfl:x1=.ref i:=Classical.not_not.mp d
   obtain ⟨t,h⟩:=Bd (i:=i) p
   rw[lt'_eq] at e
   have e:ev (fL ns) (Sem.bind (Sem.bind (Sem.attempt (keyLt' (aV true) (.ref i) o)) _) _) none=some ((b,c),q):=e
   rw[h] at e
   cases e
  ·obtain ⟨i,d⟩:=Classical.not_forall.mp d
   obtain rfl:x1=.ref i:=Classical.not_not.mp d
   obtain ⟨j,p⟩:=Classical.not_forall.mp p
   obtain rfl:o=.ref j:=Classical.not_not.mp p
   have e:(match fL ns i j with
    | some true=>some ((some true,SortSt.mk' (aV true) a pd g fl),none)
    | some false=>some ((some false,SortSt.mk' (aV true) a pd g fl),none)
    | none=>none)=some ((b,c),q):=e
   unfold fL at e
   cases e1:ns[i]? with
   | none=>rw[e1] at e;cases e
   | some n =>
    cases r:ns[j]? with
    | none=>rw[e1,r] at e;cases e
    | some m =>
     rw[e1,r] at e
     have e:(match some (HT.lexLt n m) with
      | some true=>some ((some true,SortSt.mk' (aV true) a pd g fl),none)
      | some false=>some ((some false,SortSt.mk' (aV true) a pd g fl),none)
      | none=>none)=some ((b,c),q):=e
     have e:some ((some (HT.lexLt n m),SortSt.mk' (aV true) a pd g fl),(none:Option Addr))=some ((b,c),q):=by
      rw[<- e]
      cases HT.lexLt n m <;> rfl
     cases e
     refine ⟨_,st,rfl,f,rfl,λQ q=>?_⟩
     rw[lt'_eq]
     refine wpS_bind (wpS_get ?_)
     rcases f.kind with l | l <;> rw[l]
     ·refine wpS_bind (wpS_lift (wpAny_attempt (vB (u i n e1) (u j m r) ⟨rfl,?_⟩)))
      exact wpS_pure q
     ·rw[keyLt'_oneType]
      refine wpS_bind (wpS_lift (wpAny_attempt (ve (u i n e1) (u j m r) hu ⟨rfl,?_⟩)))
      exact wpS_pure q
end
end L2
end
section
namespace L2
open PySem PySem.Spec PyProof.Rows
def uc:Bool->Keyed->Array Keyed->Nat->Nat->Nat->StateT SortSt Sem (Option Nat):=sortPriv% PySem.Builtin.gallop
def qb:Array Keyed->Array Keyed->StateT SortSt Sem (Array Keyed):=sortPriv% PySem.Builtin.mergeLo
def qc:Array Keyed->Array Keyed->StateT SortSt Sem (Array Keyed):=sortPriv% PySem.Builtin.mergeHi
def wP:Nat->StateT SortSt Sem Unit:=sortPriv% PySem.Builtin.setMinGallop
section
variable {prog:Program} {w:World} {A:Around} {E:Value->Shared->Prop} {s:Shared} {φ:Keyed->Keyed} {cmp:Nat->Nat->Option Bool}
theorem mI {g:Nat}:Sim prog w A E s φ cmp (wP g) (wP g) :=
 dH λst ps f=>⟨f.kind,f.kind',f.arr,f.pend,rfl,f.fail,f.fail'⟩
theorem ic [EqRl γ] [EqRl δ] [Rl φ β] {m p:StateT SortSt Sem (Option γ×δ)} {f g:Option γ×δ->StateT SortSt Sem β} (h:Sim prog w A E s φ cmp m p) (a:∀ d,Sim prog w A E s φ cmp (f (none,d)) (g (none,d))) (b:∀ c d,Sim prog w A E s φ cmp (f (some c,d)) (g (some c,d))):Sim prog w A E s φ cmp (m >>= f) (p >>= g) :=
 aC h λx=>match x with
  | (none,d)=>a d
  | (some c,d)=>b c d
theorem pJ (hl:∀ x y:Keyed,Sim prog w A E s φ cmp (lt' (φ x) (φ y)) (lt' x y)) {i j:Nat}:Sim prog w A E s φ cmp (ltAt' i j) (ltAt' i j):=by
 rw[ltAt'_eq]
 refine cj sU λst ps f=>?_
 have e:arrOf st=(arrOf ps).map φ:=Fol.arr f
 dsimp only
 rw[e]
 exact bC λu=>bC λv=>hl u v
theorem dm {β:Type} (p q:β->Nat):∀ (l:List β) (xs:Array Keyed),l.foldl (λa k=>a.swapIfInBounds (p k) (q k)) (xs.map φ)=(l.foldl (λa k=>a.swapIfInBounds (p k) (q k)) xs).map φ
 | [],xs=>rfl
 | k::l,xs=>by
  rw[List.foldl_cons,List.foldl_cons,<- dm p q l]
  congr 1
  apply Array.ext_getElem?
  intro i
  rw[Array.getElem?_map]
  by_cases h1:p k < xs.size
  ·by_cases h2:q k < xs.size
   ·rw[getElem?_swapIB (by simpa using h1) (by simpa using h2),getElem?_swapIB h1 h2]
    simp only[Array.getElem?_map]
    repeat' split
    all_goals rfl
   ·rw[Array.swapIfInBounds_def,Array.swapIfInBounds_def,dif_pos (by simpa using h1),dif_neg (by simpa using h2),dif_pos h1,dif_neg h2,Array.getElem?_map]
  ·rw[Array.swapIfInBounds_def,Array.swapIfInBounds_def,dif_neg (by simpa using h1),dif_neg h1,Array.getElem?_map]
theorem sS {i j:Nat}:Sim prog w A E s φ cmp (reverseSlice' i j) (reverseSlice' i j):=by
 rw[reverseSlice'_eq]
 refine dH λst ps f=>⟨f.kind,f.kind',?_,f.pend,f.mg,f.fail,f.fail'⟩
 show mirror (arrOf st) _ _ _=(mirror (arrOf ps) _ _ _).map φ
 rw[f.arr]
 exact dm _ _ _ _
theorem pK {i j:Nat}:Sim prog w A E s φ cmp (moveDown' i j) (moveDown' i j):=by
 rw[moveDown'_eq]
 refine dH λst ps f=>⟨f.kind,f.kind',?_,f.pend,f.mg,f.fail,f.fail'⟩
 show bubble (arrOf st) _ _=(bubble (arrOf ps) _ _).map φ
 rw[f.arr]
 exact dm _ _ _ _
theorem Ad (hl:∀ x y:Keyed,Sim prog w A E s φ cmp (lt' (φ x) (φ y)) (lt' x y)) {lo n ok:Nat}:Sim prog w A E s φ cmp (binarySort' lo n ok) (binarySort' lo n ok):=by
 rw[binarySort'_eq]
 repeat' first
  | exact aK rfl
  | exact cL
  | refine bu (λ_=>?_) (λ_=>?_)
  | (refine bp (pJ hl) ?_ (λu=>?_) <;> try dsimp only)
  | (refine aC sS (λu=>?_);try dsimp only)
  | (refine aC pK (λu=>?_);try dsimp only)
  | (refine aC dG (λu=>?_);try dsimp only)
  | (refine ic (hU λi x=>?_) (λd=>?_) (λc d=>?_) <;> try dsimp only)
  | (refine aC (hU λi x=>?_) (λx=>?_) <;> try dsimp only)
theorem Ac (hl:∀ x y:Keyed,Sim prog w A E s φ cmp (lt' (φ x) (φ y)) (lt' x y)) {lo n:Nat}:Sim prog w A E s φ cmp (countRun' lo n) (countRun' lo n):=by
 rw[countRun'_eq]
 repeat' first
  | exact aK rfl
  | exact cL
  | refine bu (λ_=>?_) (λ_=>?_)
  | (refine bp (pJ hl) ?_ (λu=>?_) <;> try dsimp only)
  | (refine aC sS (λu=>?_);try dsimp only)
  | (refine aC pK (λu=>?_);try dsimp only)
  | (refine aC dG (λu=>?_);try dsimp only)
  | (refine ic (hU λi x=>?_) (λd=>?_) (λc d=>?_) <;> try dsimp only)
  | (refine aC (hU λi x=>?_) (λx=>?_) <;> try dsimp only)
end
end L2
end
section
namespace L2
open PySem PySem.Spec PyProof.Rows
section
variable {prog:Program} {w:World} {A:Around} {E:Value->Shared->Prop} {s:Shared} {φ:Keyed->Keyed} {cmp:Nat->Nat->Option Bool}
theorem eT (hl:∀ x y:Keyed,Sim prog w A E s φ cmp (lt' (φ x) (φ y)) (lt' x y)) {base n hint:Nat}:Sim prog w A E s φ cmp (uc left (φ key) (arr.map φ) base n hint) (uc left key arr base n hint):=by
 refine bp (bC λu=>bu (λ_=>hl _ _) (λ_=>aC (hl _ _) λr=>aK rfl)) (aK rfl) (λu=>?_)
 dsimp only
 repeat' first
  | exact aK rfl
  | refine bu (λ_=>?_) (λ_=>?_)
  | (refine bp (bC λu=>bu (λ_=>hl _ _) (λ_=>aC (hl _ _) λr=>aK rfl)) ?_ (λu=>?_) <;> try dsimp only)
  | (refine ic (hU λi x=>?_) (λd=>?_) (λc d=>?_) <;> try dsimp only)
end
end L2
end
section
namespace L2
open PySem PySem.Spec PyProof.Rows
section
variable {prog:Program} {w:World} {A:Around} {E:Value->Shared->Prop} {s:Shared} {φ:Keyed->Keyed} {cmp:Nat->Nat->Option Bool}
theorem j4 [EqRl α]:@Rl.rel φ α rlE a a:=rfl
theorem f9 {X Y:Array Keyed} (h:X=Y.map φ):Rl.rel φ X Y:=h
theorem dW [Rl φ α] {a b:α} (h:Rl.rel φ a b):@Rl.rel φ _ rlO (some a) (some b):=h
theorem dY [Rl φ α]:@Rl.rel φ _ rlO (none:Option α) none:=trivial
theorem dZ [Rl φ α] {a b:α} (h:Rl.rel φ a b):@Rl.rel φ _ rlF (ForInStep.done a) (ForInStep.done b):=h
theorem cZ [Rl φ α] {a b:α} (h:Rl.rel φ a b):@Rl.rel φ _ rlF (ForInStep.yield a) (ForInStep.yield b):=h
theorem dX [Rl φ α] [Rl φ β] {a b:α} {d c:β} (h:Rl.rel φ a b) (h':Rl.rel φ d c):@Rl.rel φ _ rlP (a,d) (b,c):=⟨h,h'⟩
set_option tactic.hygienic true in
theorem wK [EqRl γ] {a b:Nat} {x y:Option (Array Keyed)×Array Keyed×γ} {f g:Nat -> Option (Array Keyed)×Array Keyed×γ -> StateT SortSt Sem (ForInStep (Option (Array Keyed)×Array Keyed×γ))} (r:Rl.rel φ x y) (h:∀ i o d c,Sim prog w A E s φ cmp (f i (o.map (Array.map φ),d.map φ,c)) (g i (o,d,c))):Sim prog w A E s φ cmp (forIn [a:b] x f) (forIn [a:b] y g):=by
  refine eU r λi x y r=>?_
  obtain ⟨x1,u,j⟩:=x
  obtain ⟨m,e,t⟩:=y
  obtain ⟨k,n,l⟩:=r
  obtain rfl:u=e.map φ:=n
  obtain rfl:j=t:=l
  cases x1 <;> cases m <;> first | exact False.elim k | skip
  · exact h i none e j
  · rename_i p q
    obtain rfl:p=q.map φ:=k
    exact h i (some q) e j
set_option tactic.hygienic true in
theorem uQ [EqRl γ] [Rl φ β] {m p:StateT SortSt Sem (Option (Array Keyed)×Array Keyed×γ)} {f g:Option (Array Keyed)×Array Keyed×γ -> StateT SortSt Sem β} (h:Sim prog w A E s φ cmp m p) (k:∀ d c,Sim prog w A E s φ cmp (f (none,d.map φ,c)) (g (none,d,c))) (t:∀ r d c,Sim prog w A E s φ cmp (f (some (r.map φ),d.map φ,c)) (g (some r,d,c))):Sim prog w A E s φ cmp (m >>= f) (p >>= g):=by
  refine cj h λx y r=>?_
  obtain ⟨x1,o,b⟩:=x
  obtain ⟨j,a,n⟩:=y
  obtain ⟨e,l,i⟩:=r
  obtain rfl:o=a.map φ:=l
  obtain rfl:b=n:=i
  cases x1 <;> cases j <;> first | exact False.elim e | skip
  · exact k a b
  · rename_i p q
    obtain rfl:p=q.map φ:=e
    exact t q a b
theorem cM [Rl φ β] {f g:SortSt->StateT SortSt Sem β} (k:∀ st ps,Fol φ st ps->Sim prog w A E s φ cmp (f st) (g ps)):Sim prog w A E s φ cmp (get >>= f) (get >>= g) :=
 cj sU λst ps a=>k st ps a
theorem pG (hl:∀ x y:Keyed,Sim prog w A E s φ cmp (lt' (φ x) (φ y)) (lt' x y)) (a b:Array Keyed):Sim prog w A E s φ cmp (qb (a.map φ) (b.map φ)) (qb a b):=by
 refine aC dG λ_=>?_
 refine bC λy=>?_
 simp only[Array.size_map]
 refine bu (λ_=>aK (by (repeat' first | with_reducible exact dY | with_reducible apply dZ | with_reducible apply cZ | with_reducible apply dW | (with_reducible apply f9;simp only[Array.map_append,Array.map_push,Array.map_extract,Array.map_reverse,List.map_toArray,Fm,List.map_nil];done) | with_reducible apply dX | with_reducible exact j4))) λ_=>?_
 refine bu (λ_=>aK (by (repeat' first | with_reducible exact dY | with_reducible apply dZ | with_reducible apply cZ | with_reducible apply dW | (with_reducible apply f9;simp only[Array.map_append,Array.map_push,Array.map_extract,Array.map_reverse,List.map_toArray,Fm,List.map_nil];done) | with_reducible apply dX | with_reducible exact j4))) λ_=>?_
 refine cM λst ps f=>?_
 have e:=f.mg
 simp only[gallopOf] at e
 rw[e]
 repeat' first
  | exact aK (by (repeat' first | with_reducible exact dY | with_reducible apply dZ | with_reducible apply cZ | with_reducible apply dW | (with_reducible apply f9;simp only[Array.map_append,Array.map_push,Array.map_extract,Array.map_reverse,List.map_toArray,Fm,List.map_nil];done) | with_reducible apply dX | with_reducible exact j4))
  | exact cL
  | refine bu (λ_=>?_) (λ_=>?_)
  | refine aC mI (λ_=>?_)
  | refine aC dG (λ_=>?_)
  | refine bC λu=>?_
  | (refine bp (eT hl) ?_ (λu=>?_) <;> try dsimp only)
  | (refine bp (hl _ _) ?_ (λu=>?_) <;> try dsimp only)
  | (refine uQ (wK (by (repeat' first | with_reducible exact dY | with_reducible apply dZ | with_reducible apply cZ | with_reducible apply dW | (with_reducible apply f9;simp only[Array.map_append,Array.map_push,Array.map_extract,Array.map_reverse,List.map_toArray,Fm,List.map_nil];done) | with_reducible apply dX | with_reducible exact j4)) λi o d c=>?_) (λd c=>?_) (λr d c=>?_) <;> try dsimp only)
end
end L2
end
section
namespace L2
open PySem PySem.Spec PyProof.Rows
section
variable {prog:Program} {w:World} {A:Around} {E:Value->Shared->Prop} {s:Shared} {φ:Keyed->Keyed} {cmp:Nat->Nat->Option Bool}
set_option tactic.hygienic true in
theorem wJ [EqRl γ] {a b:Nat} {x y:Option (Array Keyed)×Nat×Nat×Array Keyed×γ} {f g:Nat -> Option (Array Keyed)×Nat×Nat×Array Keyed×γ -> StateT SortSt Sem (ForInStep (Option (Array Keyed)×Nat×Nat×Array Keyed×γ))} (r:Rl.rel φ x y) (h:∀ i o m n d c,Sim prog w A E s φ cmp (f i (o.map (Array.map φ),m,n,d.map φ,c)) (g i (o,m,n,d,c))):Sim prog w A E s φ cmp (forIn [a:b] x f) (forIn [a:b] y g):=by
  refine eU r λi x y r=>?_
  obtain ⟨x1,H,l,G,j⟩:=x
  obtain ⟨v,D,u,e,C⟩:=y
  obtain ⟨k,B,F,z,t⟩:=r
  obtain rfl:H=D:=B
  obtain rfl:l=u:=F
  obtain rfl:G=e.map φ:=z
  obtain rfl:j=C:=t
  cases x1 <;> cases v <;> first | exact False.elim k | skip
  · exact h i none _ _ e j
  · rename_i p q
    obtain rfl:p=q.map φ:=k
    exact h i (some q) _ _ e j
set_option tactic.hygienic true in
theorem uP [EqRl γ] [Rl φ β] {m p:StateT SortSt Sem (Option (Array Keyed)×Nat×Nat×Array Keyed×γ)} {f g:Option (Array Keyed)×Nat×Nat×Array Keyed×γ -> StateT SortSt Sem β} (h:Sim prog w A E s φ cmp m p) (o:∀ m n d c,Sim prog w A E s φ cmp (f (none,m,n,d.map φ,c)) (g (none,m,n,d,c))) (F:∀ r m n d c,Sim prog w A E s φ cmp (f (some (r.map φ),m,n,d.map φ,c)) (g (some r,m,n,d,c))):Sim prog w A E s φ cmp (m >>= f) (p >>= g):=by
  refine cj h λx y r=>?_
  obtain ⟨x1,D,i,C,b⟩:=x
  obtain ⟨l,z,k,a,v⟩:=y
  obtain ⟨e,u,B,t,j⟩:=r
  obtain rfl:D=z:=u
  obtain rfl:i=k:=B
  obtain rfl:C=a.map φ:=t
  obtain rfl:b=v:=j
  cases x1 <;> cases l <;> first | exact False.elim e | skip
  · exact o _ _ a b
  · rename_i p q
    obtain rfl:p=q.map φ:=e
    exact F q _ _ a b
theorem pH (hl:∀ x y:Keyed,Sim prog w A E s φ cmp (lt' (φ x) (φ y)) (lt' x y)) (a b:Array Keyed):Sim prog w A E s φ cmp (qc (a.map φ) (b.map φ)) (qc a b):=by
 refine aC dG λ_=>?_
 simp only[Array.size_map]
 refine bC λy=>?_
 refine bu (λ_=>aK (by (repeat' first | with_reducible exact dY | with_reducible apply dZ | with_reducible apply cZ | with_reducible apply dW | (with_reducible apply f9;simp only[Array.map_append,Array.map_push,Array.map_extract,Array.map_reverse,List.map_toArray,Fm,List.map_nil];done) | with_reducible apply dX | with_reducible exact j4))) λ_=>?_
 refine bu (λ_=>aK (by (repeat' first | with_reducible exact dY | with_reducible apply dZ | with_reducible apply cZ | with_reducible apply dW | (with_reducible apply f9;simp only[Array.map_append,Array.map_push,Array.map_extract,Array.map_reverse,List.map_toArray,Fm,List.map_nil];done) | with_reducible apply dX | with_reducible exact j4))) λ_=>?_
 refine cM λst ps f=>?_
 have e:=f.mg
 simp only[gallopOf] at e
 rw[e]
 repeat' first
  | exact aK (by (repeat' first | with_reducible exact dY | with_reducible apply dZ | with_reducible apply cZ | with_reducible apply dW | (with_reducible apply f9;simp only[Array.map_append,Array.map_push,Array.map_extract,Array.map_reverse,List.map_toArray,Fm,List.map_nil];done) | with_reducible apply dX | with_reducible exact j4))
  | exact cL
  | refine bu (λ_=>?_) (λ_=>?_)
  | refine aC mI (λ_=>?_)
  | refine aC dG (λ_=>?_)
  | refine bC λu=>?_
  | (refine bp (eT hl) ?_ (λu=>?_) <;> try dsimp only)
  | (refine bp (hl _ _) ?_ (λu=>?_) <;> try dsimp only)
  | (refine uP (wJ (by (repeat' first | with_reducible exact dY | with_reducible apply dZ | with_reducible apply cZ | with_reducible apply dW | (with_reducible apply f9;simp only[Array.map_append,Array.map_push,Array.map_extract,Array.map_reverse,List.map_toArray,Fm,List.map_nil];done) | with_reducible apply dX | with_reducible exact j4)) λi o m n d c=>?_) (λm n d c=>?_) (λr m n d c=>?_) <;> try dsimp only)
end
end L2
end
section
namespace L2
open PySem PySem.Spec PyProof.Rows
section
variable {prog:Program} {w:World} {A:Around} {E:Value->Shared->Prop} {s:Shared} {φ:Keyed->Keyed} {cmp:Nat->Nat->Option Bool}
theorem nv (b:∀ a p j,G (a.map φ) (φ p,j)=(G a (p,j)).map φ):∀ (l:List (Keyed×Nat)) (xs:Array Keyed),(l.map λx=>(φ x.1,x.2)).foldl G (xs.map φ)=(l.foldl G xs).map φ
 | [],xs=>rfl
 | (p,j)::l,xs=>by
  rw[Fm,List.foldl_cons,List.foldl_cons,<- nv b l]
  dsimp only
  rw[b]
theorem sT {f:SortSt->Array Keyed->SortSt} (hf:∀ st X,f st X=setArr st (X.toList.zipIdx.foldl G (arrOf st))) (c:∀ a p j,G (a.map φ) (φ p,j)=(G a (p,j)).map φ):Sim prog w A E s φ cmp (modify λst=>f st (m.map φ)) (modify λst=>f st m):=by
 refine dH λst ps b=>?_
 rw[hf,hf]
 refine ⟨b.kind,b.kind',?_,b.pend,b.mg,b.fail,b.fail'⟩
 show _=Array.map φ (m.toList.zipIdx.foldl G (arrOf ps))
 rw[<- nv c,<- b.arr]
 show (m.map φ).toList.zipIdx.foldl G (arrOf st)=_
 congr 1
 rw[Array.toList_map,List.zipIdx_map]
 rfl
theorem mJ [Rl φ β] {f g:Array Keyed->StateT SortSt Sem β} (h:Sim prog w A E s φ cmp m p) (k:∀ d,Sim prog w A E s φ cmp (f (d.map φ)) (g d)):Sim prog w A E s φ cmp (m >>= f) (p >>= g):=by
 refine cj h λx y (r:x=y.map φ)=>?_
 rw[r]
 exact k y
theorem pI (hl:∀ x y:Keyed,Sim prog w A E s φ cmp (lt' (φ x) (φ y)) (lt' x y)) (i:Nat):Sim prog w A E s φ cmp (mergeAt' i) (mergeAt' i):=by
 refine cM λst ps c=>?_
 have h1:=c.arr
 have h2:=c.pend
 simp only[arrOf,pendingOf] at h1 h2
 rw[h2]
 generalize (pendingOf ps)[i]?=a
 generalize (pendingOf ps)[i+1]?=b
 cases a with
 | none=>exact cL
 | some a =>
 cases b with
 | none=>exact cL
 | some b =>
 obtain ⟨sa,na,g⟩:=a
 obtain ⟨sb,nb,e⟩:=b
 refine aC (Ab ⟨c.kind,c.kind',c.arr,rfl,c.mg,c.fail,c.fail'⟩) λ_=>?_
 rw[h1]
 refine bC λu=>?_
 refine bp (eT hl) (aK rfl) λk=>?_
 refine bu (λ_=>aK rfl) λ_=>?_
 refine bC λu=>?_
 refine bp (eT hl) (aK rfl) λk=>?_
 refine bu (λ_=>aK rfl) λ_=>?_
 simp only[<- Array.map_extract]
 refine bu (λ_=>?_) λ_=>?_
 ·refine mJ (pG hl _ _) λd=>aC (sT (λ_ _=>rfl) λ_ _ _=>Array.map_setIfInBounds.symm) λ_=>cM λst ps f=>aK ?_
  show (failedOf st).isNone=(failedOf ps).isNone
  rw[f.fail,f.fail']
 ·refine mJ (pH hl _ _) λd=>aC (sT (λ_ _=>rfl) λ_ _ _=>Array.map_setIfInBounds.symm) λ_=>cM λst ps f=>aK ?_
  show (failedOf st).isNone=(failedOf ps).isNone
  rw[f.fail,f.fail']
theorem pF (F:Array (Nat×Nat×Nat)->Array (Nat×Nat×Nat)) (hf:∀ st,f st=setPending st (F (pendingOf st))):Sim prog w A E s φ cmp (modify f) (modify f) :=
 dH λst ps a=>by
  rw[hf,hf]
  exact ⟨a.kind,a.kind',a.arr,congrArg F a.pend,a.mg,a.fail,a.fail'⟩
theorem wH (hl:∀ x y:Keyed,Sim prog w A E s φ cmp (lt' (φ x) (φ y)) (lt' x y)):Sim prog w A E s φ cmp sortRuns' sortRuns':=by
 rw[sortRuns'_eq]
 refine cM λst ps a=>?_
 have hsz:(arrOf st).size=(arrOf ps).size:=by rw[a.arr,Array.size_map]
 dsimp only
 rw[hsz]
 generalize (arrOf ps).size=n
 repeat' first
  | exact aK rfl
  | refine bu (λ_=>?_) (λ_=>?_)
  | (refine bp (Ac hl) ?_ (λu=>?_) <;> try dsimp only)
  | (refine aC (Ad hl) (λu=>?_);try dsimp only)
  | (refine aC (pI hl _) (λu=>?_);try dsimp only)
  | (refine aC dG (λu=>?_);try dsimp only)
  | (refine aC (pF (λp=>p.push _) λ_=>rfl) (λu=>?_);try dsimp only)
  | (refine aC (pF (λp=>p.modify (p.size - 1) _) λ_=>rfl) (λu=>?_);try dsimp only)
  | (refine cM λst ps a=>?_;rw[a.pend];generalize pendingOf ps=p;try dsimp only)
  | (refine ic (hU λi x=>?_) (λd=>?_) (λc d=>?_) <;> try dsimp only)
  | (generalize Array.back? _=d;rcases d with _ | ⟨s1,b,x⟩ <;> dsimp only)
  | (generalize (if p.size > 1 then p[p.size - 2]? else none)=d;rcases d with _ | ⟨s1,b,x⟩ <;> dsimp only)
end
end L2
end
section
namespace L2
open PySem PySem.Spec PyProof.Rows
def mW (n:Nat):Array Keyed:=((List.range n).map λi=>((Value.ref i,Value.ref i):Keyed)).toArray
def ly (x:Keyed):Option Nat:=match x.1 with
 | .ref i=>some i
 | _=>none
def bb (ns:List (List Int)):Option (List Nat) :=
 match ev (fL ns) (sortRuns'.run (SortSt.mk' (aV true) (mW ns.length) #[] 7 none)) none with
 | some ((_,st),_)=>(arrOf st).toList.mapM ly
 | none=>none
end L2
end
section
namespace L2
open PySem PySem.Spec PyProof.Rows
structure NRs (h:Heap) (bs:List Addr) (ns:List (List Int)):Prop where
 len:ns.length=bs.length
 at':∀ (i:Nat) (b:Addr) (n:List Int),bs[i]?=some b->ns[i]?=some n->IsNts h b n
theorem NRs.tail (r:NRs h (b::bs) (n::ns)):NRs h bs ns :=
 ⟨by simpa using r.len,λi b n e1 a=>r.at' (i+1) b n (by simpa using e1) (by simpa using a)⟩
theorem NRs.keep (r:NRs h bs ns) (k:∀ b∈bs,∀ o,h.get? b=some o->h'.get? b=some o):NRs h' bs ns :=
 ⟨r.len,λi b n e1 a=>(r.at' i b n e1 a).at (k b (Fc e1))⟩
theorem NRs.mem (r:NRs h bs ns):∀ b∈bs,∃ n∈ns,IsNts h b n:=λb c=>by
 obtain ⟨i,hi⟩:=List.getElem?_of_mem c
 have a:i < ns.length:=by rw[r.len];exact (Fb.mp hi).1
 exact ⟨ns[i],List.getElem_mem _,r.at' i b _ hi (E6 a)⟩
def kOk (ns:List (List Int)):Prop:=(∀ n∈ns,n≠[])\/ns.head?=some []
theorem iH:bb []=some []:=by kernel_rfl
theorem iG (n:List Int):bb [n]=some [0]:=by kernel_rfl
section
variable {prog:Program} {w:World} {A:Around} {E:Value->Shared->Prop} {s:Shared}
theorem yU (a:IsNts s.heap b []) (h:Q none s):wpAny (model prog w) A (firstOfTuple' (.ref b)) Q E s:=by
 obtain ⟨it,⟨o,e,c,k,d⟩,j⟩:=a
 refine ET (wpAny_typeOf (T:="tuple") ⟨o,e,c⟩ ?_)
 rw[if_neg (by decide)]
 refine ET (listItems_at e d ?_)
 have:it[0]?=none:=by
  rw[<- Array.getElem?_toList]
  generalize it.toList=l at j
  cases j
  rfl
 rw[this]
 exact EU h
theorem iT:∀ (bs:List Addr) (ns:List (List Int)),NRs s.heap bs ns->(∀ os:List (Option Value),(ns.head?=some []->os.head?=some none)->Q os s) ->
  wpAny (model prog w) A ((bs.map Value.ref).mapM firstOfTuple') Q E s
 | [],[],_,q=>by
  simp only[List.map_nil,List.mapM_nil]
  exact EU (q [] λh=>by cases h)
 | [],_::_,r,_=>by have:=r.len;cases this
 | _::_,[],r,_=>by have:=r.len;cases this
 | b::bs,n::ns,r,q=>by
  rw[Fm,List.mapM_cons]
  have a:=r.at' 0 b n rfl rfl
  cases n with
  | nil=>exact ET (yU a (ET (iT bs ns r.tail λos _=>EU (q (none::os) λ_=>rfl))))
  | cons i n=>exact ET (nB a (by simp) λj t=>ET (iT bs ns r.tail λos _=>EU (q (some (.int j t)::os) λh=>by simp at h)))
theorem mD:∀ (bs:List Addr) (ns:List (List Int)),NRs s.heap bs ns->Q (bs.map λ_=>.type "tuple") s->wpAny (model prog w) A ((bs.map Value.ref).mapM typeOf) Q E s
 | [],_,_,q=>by
  simp only[List.map_nil,List.mapM_nil]
  exact EU q
 | _::_,[],r,_=>by have:=r.len;cases this
 | b::bs,n::ns,r,q=>by
  rw[Fm,List.mapM_cons]
  obtain ⟨it,⟨o,e,c,k,d⟩,j⟩:=r.at' 0 b n rfl rfl
  exact ET (wpAny_typeOf (T:="tuple") ⟨o,e,c⟩ (ET (mD bs ns r.tail (EU q))))
theorem yB (h2:bs≠[]) (r:NRs s.heap bs ns) (a:kOk ns) (h:∀ k,rJ k->Q k s):wpAny (model prog w) A (keyKind' (bs.map Value.ref).toArray) Q E s:=by
 rcases a with a | a
 ·refine yA h2 (λb e=>?_) (h _ (.inl rfl))
  obtain ⟨n,f,x⟩:=r.mem b e
  exact ⟨n,a n f,x⟩
 ·rw[keyKind'_eq,List.mapM_toArray]
  refine ET ?_
  rw[map_eq_pure_bind]
  refine ET (iT bs ns r λos d=>EU ?_)
  have d:=d a
  obtain ⟨os,rfl⟩:∃ l,os=none::l:=by
   cases os with
   | nil=>cases d
   | cons x l=>cases d;exact ⟨l,rfl⟩
  rw[if_neg (by simp),if_neg (by simp),oneTypeOnly'_eq,List.mapM_toArray]
  refine ET (ET ?_)
  rw[map_eq_pure_bind]
  refine ET (mD bs ns r (EU ?_))
  have h0:(List.map (λ_:Addr=>Value.type "tuple") bs).toArray[0]?=some (Value.type "tuple"):=by
   cases bs with
   | nil=>exact absurd rfl h2
   | cons b bs=>simp
  have c:((List.map (λ_:Addr=>Value.type "tuple") bs).toArray.all λx=>x == Value.type "tuple")=true:=by
   simp only[List.all_toArray,List.all_map,List.all_eq_true]
   intro _ _
   rfl
  rw[h0]
  dsimp only
  rw[if_pos c]
  exact EU (EU (h _ (.inr rfl)))
theorem vd (bs:List Addr):(bs.map Value.ref).toArray.zip (bs.map Value.ref).toArray=(mW bs.length).map (lS bs):=by
 apply Array.ext_getElem?
 intro i
 rw[List.zip_toArray,Array.getElem?_map]
 unfold mW
 simp only[List.getElem?_toArray,Ff]
 by_cases hi:i < bs.length
 ·rw[List.getElem?_range hi]
  have e:bs[i]?=some bs[i]:=E6 hi
  have:((bs.map Value.ref).zip (bs.map Value.ref))[i]?=some (Value.ref bs[i],Value.ref bs[i]):=by
   simp[List.getElem?_zip_eq_some,e]
  rw[this]
  simp[lS,List.getD,e]
 ·grind
theorem pZ:∀ {l:List Keyed} {is:List Nat},l.mapM ly=some is->l.map (λx=>(lS bs x).2)=is.map λi=>Value.ref (bs.getD i 0)
 | [],is,h=>by cases h;rfl
 | x::l,is,h=>by
  rw[List.mapM_cons] at h
  obtain ⟨i,e1,h⟩:=Fy.mp h
  obtain ⟨c,a,h⟩:=Fy.mp h
  cases h
  rw[Fm,Fm,pZ a]
  congr 1
  unfold ly at e1
  unfold lS
  cases b:x.1 <;> rw[b] at e1 <;> cases e1
  rfl
theorem uW (hu:A.units < cLine) (r:NRs s.heap bs ns) (d:rJ k) (hs:bb ns=some is) (h:∀ b,(arrOf b).map (·.2)=(is.map λi=>Value.ref (bs.getD i 0)).toArray->failedOf b=none->Q () b) :
  wpS (model prog w) A E s sortRuns' Q (SortSt.mk' k ((bs.map Value.ref).toArray.zip (bs.map Value.ref).toArray) #[] 7 none):=by
 unfold bb at hs
 cases e:ev (fL ns) (sortRuns'.run (SortSt.mk' (aV true) (mW ns.length) #[] 7 none)) none with
 | none=>rw[e] at hs;cases hs
 | some p =>
  obtain ⟨⟨u,ps⟩,q⟩:=p
  rw[e] at hs
  have hs:(arrOf ps).toList.mapM ly=some is:=hs
  have g:∀ (i:Nat) (n:List Int),ns[i]?=some n->IsNts s.heap (bs.getD i 0) n:=λi n e=>by
   have hi:i < bs.length:=by rw[<- r.len];exact (Fb.mp e).1
   have c:bs[i]?=some bs[i]:=E6 hi
   rw[List.getD,c]
   exact r.at' i _ n c e
  obtain ⟨a,b,_,f,_,hw⟩:=wH (CQ (prog:=prog) (w:=w) (E:=E) hu g) (SortSt.mk' k ((bs.map Value.ref).toArray.zip (bs.map Value.ref).toArray) #[] 7 none) (SortSt.mk' (aV true) (mW ns.length) #[] 7 none) u ps q
   ⟨d,rfl,by rw[r.len];exact vd bs,rfl,rfl,rfl,rfl⟩ e
  refine hw _ (h b ?_ f.fail)
  rw[f.arr,Array.map_map]
  apply Array.ext'
  rw[Array.toList_map]
  exact pZ hs
theorem wG {n:Nat} (hu:A.units < cLine) (j:s.heap.get? a=some (seqObj "list" (bs.map Value.ref).toArray n)) (r:NRs s.heap bs ns) (u:kOk ns) (hs:bb ns=some is) (hsz:bs.length<=sizeLine) (q:is.length<=sizeLine) (h:P (.done (.ret .none)) { s with heap:=sortedHeap s.heap a (bs.map Value.ref) (is.map λi=>Value.ref (bs.getD i 0)).toArray }) :
  wpAny (model prog w) A (Builtin.«list.sort» ⟨[.ref a],[]⟩) P E s:=by
 rw[list_sort_plain]
 have B:a < s.heap.objs.size:=E7 j
 have hsz2:(bs.map Value.ref).toArray.size<=sizeLine:=by simpa using hsz
 have g:(is.map λi=>Value.ref (bs.getD i 0)).toArray.size<=sizeLine:=by simpa using q
 have t:∀ b∈bs,b≠a:=λb v z=>by
  obtain ⟨m,_,it,⟨o,e1,c,_⟩,_⟩:=r.mem b v
  rw[z,j] at e1
  cases e1
  have c:Value.type "list"=Value.type "tuple":=c
  injection c with c
  exact absurd c (by decide)
 refine ET (listItems_at j rfl ?_)
 refine ET (listUpdate_at j rfl ?_)
 obtain ⟨e1,l⟩:∃ e1,(s.heap.update a (Obj.mapSeq λ_=>#[])).get? a=some (seqObj "list" #[] e1):=⟨_,get?_update_seq j (λ_=>#[])⟩
 refine ET (seqEpoch_at l rfl ?_)
 refine ET (wpAny_newTuple ?_)
 refine ET (wpAny_newList ?_)
 refine EV ?_
 have d:(((s.heap.update a (Obj.mapSeq λ_=>#[])).push (seqObj "tuple" (bs.map Value.ref).toArray 0)).push (seqObj "list" #[] 0)).get? a=some (seqObj "list" #[] e1) :=
  EZ _ (EZ _ l)
 have x:NRs (((s.heap.update a (Obj.mapSeq λ_=>#[])).push (seqObj "tuple" (bs.map Value.ref).toArray 0)).push (seqObj "list" #[] 0)) bs ns:=r.keep λb v o e =>
  EZ _ (EZ _ ((FD _ _ (Ne.symm (t b v))).trans e))
 show wpAny (model prog w) A _ P E { s with heap:=((s.heap.update a (Obj.mapSeq λ_=>#[])).push (seqObj "tuple" (bs.map Value.ref).toArray 0)).push (seqObj "list" #[] 0) }
 dsimp only
 by_cases h2:(bs.map Value.ref).toArray.size < 2
 ·rw[if_pos h2,if_pos h2]
  refine ET (EU ?_)
  rw[StateT.run_pure]
  refine ET (EU ?_)
  dsimp only
  have out:((bs.map Value.ref).toArray.zip (bs.map Value.ref).toArray).map (·.2)=(is.map λi=>Value.ref (bs.getD i 0)).toArray:=by
   have hl:=r.len
   match bs,ns,hl,h2 with
   | [],[],_,_=>rw[iH] at hs;cases hs;simp
   | [b],[n],_,_=>rw[iG] at hs;cases hs;simp[List.zip_toArray]
   | _::_::_,_,_,h2=>simp at h2;lia
  refine ET (seqEpoch_at d rfl ?_)
  show wpAny _ _ (Builtin.List.listUpdate (.ref a) (λ_=>((bs.map Value.ref).toArray.zip (bs.map Value.ref).toArray).map (·.2)) >>= _) _ _ _
  rw[out]
  refine ET (listUpdate_at d rfl ?_ (hsz2:=Nat.le_succ_of_le g))
  simp only[bne_self_eq_false,FA,if_false]
  exact EU h
 ·rw[if_neg h2,if_neg h2]
  have p:bs≠[]:=λz=>by subst z;simp at h2
  refine ET (yB p x u λk u=>?_)
  refine ET (wpAny_mono (uW (Q:=λ_ f=>(arrOf f).map (·.2)=(is.map λi=>Value.ref (bs.getD i 0)).toArray/\failedOf f=none) hu x u hs λf a1 a2=>⟨a1,a2⟩) ?_ λ_ _ e=>e)
  rintro ⟨⟨⟩,f⟩ s' ⟨rfl,y,hf⟩
  dsimp only
  refine ET (seqEpoch_at d rfl ?_)
  rw[y]
  refine ET (listUpdate_at d rfl ?_ (hsz2:=Nat.le_succ_of_le g))
  rw[hf]
  simp only[bne_self_eq_false,FA,if_false]
  exact EU h
end
end L2
end
section
namespace L2
open PySem PySem.Spec PyProof.Rows
section
variable {prog:Program} {w:World} {A:Around} {E:Value->Shared->Prop} {s:Shared}
theorem iF (hu:A.units+2 < cLine) (hl:s.heap.IsList l (bs.map Value.ref).toArray) (r:NRs s.heap bs ns) (g:kOk ns) (hs:bb ns=some is) (hsz:bs.length<=sizeLine) (d:is.length<=sizeLine) (h:∀ h' p,s.heap.objs.size<=p->(∀ b o,s.heap.get? b=some o->h'.get? b=some o)->(∃ e,h'.get? p=some (seqObj "list" (is.map λi=>Value.ref (bs.getD i 0)).toArray e))->Q (.ref p) { s with heap:=h' }) :
  wpAny (model prog w) A (call (.builtin "sorted") [.ref l]) Q E s:=by
 refine Calls.call_function_entry kind_sorted plain_sorted entry_sorted (args_sorted1 _) ?_
 unfold Builtin.«sorted»
 refine ET (m:=checkCount "sorted" 1 1 _) (EU ?_)
 refine ET (collect_list hl ?_ (by rw[Fa];exact hsz))
 refine ET (wpAny_newList ?_ (by rw[Fa];exact hsz))
 obtain ⟨h1,k1,f,e1⟩:∃ h1,(∀ b o,s.heap.get? b=some o->h1.get? b=some o)/\s.heap.objs.size<=h1.objs.size/\h1=(s.heap.push (seqObj "list" #[] 0)).update s.heap.objs.size (Obj.mapSeq (·++(bs.map Value.ref).toArray)):=by
  refine ⟨_,λb o e=>?_,?_,rfl⟩
  ·exact (FD _ _ (Nat.ne_of_gt (E7 e))).trans (EZ _ e)
  ·rw[Heap.size_update,FE]
   exact Nat.le_succ _
 rw[<- e1]
 have a:(h1.push (seqObj "list" (bs.map Value.ref).toArray 0)).get? h1.objs.size=some (seqObj "list" (bs.map Value.ref).toArray 0):=E9 _ rfl
 have k2:∀ b o,s.heap.get? b=some o->(h1.push (seqObj "list" (bs.map Value.ref).toArray 0)).get? b=some o:=λb o e=>EZ _ (k1 b o e)
 show wpAny _ _ _ _ _ { s with heap:=h1.push (seqObj "list" (bs.map Value.ref).toArray 0) }
 refine ET (EV (wpAny_call_entry slot_list_sort ⟨_,a,rfl⟩ entry_list_sort (wG (s:={ s with heap:=h1.push (seqObj "list" (bs.map Value.ref).toArray 0) }) ?_ a (r.keep λb _ o e=>k2 b o e) g hs hsz d ⟨_,rfl,?_⟩) (args_list_sort _)))
 ·exact hu
 refine EU ⟨_,rfl,h _ h1.objs.size f (λb o e=>?_) ?_⟩
 ·have hb1:b < h1.objs.size:=E7 (k1 b o e)
  unfold sortedHeap
  refine (FD _ _ (Nat.ne_of_gt hb1)).trans (EZ _ (EZ _ ?_))
  exact (FD _ _ (Nat.ne_of_gt hb1)).trans (k2 b o e)
 ·unfold sortedHeap
  obtain ⟨e1,c⟩:∃ e1,((h1.push (seqObj "list" (bs.map Value.ref).toArray 0)).update h1.objs.size (Obj.mapSeq λ_=>#[])).get? h1.objs.size=some (seqObj "list" #[] e1):=⟨_,get?_update_seq a (λ_=>#[])⟩
  exact ⟨_,get?_update_seq (EZ _ (EZ _ c)) (λ_=>(is.map λi=>Value.ref (bs.getD i 0)).toArray)⟩
end
section
variable {X:Cx}
def xt (K:FG):List V->Hp->VK->Prop:=λxs H Q=>∃ (l:Addr) (bs:List Addr) (ns:List (List Int)) (is:List Nat),xs=[.ref l]/\SqL K H l (bs.map V.ref)/\ns.length=bs.length/\(∀ (i:Nat) (b:Addr) (n:List Int),bs[i]?=some b->ns[i]?=some n->H b=some (.tup (n.map V.int))) /\
 kOk ns/\bb ns=some is/\ns.length<=sizeLine/\is.length<=sizeLine/\∀ p,H p=none->Q (.ref p) (upd H p (.lst (is.map λi=>V.ref (bs.getD i 0))))
theorem td:∀ {us:List Value} {bs:List Addr},Vals (bs.map V.ref) us->us=bs.map Value.ref
 | _,[],h=>by cases h;rfl
 | _,b::bs,h=>by
  cases h with
  | cons r h =>
   cases (show _=Value.ref b from r)
   rw[Fm,td h]
theorem si (hu:X.A.units+2 < cLine):bN X (.builtin "sorted") (xt X.K):=by
 intro pins s σ H xs us Q I x h
 obtain ⟨l,bs,ns,is,rfl,hl,z,t,v,hs,hz,c,q⟩:=h
 obtain ⟨u,rfl,g⟩:=cW x
 cases (show u=Value.ref l from g)
 obtain ⟨its,j,p,_⟩:=I.list hl
 have m:=td j
 subst m
 refine iF hu (by simpa using p.isList) ⟨z,λi b n e1 y=>?_⟩ v hs (by lia) c λh' p f k ⟨e,he⟩=>?_
 ·obtain ⟨its,r,p,_⟩:=I.tuple (SqT.of (t i b n e1 y))
  exact ⟨_,p,lK r⟩
 ·have w:(is.map λi=>V.ref (bs.getD i 0))=(is.map λi=>bs.getD i 0).map V.ref:=by rw[FJ];rfl
  have d:(is.map λi=>Value.ref (bs.getD i 0))=(is.map λi=>bs.getD i 0).map Value.ref:=by rw[FJ];rfl
  refine ⟨.ref p,_,I.laid (a:=p) (o:=.lst (is.map λi=>V.ref (bs.getD i 0))) (t':=s.toks) (λb o q=>k b o q) f ⟨by rw[Fa];exact c,is.map (λi=>Value.ref (bs.getD i 0)),e,?_,he⟩,rfl,q p (I.hok.fresh f)⟩
  rw[w,d]
  exact iY _
end
end L2
end
section
namespace L2
open PySem PySem.W PySem.Spec PyProof.Rows
abbrev excO (a:Addr) (cls:Value):HO:=.ext λh=>∃ o,h.get? a=some o/\o.cls=cls
abbrev dP (ob:Obj) (a:Addr) (cls:Value):HO:=.frz ob (excO a cls)
structure ExcK (K:FG) (D:Addr):Prop where
 ga:findIn K (.ref D) "__getattribute__"=some (some (.builtin "BaseException.__getattribute__"))
 gt:findIn K (.ref D) "__getattr__"=some none
 cl:(clsIn K D).isSome=true
 ca:findIn K (.ref D) "__class__"=some (some (.builtin "object.__class__"))
 sp:specialIn K (.builtin "object.__class__") "__get__"=some (some (.builtin "getset_descriptor.__get__"))
 tk:takesIn K (.builtin "object.__class__")=some true
 ob:mroIn K D (.type "object")=some true
 be:mroIn K D (.type "BaseException")=some true
structure XName (K:FG) (c:String) (D:Addr):Prop where
 ns:nsIn K mainGlobals (Str.ofString c)=some (some (.ref D))
 ex:ExcK K D
theorem XName.inj {K:FG} (a:XName K c D) (b:XName K c D'):D=D':=by
 have:=a.ns.symm.trans b.ns
 cases this
 rfl
end L2
end
section
namespace L2
open PySem
section
variable {K:FG} {h:Heap} {mg:Str->Option Value}
theorem yw {h:Heap} {i:Nat} {p:Obj} {q:Nat×Obj} (a:h.objs[i]?=some p) (e:qm (i,p)=some q):q.1=i /\ h.get? i=some q.2:=by
  obtain ⟨c,d,x,y⟩:=p
  unfold Heap.get?
  rw[a]
  cases x <;> first | (cases e; exact ⟨rfl,rfl⟩) | cases e
theorem jI:∀ {is:List Nat} {l:List Obj} {a:Nat} {o:Obj},(∀ (j i:Nat) (p:Obj),is[j]?=some i->l[j]?=some p->h.objs[i]?=some p)->((is.zip l).filterMap qm).lookup a=some o->h.get? a=some o
 | [],_,_,_,_,e=>by cases e
 | _::_,[],_,_,_,e=>by cases e
 | b::is,p::l,a,o,hj,e=>by
  have k:=hj 0 b p rfl rfl
  have d:∀ (j i:Nat) (p:Obj),is[j]?=some i->l[j]?=some p->h.objs[i]?=some p:=λj i p h1 h2=>hj (j+1) i p (by simpa using h1) (by simpa using h2)
  rw[List.zip_cons_cons,List.filterMap_cons] at e
  cases hl:qm (b,p) with
  | none=>rw[hl] at e;exact jI d e
  | some q =>
   rw[hl] at e
   obtain ⟨h1,h2⟩:=yw k hl
   obtain ⟨f,g⟩:=q
   cases h1
   replace e:List.lookup a ((f,g)::(is.zip l).filterMap qm)=some o:=e
   rw[List.lookup_cons] at e
   cases c:a == f with
   | true=>rw[c] at e;cases eq_of_beq c;cases e;exact h2
   | false=>rw[c] at e;exact jI d e
theorem fragAt_in (h:Heap):(yT h).In h:=λ_ _ e=>jI (λj i p h1 h2=>by
 obtain ⟨a,rfl⟩:=Fb.mp h1
 simpa using h2) e
def stPos (s:Stmt):Pos:=match s with
 | .FunctionDef _ _ _ _ _ _ _ _ _ p=>p
 | _=>⟨0,0,0,0⟩
set_option tactic.hygienic true in
theorem Ez (X:K.In h) (G:h.Ns mainGlobals mg) (e:qy K n=lQ n st):Def K mg n st:=by
 unfold qy at e
 split at e
 ·rename_i f hf
  split at e
  ·rename_i b od fd sl hl
   unfold lQ at e
   obtain ⟨name,qual,params,body,scope,globals,closure,defaults,kw,doc,pm,an,cd,ct,bi⟩:=fd
   simp only[Option.some.injEq,Prod.mk.injEq] at e
   obtain ⟨rfl,rfl,rfl,rfl,rfl,rfl,rfl,rfl,rfl,a⟩:=e
   exact ⟨f,_,Er (st:=st) hl a (by unfold PySem.W.keepIn;simp only[hl]),PySem.W.mg_of X G hf⟩
  ·cases e
 ·cases e
theorem lz {α β:Type} {f g:α->β} {l:List α} (e:l.map f=l.map g) (i:Nat) {a:α} (h:l[i]?=some a):f a=g a:=List.map_inj_left.mp e a (Fc h)
theorem aX {ds:List (Str×Stmt)} (X:K.In h) (G:h.Ns mainGlobals mg) (e:ds.map (λp=>qy K p.1)=ds.map (λp=>lQ p.1 p.2)) (i:Nat) (hi:ds[i]?=some (n,st)):Def K mg n st:=Ez X G (lz e i hi)
theorem bS {l:List Str} (X:K.In h) (G:h.Ns mainGlobals mg) (e:l.map (PySem.W.nsIn K mainGlobals)=l.map (λ_=>some none)) (i:Nat) (hi:l[i]?=some n):mg n=none:=PySem.W.mg_none_of X G (lz e i hi)
set_option tactic.hygienic true in
theorem Ej {l:List (Str×Int)} {v:Int} (X:K.In h) (G:h.Ns mainGlobals mg) (e:l.map (λp=>oR K p.1)=l.map (λp=>some p.2)) (i:Nat) (hi:l[i]?=some (n,v)):∃ t,mg n=some (.int v t):=by
 have e:=lz e i hi
 unfold oR at e
 dsimp only at e
 split at e
 ·rename_i a t hs;cases e;exact ⟨t,PySem.W.mg_of X G hs⟩
 ·cases e
theorem walk_ofS {l:PySem.W.OpenLaw} {n k:Nat} {S:FG->Prop} {sp:FG->Sp} (L:l.most=some n) (r:n<=sizeLine) (t:d.params.defaults=[]) (I:Room k callerA) (B:∀ (w:World) (h:Heap),YP w h->∃ K:FG,K.In h/\S K) (F:∀ (w:World) (mg:Str->Option Value) (i:Addr) (h:Heap) (K:FG),S K->K.In h->h.Ns mainGlobals mg->mg d.name=some (.ref i) ->
   ∃ fd:FuncData,(∀ (s:Shared) (u:Value),BindsTo s fd ⟨[u],[]⟩ [(x,u)]) /\
    ∀ base:Heap,K.In base->base.Ns mainGlobals mg->FnOk l.prog w K mg base CX k i fd [x] (sp K)) (m:∀ (K:FG) (H:Hp) (a:Addr) (ns:List Int),ns.length<=n->BJ H->SqL K H a (ns.map V.int)->sp K [.ref a] H (λv _=>v=.bl true) λ_ _ _=>False) (j:∀ (H:Hp) (s:Shared) (e:Value) (s':Shared),CX [] H s (λ_ _ _=>False) e s'->False) :
  PySem.W.WalkO q loose XP YP l.row.toRowW d [] (λf vs=>PySem.call f vs):=by
 refine Att.attach_call L t λw s₀ M mg mb i o pm cd doc a vs ns G Y N hd D p c hints hlen A=>?_
 obtain ⟨K,z,y⟩:=B w _ Y
 obtain ⟨fd,E,J⟩:=F w mg i _ K y z G.T.g p
 exact yx z G.T.g G.T.b G.T.builtins G.T.nolimit A c hints (FH hlen r) I J E (λH C y=>m K H a ns hlen C y) λH e s'=>j H M e s'
end
end L2
end
section
namespace L2
open PySem PySem.Spec PyProof.Rows
def NoCtx (h:Heap) (a:Addr):Prop:=∃ o vs,h.get? a=some o/\o.data=.fields vs/\vs[2]?=some Value.none
theorem NoCtx.keep (x:NoCtx h a) (k:∀ o,h.get? a=some o->h'.get? a=some o):NoCtx h' a :=
 let ⟨o,vs,e,r⟩:=x;⟨o,vs,k o e,r⟩
end L2
end
section
namespace L2
open PySem PySem.Spec PyProof.Rows
def cD (Φ:Heap->Prop) {α:Type}:Sem α->Prop
 | .pure _ | .raise _ | .unsupported _ | .finish _=>True
 | .rule _ k=>cD Φ (k ())
 | .at _ k=>cD Φ (k ())
 | .point _ k=>cD Φ (k ())
 | .load _ _ k=>∀ o,cD Φ (k o)
 | .loadIfAlive _ k=>∀ o,cD Φ (k o)
 | .update a _ f k=>(∀ h,Φ h->Φ (h.update a f))/\cD Φ (k ())
 | .alloc _ k=>∀ a,cD Φ (k a)
 | .fresh k=>∀ t,cD Φ (k t)
 | .ask k=>∀ x,cD Φ (k x)
 | .handled _ k=>∀ v,cD Φ (k v)
 | .stack k=>∀ l,cD Φ (k l)
 | _=>False
theorem zR (push:∀ h o,Φ h->Φ (h.push o)) (t:Sem α):∀ {Q:α->Pos->Shared->Prop} {E:Value->Pos->Shared->Prop} {p:Pos} {s:Shared},cD Φ t->Φ s.heap->Sem.wp M Γ t Q E p s->Sem.wp M Γ t (λa p s'=>Q a p s'/\Φ s'.heap) (λe p s'=>E e p s'/\Φ s'.heap) p s:=by
 induction t with
 | pure a=>intro Q E p s _ f h;rw[Sem.wp] at h ⊢;exact ⟨h,f⟩
 | raise e=>intro Q E p s _ f h;rw[Sem.wp] at h ⊢;exact ⟨h,f⟩
 | unsupported w=>intro Q E p s _ f h;rw[Sem.wp] at h;exact h.elim
 | finish e=>intro Q E p s _ f h;rw[Sem.wp] at h;exact h.elim
 | rule _ k ih=>intro Q E p s c f h;rw[Sem.wp] at h ⊢;exact ih () c f h
 | «at» _ k ih=>intro Q E p s c f h;rw[Sem.wp] at h ⊢;exact ih () c f h
 | point _ k ih=>intro Q E p s c f h;rw[Sem.wp] at h ⊢;exact ih () c f h
 | load a _ k ih=>intro Q E p s c f h;rw[Sem.wp] at h ⊢;obtain ⟨o,e,h⟩:=h;exact ⟨o,e,ih o (c o) f h⟩
 | loadIfAlive a k ih=>intro Q E p s c f h;rw[Sem.wp] at h ⊢;exact ih _ (c _) f h
 | update a _ g k ih=>intro Q E p s c f h;rw[Sem.wp] at h ⊢;exact ⟨h.1,ih () c.2 (c.1 _ f) h.2⟩
 | alloc o k ih=>intro Q E p s c f h;rw[Sem.wp] at h ⊢;exact ih _ (c _) (push _ _ f) h
 | fresh k ih=>intro Q E p s c f h;rw[Sem.wp] at h ⊢;exact ih _ (c _) f h
 | ask k ih=>intro Q E p s c f h;rw[Sem.wp] at h ⊢;exact ih _ (c _) f h
 | handled _ k ih=>intro Q E p s c f h;rw[Sem.wp] at h ⊢;exact ih _ (c _) f h
 | stack k ih=>intro Q E p s c f h;rw[Sem.wp] at h ⊢;exact ih _ (c _) f h
 | _=>intro Q E p s c;exact False.elim c
theorem cJ (push:∀ h o,Φ h->Φ (h.push o)) (c:cD Φ t) (f:Φ s.heap) (h:wpAny M A t Q E s):wpAny M A t (λa s'=>Q a s'/\Φ s'.heap) (λe s'=>E e s'/\Φ s'.heap) s :=
 λΓ p i=>zR push t c f (h Γ p i)
theorem aI (t:Sem α):cD Φ t->(∀ a,cD Φ (f a))->cD Φ (t.bind f):=by
 induction t with
 | pure a=>exact λ_ k=>k a
 | raise e=>exact λ_ _=>trivial
 | unsupported w=>exact λ_ _=>trivial
 | finish e=>exact λ_ _=>trivial
 | rule _ k ih=>exact λc q=>ih () c q
 | «at» _ k ih=>exact λc q=>ih () c q
 | point _ k ih=>exact λc q=>ih () c q
 | load a _ k ih=>exact λc q o=>ih o (c o) q
 | loadIfAlive a k ih=>exact λc q o=>ih o (c o) q
 | update a _ g k ih=>exact λc q=>⟨c.1,ih () c.2 q⟩
 | alloc o k ih=>exact λc q a=>ih a (c a) q
 | fresh k ih=>exact λc q a=>ih a (c a) q
 | ask k ih=>exact λc q a=>ih a (c a) q
 | handled _ k ih=>exact λc q a=>ih a (c a) q
 | stack k ih=>exact λc q a=>ih a (c a) q
 | _=>exact λc _=>c.elim
end L2
end
section
namespace L2
open PySem PySem.Spec PyProof.Rows
def NoCtD (h:Heap) (a:Addr) (da:Option Addr):Prop:=∃ o vs,h.get? a=some o/\o.data=.fields vs/\vs[2]?=some Value.none/\o.dict=da
theorem NoCtD.keep {h h':Heap} {a:Addr} {da:Option Addr} (x:NoCtD h a da) (k:∀ o,h.get? a=some o->h'.get? a=some o):NoCtD h' a da :=
 let ⟨o,vs,e,r⟩:=x;⟨o,vs,k o e,r⟩
theorem cN {da:Option Addr}:∀ (h:Heap) (o:Obj),NoCtD h a da->NoCtD (h.push o) a da:=λh o x=>x.keep λ_ e=>EZ _ e
theorem oE {da:Option Addr} {i:Nat} (hi:i≠2):∀ h:Heap,NoCtD h a da->NoCtD (h.update b (Obj.mapFields (·.setIfInBounds i v))) a da:=λh x=>by
 by_cases e:b=a
 ·subst e
  obtain ⟨o,vs,d,hd,h2,h3⟩:=x
  have hd2:=Obj.data_mapFields hd (·.setIfInBounds i v)
  exact ⟨_,_,Fs _ d (Obj.isFreed_of_fields hd2),hd2,by rw[Array.getElem?_setIfInBounds_ne hi];exact h2,by obtain ⟨_,_,c,_⟩:=o;cases c <;> exact h3⟩
 ·exact x.keep λo q=>(FD _ _ e).trans q
theorem p6 {da:Option Addr} (hf:∀ o,(f o).data=o.data) (c:∀ o,(f o).dict=o.dict):∀ h:Heap,NoCtD h a da->NoCtD (h.update b f) a da:=λh x=>by
 by_cases e:b=a
 ·subst e
  obtain ⟨o,vs,d,hd,h2,h3⟩:=x
  exact ⟨f o,vs,Fs _ d (Obj.isFreed_of_fields ((hf o).trans hd)),(hf o).trans hd,h2,(c o).trans h3⟩
 ·exact x.keep λo q=>(FD _ _ e).trans q
section
variable {a:Addr} {da:Option Addr}
theorem me (v:Value):cD (NoCtD · a da) (fieldsOf v):=by
 unfold fieldsOf
 cases v <;> try exact trivial
 exact λo=>by
  show cD _ (match o.data with | .fields vs=>_ | _=>_)
  split <;> exact trivial
theorem iJ (v:Value) (i:Nat):cD (NoCtD · a da) (field v i):=by
 unfold field
 refine aI _ (me v) λvs=>?_
 split <;> exact trivial
theorem eg (v:Value) {i:Nat} (hi:i≠2) (x:Value):cD (NoCtD · a da) (setField v i x):=by
 unfold setField
 cases v <;> try exact trivial
 exact λo=>by
  show cD _ (match o.data with | .fields vs=>_ | _=>_)
  split
  ·split
   ·exact ⟨oE hi,trivial⟩
   ·exact trivial
  ·exact trivial
theorem fW (e:Value) (f:Option Addr):cD (NoCtD · a da) (setFlight e f):=by
 unfold setFlight
 refine aI _ (iJ e 1) λtb=>?_
 split
 ·exact eg _ (by decide) _
 ·exact trivial
theorem qZ (f:Addr) (b:Bool):cD (NoCtD · a da) (entryPlaceOf f b):=by
 unfold entryPlaceOf
 refine aI _ (λ_=>trivial) λl=>?_
 split <;> exact trivial
theorem k9 (t:String) (vs:List Value):cD (NoCtD · a da) (newFields t vs):=by
 unfold newFields newObj
 dsimp only
 split
 ·exact trivial
 ·exact λ_=>trivial
theorem uV (env:Env) (b:Bool):∀ l:List Env,cD (NoCtD · a da) (keptBack env b l)
 | []=>by
  simp only[keptBack]
  split
  ·exact trivial
  ·exact aI _ (aI _ (λ_=>trivial) λ_=>trivial) λ_=>trivial
 | _::_=>trivial
theorem k8:∀ l:List Env,cD (NoCtD · a da) (readyFrames l)
 | []=>trivial
 | env::outer=>by
  unfold readyFrames
  split
  ·refine aI _ (λ_=>trivial) λo=>?_
   split
   ·exact trivial
   ·refine aI _ ?_ λ_=>aI _ (uV _ _ _) λ_=>aI _ ⟨p6 (λ_=>rfl) λ_=>rfl,trivial⟩ λ_=>k8 outer
    unfold behindIsImport
    split
    ·exact trivial
    ·split
     ·exact trivial
     ·exact aI _ (iJ _ _) λ_=>trivial
  ·exact trivial
theorem nZ (env:Env):cD (NoCtD · a da) (PySem.frameOf env):=by
 unfold PySem.frameOf
 refine aI _ (aI _ (λ_=>trivial) λ_=>trivial) λl=>?_
 refine aI _ ?_ λr=>?_
 ·unfold frameObject
  split
  ·exact trivial
  ·exact aI _ (k8 _) λ_=>trivial
 ·split <;> exact trivial
theorem mL (e:Value) (env:Env):cD (NoCtD · a da) (noteFrame e env):=by
 unfold noteFrame
 repeat' first
  | exact trivial
  | exact eg _ (by decide) _
  | refine aI _ (iJ _ _) (λ_=>?_)
  | refine aI _ (eg _ (by decide) _) (λ_=>?_)
  | refine aI _ (nZ _) (λ_=>?_)
  | refine aI _ (qZ _ _) (λ_=>?_)
  | refine aI _ (k9 _ _) (λ_=>?_)
  | split
theorem eV (e:Value) (env:Env):cD (NoCtD · a da) (leaving env e):=aI _ (mL e env) λ_=>fW e none
end
section
variable {M:Model} {A:Around} {E:Value->Shared->Prop} {s:Shared} {base h:Heap} {env:Env} {outer l:List Env} {L e:Addr} {cls a0:Value} {args:List Value} {da:Option Addr} {Q:Unit->Shared->Prop}
theorem oN (b:A.frames=some (env::outer)) (hf:env.frame=some L) (f:base.StaysIn h) (hl:h.FunFrames base (env::outer)) (g:Heap.MadeExcOf h s.heap e cls args)
  (i:∀ h' t,Heap.FlyingW base outer e cls (.ref t) h'->s.heap.UpToSlots h'->NoCtD h' e none->Q () { s with heap:=h' }):wpAny M A (leaving env (.ref e)) Q E s:=by
 have c:NoCtD s.heap e none:=by
  obtain ⟨t,he,_⟩:=g.there
  exact ⟨_,_,he,rfl,rfl,rfl⟩
 refine wpAny_mono (cJ cN (eV _ _) c (wpAny_leaves_madeW (Q:=λ_ s2=>∃ h' t,s2={ s with heap:=h' }/\Heap.FlyingW base outer e cls (.ref t) h'/\s.heap.UpToSlots h') b hf f hl g λh' t a _ _ d=>⟨h',t,rfl,a,d⟩)) (λ_ s2 q=>?_) λ_ _ z=>z.1
 obtain ⟨⟨h',t,rfl,a,d⟩,n⟩:=q
 exact i h' t a d n
theorem oM {b:Obj} {vs:Array Value} (c:A.frames=some (env::outer)) (hf:env.frame=some L) (f:base.StaysIn s.heap) (hl:s.heap.FunFrames base (env::outer)) (he:s.heap.get? e=some b) (g:base.get? e=none) (hd:b.data=.fields vs) (h0:vs[0]?=some a0) (h1:vs[1]?=some .none) (h2:vs[2]?=some .none)
  (h:∀ h',Heap.FlyingW base outer e b.cls a0 h'->s.heap.UpToSlots h'->NoCtD h' e b.dict->Q () { s with heap:=h' }):wpAny M A (leaving env (.ref e)) Q E s:=by
 refine wpAny_mono (cJ cN (eV _ _) (⟨b,vs,he,hd,h2,rfl⟩:NoCtD s.heap e b.dict) (wpAny_leaving_firstW (Q:=λ_ s2=>∃ h',s2={ s with heap:=h' }/\Heap.FlyingW base outer e b.cls a0 h'/\s.heap.UpToSlots h') c hl hf he f g hd h1 h0 λh' z=>?_)) (λ_ s2 q=>?_) λ_ _ z=>z.1
 ·obtain ⟨k1,⟨_,_,k2⟩,k3,i⟩:=z
  exact ⟨h',rfl,⟨k1,g,k2,k3⟩,i⟩
 ·obtain ⟨⟨h',rfl,a,d⟩,n⟩:=q
  exact h h' a d n
theorem rR (f:A.frames=some (env::outer)) (hf:env.frame=some L) (b:Heap.FlyingW base (env::outer) e cls a0 s.heap) (c:NoCtD s.heap e da)
  (g:∀ h',Heap.FlyingW base outer e cls a0 h'->s.heap.UpToSlots h'->NoCtD h' e da->Q () { s with heap:=h' }):wpAny M A (leaving env (.ref e)) Q E s:=by
 refine wpAny_mono (cJ cN (eV _ _) c (wpAny_leaves_onW (Q:=λ_ s2=>∃ h',s2={ s with heap:=h' }/\Heap.FlyingW base outer e cls a0 h'/\s.heap.UpToSlots h') f hf b λh' a d=>⟨h',rfl,a,d⟩)) (λ_ s2 q=>?_) λ_ _ z=>z.1
 obtain ⟨⟨h',rfl,a,d⟩,n⟩:=q
 exact g h' a d n
theorem vw (f:A.frames=some (env::outer)) (hf:env.frame=some L) (b:Heap.FlyingW base (env::outer) e cls a0 s.heap) (c:NoCtD s.heap e da)
  (g:∀ h',Heap.HeldW base (env::outer) e cls a0 L h'->s.heap.UpToSlots h'->NoCtD h' e da->Q () { s with heap:=h' }):wpAny M A (noteFrame (.ref e) env) Q E s:=by
 refine wpAny_mono (cJ cN (mL _ _) c (wpAny_looks_onW (Q:=λ_ s2=>∃ h',s2={ s with heap:=h' }/\Heap.HeldW base (env::outer) e cls a0 L h'/\s.heap.UpToSlots h') f hf b λh' a d=>⟨h',rfl,a,d⟩)) (λ_ s2 q=>?_) λ_ _ z=>z.1
 obtain ⟨⟨h',rfl,a,d⟩,n⟩:=q
 exact g h' a d n
theorem Ec (f:Heap.HeldW base l e cls a0 L s.heap) (c:NoCtD s.heap e da) (b:∀ h',Heap.FlyingW base l e cls a0 h'->s.heap.UpToSlots h'->NoCtD h' e da->Q () { s with heap:=h' }):wpAny M A (setFlight (.ref e) none) Q E s:=by
 refine wpAny_mono (cJ cN (fW _ _) c (wpAny_landsW (Q:=λ_ s2=>∃ h',s2={ s with heap:=h' }/\Heap.FlyingW base l e cls a0 h'/\s.heap.UpToSlots h') f λh' a d=>⟨h',rfl,a,d⟩)) (λ_ s2 q=>?_) λ_ _ z=>z.1
 obtain ⟨⟨h',rfl,a,d⟩,n⟩:=q
 exact b h' a d n
theorem oO (f:Heap.FlyingW base l e cls a0 s.heap) (c:NoCtD s.heap e da) (b:∀ h',Heap.FlyingW base l e cls a0 h'->s.heap.UpToSlots h'->NoCtD h' e da->Q () { s with heap:=h' }):wpAny M A (setFlight (.ref e) none) Q E s:=by
 refine wpAny_mono (cJ cN (fW _ _) c (lands_againW (Q:=λ_ s2=>∃ h',s2={ s with heap:=h' }/\Heap.FlyingW base l e cls a0 h'/\s.heap.UpToSlots h') f λh' a d=>⟨h',rfl,a,d⟩)) (λ_ s2 q=>?_) λ_ _ z=>z.1
 obtain ⟨⟨h',rfl,a,d⟩,n⟩:=q
 exact b h' a d n
end
def NoC (ob:Obj):Prop:=∃ vs,ob.data=.fields vs/\vs[2]?=some Value.none
def Hd (X:Cx):Prop:=∃ a ob u,X.A.handled=some (.ref a)/\X.H₀ a=some (.frz ob u)/\NoC ob
end L2
end
section
namespace L2
open PySem PySem.Spec PyProof.Rows
def Cov (fs:List Addr) (H':Hp) (h0 h' B:Heap):Prop:=∀ b o,h'.get? b=some o->b ∉ fs->(H' b≠none\/∃ o0,h0.get? b=some o0)->B.get? b=some o
structure Fly (P:Program) (w:World) (outer:List Env) (H:Hp) (s:Shared) (H':Hp) (a:Addr) (cls:Value) (da:Option Addr) (s':Shared):Prop where
 os:s'.os=s.os
 bare:AllBare s'.gens
 un:Un (frs outer) [] H H' s.heap s'.heap
 hok:HOk P w H' s'.heap
 free:H' a=none
 new:s.heap.get? a=none
 fl:∃ B a0,Heap.FlyingW B outer a cls a0 s'.heap/\Cov (frs outer) H' s.heap s'.heap B
 ctx:NoCtD s'.heap a da
def CXe (P:Program) (w:World):CXT:=λouter H s E e s'=>∃ a cls da H',e=.ref a/\Fly P w outer H s H' a cls da s'/\E cls da H'
section
variable {X:Cx} {pins:List (Addr×Obj)} {σ:St} {H:Hp} {s:Shared}
theorem Inv.noLoc (I:Inv X pins σ H s) (e:X.s₀.heap.get? b=some o):b≠X.env.locals:=Fi (Fq (E7 e) I.ok.above)
theorem HOk.at (ok:HOk P w H h) (e:H b≠none):∃ o,h.get? b=some o:=by
 cases q:H b with
 | none=>exact absurd q e
 | some u =>
  have:=ok b u q
  cases u with
  | lst xs=>obtain ⟨_,_,_,_,e⟩:=this;exact ⟨_,e⟩
  | tup xs=>obtain ⟨_,_,_,o,e,_⟩:=this;exact ⟨o,e⟩
  | dK kvs=>obtain ⟨_,_,_,_,o,_,_,e,_⟩:=this;exact ⟨o,e⟩
  | dT kvs=>obtain ⟨_,_,_,_,o,_,_,e,_⟩:=this;exact ⟨o,e⟩
  | set S n=>obtain ⟨o,_,_,_,e,_⟩:=this;exact ⟨o,e⟩
  | ins C dx fs=>obtain ⟨_,_,_,e,_⟩:=this;exact ⟨_,e⟩
  | own y=>exact this
  | xd fs=>obtain ⟨_,⟨o,_,_,e,_⟩,_⟩:=this;exact ⟨o,e⟩
  | rng lo hi=>obtain ⟨_,_,_,e⟩:=this;exact ⟨_,e⟩
  | frz ob u=>obtain ⟨e,_⟩:=this;exact ⟨_,e⟩
  | tbl ps=>exact ⟨_,this⟩
  | met f y=>exact ⟨_,this⟩
  | ext φ=>obtain ⟨_,e,_⟩:=this;exact e
theorem oK (hex:X.ex=[]) (I:Inv X pins σ H s) (k1:∀ b o,s.heap.get? b=some o->b ∉ frs X.stack->(H b≠none\/∃ o0,X.s₀.heap.get? b=some o0)->h'.get? b=some o) (k2:∀ b o,s.heap.get? b=some o->(∀ vs,o.data≠.fields vs)->∃ sl,h'.get? b=some { o with slots:=sl }):Un (frs X.outer) [] X.H₀ H X.s₀.heap h'/\HOk X.prog X.w H h':=by
 have g:∀ b:Addr,b ∉ X.ex:=λb z=>by rw[hex] at z;cases z
 have out:∀ b o,X.s₀.heap.get? b=some o->b ∉ frs X.outer->b ∉ frs X.stack:=λb o e n z=>by
  rcases E5.mp (I.stkSub b z) with z | z
  ·exact I.noLoc e z
  ·exact n z
 have f:∀ b∈frs X.outer,∀ o,s.heap.get? b=some o->∀ vs,o.data≠.fields vs:=λb a o e=>by
  obtain ⟨_,o',k,d⟩:=I.funs.mem a
  rw[e] at k;cases k;exact d
 refine ⟨⟨λb o e n a _=>?_,λb o e n a _=>?_,λb o e n _=>I.base.free b o e n (g b),λb o e _=>?_,I.base.tups,I.base.frzs,I.base.tbls⟩,λb u e=>?_⟩
 ·exact k1 b o (I.base.keep b o e n a (g b)) (out b o e a) (.inr ⟨o,e⟩)
 ·obtain ⟨sl,e1⟩:=I.base.slot b o e n a (g b)
  obtain ⟨i,j⟩:=k2 b _ e1 (f b a _ e1)
  exact ⟨i,j⟩
 ·obtain ⟨o',e1⟩:=I.base.there b o e (g b)
  by_cases a:b∈frs X.outer
  ·obtain ⟨sl,j⟩:=k2 b o' e1 (f b a o' e1)
   exact ⟨_,j⟩
  ·exact ⟨o',k1 b o' e1 (out b o e a) (.inr ⟨o,e⟩)⟩
 ·refine (I.hok b u e).stay (λc v h z=>?_) (λ_ z=>z) λ_ _ z=>z
  have l:H c≠none:=by
   rcases h with rfl | h
   ·rw[e];intro z;cases z
   ·rw[h];intro z;cases z
  exact k1 c v z (λa=>l (I.stkFree c a)) (.inl l)
theorem lH (hex:X.ex=[]) (I:Inv X pins σ H s) (k1:∀ b o,s.heap.get? b=some o->b ∉ frs X.stack->(H b≠none\/∃ o0,X.s₀.heap.get? b=some o0)->B.get? b=some o) (st:B.StaysIn h'):Cov (frs X.outer) H X.s₀.heap h' B:=λb o e n c=>by
 have h:∀ b:Addr,b ∉ X.ex:=λb z=>by rw[hex] at z;cases z
 have h1:∃ a,s.heap.get? b=some a/\b ∉ frs X.stack:=by
  rcases c with c | ⟨o0,d⟩
  ·obtain ⟨a,e1⟩:=I.hok.at c
   exact ⟨a,e1,λg=>c (I.stkFree b g)⟩
  ·obtain ⟨a,e1⟩:=I.base.there b o0 d (h b)
   refine ⟨a,e1,λz=>?_⟩
   rcases E5.mp (I.stkSub b z) with z | z
   ·exact I.noLoc d z
   ·exact n z
 obtain ⟨a,e1,i⟩:=h1
 have f:=k1 b a e1 i c
 rw[st b a f] at e
 cases e
 exact f
theorem Fly.inv {da:Option Addr} (I:Inv X pins σ H s) (f:Fly X.prog X.w X.stack H s H' a cls da s'):Inv X pins σ H' s' :=
 I.call' f.os f.un f.hok f.bare (λ_ z=>nomatch z)
theorem Inv.newAt (hex:X.ex=[]) (I:Inv X pins σ H s) (n:s.heap.get? a=none):X.s₀.heap.get? a=none/\H a=none:=by
 constructor
 ·cases q:X.s₀.heap.get? a with
  | none=>rfl
  | some o =>
   obtain ⟨o',e⟩:=I.base.there a o q (by rw[hex];simp)
   rw[n] at e;cases e
 ·cases q:H a with
  | none=>rfl
  | some u =>
   obtain ⟨o,e⟩:=I.hok.at (b:=a) (by rw[q];intro z;cases z)
   rw[n] at e;cases e
end
section
variable {P:Program} {w:World} {K:FG} {mg:Str->Option Value} {base:Heap} {N:List Str} {qual:Str} {scope:Scope} {f:Addr} {cd:Value} {A:Around} {outer:List Env} {s0:Shared} {H0:Hp} {E:XK} {pins:List (Addr×Obj)} {σ:St} {H:Hp} {s s':Shared}
theorem zQ (I:Inv (dn (CXe P w) P w K mg base N qual scope f cd A outer s0 H0 E) pins σ H s) (d:Heap.MadeExcOf s.heap s'.heap a cls vs) (k:s'.os=s.os) (j:s'.gens=s.gens) (r:E cls none H) :
  (dn (CXe P w) P w K mg base N qual scope f cd A outer s0 H0 E).xe (.ref a) s':=by
 have c:∀ env∈(PyProof.Rows.envOfC qual scope s0.heap.objs.size f cd::outer),∀ b,env.frame=some b->b∈frs (PyProof.Rows.envOfC qual scope s0.heap.objs.size f cd::outer):=λenv he b l=>List.mem_filterMap.mpr ⟨env,he,l⟩
 obtain ⟨i,p⟩:=I.newAt rfl d.new
 refine oN (base:=PySem.W.hideAll s.heap (frs (PyProof.Rows.envOfC qual scope s0.heap.objs.size f cd::outer))) (h:=s.heap) (L:=s0.heap.objs.size) I.ok.frames rfl (λb o q=>PySem.W.of_hideAll _ q) (PySem.W.funFrames_hide I.stack c) d λh' t f1 f4 g=>?_
 have k1:∀ b o,s.heap.get? b=some o->b ∉ frs (PyProof.Rows.envOfC qual scope s0.heap.objs.size f cd::outer)->(PySem.W.hideAll s.heap (frs (PyProof.Rows.envOfC qual scope s0.heap.objs.size f cd::outer))).get? b=some o:=λb o e n=>PySem.W.hideAll_get _ e n
 obtain ⟨u,ok⟩:=oK rfl I (h':=h') (λb o e n _=>f1.1 b o (k1 b o e n)) λb o e hd=>by
  obtain ⟨sl,m⟩:=f4 b o (d.keeps b o e) hd
  exact ⟨sl,m⟩
 refine ⟨a,cls,none,H,rfl,⟨k.trans I.os,by show AllBare s'.gens;rw[j];exact I.bare,u,ok,p,i,⟨_,_,f1,lH rfl I (λb o e n _=>k1 b o e n) f1.1⟩,g⟩,r⟩
theorem wr {a:Addr} {ob:Obj} {vs:Array Value} {a0:Value} (I:Inv (dn (CXe P w) P w K mg base N qual scope f cd A outer s0 H0 E) pins σ H s) (he:s.heap.get? a=some ob) (hd:ob.data=.fields vs) (h0:vs[0]?=some a0) (h1:vs[1]?=some .none) (h2:vs[2]?=some .none) (h:s0.heap.get? a=none) (g:H a=none) (j:E ob.cls ob.dict H) :
  (dn (CXe P w) P w K mg base N qual scope f cd A outer s0 H0 E).xe (.ref a) s:=by
 have d:∀ env∈(PyProof.Rows.envOfC qual scope s0.heap.objs.size f cd::outer),∀ b,env.frame=some b->b∈a::frs (PyProof.Rows.envOfC qual scope s0.heap.objs.size f cd::outer):=λenv he b i=>EY _ (List.mem_filterMap.mpr ⟨env,he,i⟩)
 have k1:∀ b o,s.heap.get? b=some o->b ∉ frs (PyProof.Rows.envOfC qual scope s0.heap.objs.size f cd::outer)->(H b≠none\/∃ o0,s0.heap.get? b=some o0)->(PySem.W.hideAll s.heap (a::frs (PyProof.Rows.envOfC qual scope s0.heap.objs.size f cd::outer))).get? b=some o:=λb o e n c=>PySem.W.hideAll_get _ e λz=>by
  rcases E5.mp z with z | z
  ·subst z
   rcases c with c | ⟨_,c⟩
   ·exact c g
   ·rw[h] at c;cases c
  ·exact n z
 refine oM (base:=PySem.W.hideAll s.heap (a::frs (PyProof.Rows.envOfC qual scope s0.heap.objs.size f cd::outer))) (L:=s0.heap.objs.size) I.ok.frames rfl (λb o q=>PySem.W.of_hideAll _ q) (PySem.W.funFrames_hide I.stack d) he (PySem.W.hideAll_none _ EW) hd h0 h1 h2 λh' f1 f4 k=>?_
 obtain ⟨u,ok⟩:=oK rfl I (h':=h') (λb o e n c=>f1.1 b o (k1 b o e n c)) f4
 exact ⟨a,ob.cls,ob.dict,H,rfl,⟨I.os,I.bare,u,ok,g,h,⟨_,_,f1,lH rfl I k1 f1.1⟩,k⟩,j⟩
theorem Cm (I:Inv (dn (CXe P w) P w K mg base N qual scope f cd A outer s0 H0 E) pins σ H s) (h:CXe P w (PyProof.Rows.envOfC qual scope s0.heap.objs.size f cd::outer) H s E1 e s') (m:∀ cls da H',E1 cls da H'->E cls da H') :
  (dn (CXe P w) P w K mg base N qual scope f cd A outer s0 H0 E).xe e s':=by
 obtain ⟨a,cls,da,H',rfl,F,i⟩:=h
 have d:=Fly.inv I F
 obtain ⟨B,a0,f1,g⟩:=F.fl
 have cF:s0.heap.get? a=none:=(I.newAt rfl F.new).1
 have k1:∀ b o,s'.heap.get? b=some o->b ∉ frs (PyProof.Rows.envOfC qual scope s0.heap.objs.size f cd::outer)->(H' b≠none\/∃ o0,s0.heap.get? b=some o0)->B.get? b=some o:=λb o e n c=>by
  refine g b o e n ?_
  rcases c with c | ⟨o0,k⟩
  ·exact .inl c
  ·exact .inr (I.base.there b o0 k (λz=>nomatch z))
 refine rR (L:=s0.heap.objs.size) I.ok.frames rfl f1 F.ctx λh' g1 g2 j=>?_
 obtain ⟨u,ok⟩:=oK rfl d (h':=h') (λb o e n c=>g1.1 b o (k1 b o e n c)) λb o e hd=>by
  obtain ⟨sl,l⟩:=g2 b o e hd
  exact ⟨sl,l⟩
 exact ⟨a,cls,da,H',rfl,⟨d.os,d.bare,u,ok,F.free,cF,⟨B,a0,g1,lH rfl d k1 g1.1⟩,j⟩,m cls da H' i⟩
end
end L2
end
section
namespace L2
open PySem PySem.Spec PyProof.Rows
structure ECls (K:FG) (mg:Str->Option Value) (x:Str) (C:Addr):Prop where
 bound:mg x=some (.ref C)
 ok:PySem.W.excIn K C iz "ValueError.__new__"=true
set_option tactic.hygienic true in
theorem vO {K:FG} (X:K.In h) (q:PySem.W.excIn K C bmB nid=true) :
  ∃ bm N nm d bs hdct sn sub ab col dd k0 k1 k2 k3 k5 mN,h.get? C=some (excClassObj nm d C N bs bm hdct sn sub ab col dd k0 k1 k2 k3 k5 nid)/\h.Ns N mN/\mN "__init__"=none/\OwnTail h bmB bm:=by
 unfold PySem.W.excIn at q
 split at q
 ·rename_i dd cd sl o
  split at q
  ·rename_i m bm k0 k1 k2 k3 n k5 hm hs
   have j:=Bool.and_eq_true_iff.mp q
   have g:=Bool.and_eq_true_iff.mp j.1
   have i:=Bool.and_eq_true_iff.mp g.1
   have f:=Bool.and_eq_true_iff.mp i.1
   have e:=Bool.and_eq_true_iff.mp f.1
   have e1:m=C:=beq_iff_eq.mp e.1
   have p:n=nid:=beq_iff_eq.mp e.2
   subst e1 p
   have a:cd.hasDel=false:=by
    have:=f.2
    cases k:cd.hasDel
    ·rfl
    ·rw[k] at this;cases this
   have hok:=g.2
   have b:=beq_iff_eq.mp j.2
   have c:=i.2
   obtain ⟨nm,bs,mro,ns,d,hd,sn,sub,ab,col,del⟩:=cd
   dsimp only at hm a hok b c
   subst hm a
   obtain ⟨l⟩:=sl
   have hl:l=[k0,k1,k2,k3,some (.builtin n),k5]:=hs
   subst hl
   exact ⟨bm,ns,nm,d,bs,hd,sn,sub,ab,col,dd,k0,k1,k2,k3,k5,_,X _ _ o,.of_isNs (PySem.W.isNs_of_in X hok),PySem.W.nsMap_none_of_in X hok b,PySem.W.tail_of_in X c⟩
  ·cases q
 ·cases q
section
variable {X:Cx} {x:Str} {C:Addr} {np cpos pos:Pos} {e:Expr} {ta:TA}
def wB (a:St->Hp->Prop) (ta:TA):TS:=λ_ σ H=>ta σ H λvs H1=>vs.length<=1000/\a σ H1
theorem xG (c:ECls X.K X.mg x C) (m:X.calm=true) (g:Gl X x) (hd:(x == ("__debug__":Str))=false) (l:PA X [e] ta) (f:St->Hp->Prop)
  (o:∀ (pins:List (Addr×Obj)) (σ:St) (H:Hp) (s s':Shared) (a:Addr) (vs:List Value),Inv X pins σ H s->f σ H->Heap.MadeExcOf s.heap s'.heap a (.ref C) vs->s'.os=s.os->s'.gens=s.gens->X.xe (.ref a) s')
  (he:starEach [e] X.env=[(false,eval e X.env)]):PS X (.Raise (some (.Call (.Name x np) [e] [] cpos)) none pos) (wB f ta):=by
 intro pins s σ H D I h
 have t:X.K.In s.heap:=I.kIn
 obtain ⟨bm,N,nm,n,bs,hdct,sn,sub,ab,col,dd,k0,k1,k2,k3,k5,mN,k,j,d,T⟩:=vO I.mod.kin c.ok
 have FB:=PySem.F.excBase_ValueError
 refine wpAny_Raise_call_subT (C:=C) (nm:=nm) (q:=n) (N:=N) (bs:=bs) (bm:=bm) (hdct:=hdct) (sn:=sn) (sub:=sub) (ab:=ab) (col:=col) (dd:=dd) (k0:=k0) (k1:=k1) (k2:=k2) (k3:=k3) (k5:=k5) FB (mN:=mN) (T.hasType FB.hasBase) (I.ok.hd m) (by rw[he];rfl) d (ft I g c.bound ⟨rfl,?_⟩ hd)
 have h1:=l cpos pins s σ H _ I h
 rw[he] at h1 ⊢
 refine Calls.evalArgs_plain (wpAny_mono h1 (λus s1 ⟨vs,H1,b,r,i,p⟩=>⟨rfl,?_,b.bk _ _ k,j.keeps b.bk,T.keeps b.bk,λh' a hm=>?_⟩) λ_ _ y=>y)
 ·show us.length<=sizeLine
  rw[<- r.length]
  exact Nat.le_of_lt (uN i)
 ·exact o pins σ H1 s1 { s1 with heap:=h' } a us b p hm rfl rfl
end
end L2
end
section
namespace L2
open PySem PySem.Spec PyProof.Rows
section
variable {P:Program} {w:World} {outer:List Env} {H H':Hp} {s s1:Shared} {a:Addr} {cls:Value} {da:Option Addr}
theorem Fly.move (F:Fly P w outer H s H' a cls da s1) (q:∀ b∈frs outer,H' b=none) (f1:Heap.FlyingW B outer a cls a0 s1.heap) (j:Cov (frs outer) H' s.heap s1.heap B) (f2:Heap.FlyingW B outer a cls a0 h2) (up:s1.heap.UpToSlots h2) (x:NoCtD h2 a da):Fly P w outer H s H' a cls da { s1 with heap:=h2 }/\Cov (frs outer) H' s.heap h2 B:=by
 have k1:∀ b o,s1.heap.get? b=some o->b ∉ frs outer->(H' b≠none\/∃ o0,s.heap.get? b=some o0)->h2.get? b=some o:=λb o e n g=>f2.1 b o (j b o e n g)
 have l:∀ b∈frs outer,∀ o,s1.heap.get? b=some o->∀ vs,o.data≠.fields vs:=λb f o e=>by
  obtain ⟨_,o',r,d⟩:=f1.2.2.1.mem f
  rw[e] at r;cases r;exact d
 have h:Cov (frs outer) H' s.heap h2 B:=λb o e n g=>by
  have h1:∃ p,s1.heap.get? b=some p:=by
   rcases g with g | ⟨o0,A⟩
   ·exact F.hok.at g
   ·exact F.un.there b o0 A (λz=>nomatch z)
  obtain ⟨p,e1⟩:=h1
  have i:=j b p e1 n g
  have y:=f2.1 b p i
  rw[y] at e
  cases e
  exact i
 refine ⟨⟨F.os,F.bare,⟨λb o e n f m=>?_,λb o e n f m=>?_,F.un.free,λb o e m=>?_,F.un.tups,F.un.frzs,F.un.tbls⟩,λb u e=>?_,F.free,F.new,⟨B,a0,f2,h⟩,x⟩,h⟩
 ·exact k1 b o (F.un.keep b o e n f m) f (.inr ⟨o,e⟩)
 ·obtain ⟨sl,e1⟩:=F.un.slot b o e n f m
  obtain ⟨k,i⟩:=up b _ e1 (l b f _ e1)
  exact ⟨k,i⟩
 ·obtain ⟨o',e1⟩:=F.un.there b o e m
  by_cases f:b∈frs outer
  ·obtain ⟨k,i⟩:=up b o' e1 (l b f o' e1)
   exact ⟨_,i⟩
  ·exact ⟨o',k1 b o' e1 f (.inr ⟨o,e⟩)⟩
 ·refine (F.hok b u e).stay (λc v g z=>?_) (λ_ z=>z) λ_ _ z=>z
  have t:H' c≠none:=by
   rcases g with rfl | g
   ·rw[e];intro z;cases z
   ·rw[g];intro z;cases z
  exact k1 c v z (λf=>t (q c f)) (.inl t)
end
abbrev Cx.caught0 (X:Cx) (a:Addr):Cx:={ X with A:=X.A.mark (some (.ref a)),calm:=false,xe:=λ_ _=>False }
abbrev Cx.caught (X:Cx) (a:Addr) (ob:Obj) (cls:Value):Cx:={ X with A:=X.A.mark (some (.ref a)),calm:=false,xe:=λ_ _=>False,H₀:=upd X.H₀ a (dP ob a cls) }
section
variable {X:Cx} {pins:List (Addr×Obj)} {σ:St} {H H':Hp} {s s1:Shared} {a:Addr} {cls:Value}
theorem Inv.caught0 (I:Inv X pins σ H s) (a:Addr):Inv (X.caught0 a) pins σ H s :=
 ⟨⟨I.ok.mod,I.ok.kind,I.ok.glob,I.ok.blt,I.ok.above,I.ok.inj,I.ok.has,I.ok.cab,(λh=>by cases h),I.ok.frames,I.ok.stk,I.ok.exf,I.ok.bs,I.ok.bsz,I.ok.noex,I.ok.exfs,I.ok.funs,I.ok.frf⟩,I.os,I.bare,I.base,I.loc,I.cell,I.free,I.freeC,I.pin,I.hok,I.len⟩
theorem Inv.trackX (I:Inv X pins σ H' s1) (J:Inv X pins σ H s) (new:s.heap.get? a=none) (t:H' a=none) (hex:X.ex=[]) (i:s1.heap.get? a=some ob) (j:ob.cls=cls):Inv X pins σ (upd H' a (dP ob a cls)) s1:=by
 obtain ⟨e1,O,K,d,E,G,A,C,B,g,r⟩:=id I
 have ne:∀ b o,s.heap.get? b=some o->b≠a:=λb o e z=>by rw[z,new] at e;cases e
 have f:∀ b o,X.s₀.heap.get? b=some o->b≠a:=λb o e=>by
  obtain ⟨o',y⟩:=J.base.there b o e (by rw[hex];simp)
  exact ne b o' y
 have l:∀ b u,H' b=some u->upd H' a (dP ob a cls) b=some u:=λb u e=>by rw[ak (aO e t)];exact e
 refine ⟨e1,O,K,⟨d.keep,d.slot,λb o q n M=>?_,d.there,λb ys q=>l _ _ (d.tups b ys q),λb o u q=>l _ _ (d.frzs b o u q),λb ps q=>?_⟩,E,G,?_,λx c q=>?_,λp w=>?_,?_,r⟩
 ·rw[ak (f b o q)];exact d.free b o q n M
 ·obtain ⟨more,D⟩:=d.tbls b ps q;exact ⟨more,l _ _ D⟩
 ·obtain ⟨m,⟨o,_,_,h,_⟩,_⟩:=J.loc
  rw[ak (ne _ o h)];exact A
 ·obtain ⟨v,o,h,_⟩:=J.cell x c q
  rw[ak (ne c o h)];exact C x c q
 ·obtain ⟨a1,a2,L⟩:=B p w
  exact ⟨a1,by rw[ak (ne p.1 p.2 (J.pin p w).1)];exact a2,L⟩
 ·exact g.track t ⟨i,⟨ob,i,j⟩,⟨ob,i⟩,λh1 h2 ⟨o,N,F⟩ k=>⟨o,k o N,F⟩⟩
theorem Inv.nameless (I:Inv X pins σ H s) {t':Nat} (D:h'.Ns X.env.locals m') (hs:Heap.SameBut X.env.locals s.heap h'):Inv X pins (List.replicate X.N.length none) H { s with heap:=h',toks:=t' }:=by
 obtain ⟨e1,B,A,f,F,y,k,w,t,l,C⟩:=id I
 have a:∀ b o,X.s₀.heap.get? b=some o->b≠X.env.locals:=λb o e=>I.noLoc e
 refine ⟨e1,B,A,⟨λb o e n m g=>?_,λb o e n m g=>?_,f.free,λb o e g=>?_,f.tups,f.frzs,f.tbls⟩,⟨m',D,λi x v h1 h2 h3=>?_⟩,λx c e=>?_,k,w,λp E=>?_,λb u e=>?_,by rw[List.length_replicate]⟩
 ·exact (hs.2 b (a b o e)).trans (f.keep b o e n m g)
 ·obtain ⟨sl,q⟩:=f.slot b o e n m g
  exact ⟨sl,(hs.2 b (a b o e)).trans q⟩
 ·obtain ⟨o',q⟩:=f.there b o e g
  exact ⟨o',(hs.2 b (a b o e)).trans q⟩
 ·rw[List.getElem?_replicate] at h2
  split at h2 <;> cases h2
 ·obtain ⟨v,o,q,d⟩:=y x c e
  exact ⟨v,o,(hs.2 c (I.cne x c e)).trans q,d⟩
 ·obtain ⟨q,n,ne,r⟩:=t p E
  exact ⟨(hs.2 p.1 ne).trans q,n,ne,r⟩
 ·refine (l b u e).stay (λc v h z=>?_) (λ_ z=>z) λ_ _ z=>z
  have j:c≠X.env.locals:=λq=>by
   rcases h with rfl | h
   ·rw[q,k] at e;cases e
   ·rw[q,k] at h;cases h
  exact (hs.2 c j).trans z
theorem Inv.namelessC (I:Inv X pins σ H s) {t':Nat} (hf:X.fn n=true) (j:X.env.cells.lookup n=some c) (M:h'.IsCell c none) (hs:Heap.SameBut c s.heap h'):Inv X pins (List.replicate X.N.length none) H { s with heap:=h',toks:=t' }:=by
 obtain ⟨e1,K,J,f,E,G,C,y,D,l,L⟩:=id I
 obtain ⟨v0,o0,F,O⟩:=I.cell n c j
 have A:=I.ok.cab n c hf j
 have g:∀ b o,X.s₀.heap.get? b=some o->b≠c:=λb o e=>Fi (Fq (E7 e) A)
 have w:X.env.locals≠c:=λz=>I.cne n c j z.symm
 refine ⟨e1,K,J,⟨λb o e n t k=>?_,λb o e n t k=>?_,f.free,λb o e k=>?_,f.tups,f.frzs,f.tbls⟩,?_,λx h e=>?_,C,y,λp B=>?_,λb u e=>?_,by rw[List.length_replicate]⟩
 ·exact (hs.2 b (g b o e)).trans (f.keep b o e n t k)
 ·obtain ⟨sl,q⟩:=f.slot b o e n t k
  exact ⟨sl,(hs.2 b (g b o e)).trans q⟩
 ·obtain ⟨o',q⟩:=f.there b o e k
  exact ⟨o',(hs.2 b (g b o e)).trans q⟩
 ·obtain ⟨m,hm,_⟩:=E
  refine ⟨m,hm.sameBut hs w,λi x v h1 h2 h3=>?_⟩
  rw[List.getElem?_replicate] at h2
  split at h2 <;> cases h2
 ·by_cases z:h=c
  ·rw[z];exact ⟨_,M⟩
  ·obtain ⟨v,o,q,d⟩:=G x h e
   exact ⟨v,o,(hs.2 h z).trans q,d⟩
 ·obtain ⟨q,n,ne,r⟩:=D p B
  have z:p.1≠c:=λz=>by
   rw[z,F] at q
   cases q
   exact r.2 v0 O
  exact ⟨(hs.2 p.1 z).trans q,n,ne,r⟩
 ·refine (l b u e).stay (λh v a z=>?_) (λ_ z=>z) λ_ _ z=>z
  have hz:h≠c:=λq=>by
   rcases a with rfl | a
   ·rw[q,y n c j] at e;cases e
   ·rw[q,y n c j] at a;cases a
  exact (hs.2 h hz).trans z
theorem mj (b:env.scope.kind=.function) (hl:env.kindOf n=some .cell) (a:env.cells.lookup n=some c) (d:s.heap.IsCell c v₀) (h:∀ h',h'.IsCell c none->Heap.SameBut c s.heap h'->Q () { s with heap:=h' }):wpAny M A (do bindName env n .none;unbindBehindTheSuite env n pos) Q E s:=by
 refine ET (wpAny_bindName (wpAny_storeName_cell b hl a d λh1 c1 s1=>?_))
 unfold unbindBehindTheSuite
 refine wpAny_onRaise ?_
 unfold unbindName
 refine ET (wpAny_point (ET ?_))
 unfold deleteName
 simp only[hl]
 refine ET (wpAny_cellOf a (ET (wpAny_cellGet c1 ?_)))
 simp only[Option.isSome_some,if_true]
 refine wpAny_cellSet c1 λh2 c2 s2=>?_
 exact wpAny_point (h h2 c2 (s1.trans s2))
theorem Inv.caught (I:Inv X pins σ H s) (d:X.s₀.heap.get? a=none) (g:H a=some (dP ob a cls)):Inv (X.caught a ob cls) pins σ H s:=by
 have ne:∀ b o,X.s₀.heap.get? b=some o->b≠a:=λb o e z=>by rw[z,d] at e;cases e
 have fr:∀ b∈X.fs,b≠a:=λb c=>by
  obtain ⟨_,o',f,_⟩:=I.ok.funs.mem c
  exact ne b o' f
 have u:=I.base
 refine ⟨⟨I.ok.mod,I.ok.kind,I.ok.glob,I.ok.blt,I.ok.above,I.ok.inj,I.ok.has,I.ok.cab,(λh=>by cases h),I.ok.frames,I.ok.stk,I.ok.exf,λb o e=>⟨(I.ok.bs b o e).1,by show upd X.H₀ a _ b=none;rw[ak (ne b o (I.ok.bs b o e).1)];exact (I.ok.bs b o e).2⟩,I.ok.bsz,I.ok.noex,I.ok.exfs,I.ok.funs,λb c=>by show upd X.H₀ a _ b=none;rw[ak (fr b c)];exact I.ok.frf b c⟩,I.os,I.bare,?_,I.loc,I.cell,I.free,I.freeC,I.pin,I.hok,I.len⟩
 show Un _ _ (upd X.H₀ a (dP ob a cls)) H _ _
 refine ⟨λb o e n=>u.keep b o e (by rwa [ak (ne b o e)] at n),λb o e n=>u.slot b o e (by rwa [ak (ne b o e)] at n),λb o e n=>u.free b o e (by rwa [ak (ne b o e)] at n),u.there,λb xs e=>?_,λb o w e=>?_,λb ps e=>?_⟩
 ·by_cases z:b=a
  ·subst z;rw[aA] at e;cases e
  ·rw[ak z] at e;exact u.tups b xs e
 ·by_cases z:b=a
  ·subst z;rw[aA] at e;cases e;exact g
  ·rw[ak z] at e;exact u.frzs b o w e
 ·by_cases z:b=a
  ·subst z;rw[aA] at e;cases e
  ·rw[ak z] at e;exact u.tbls b ps e
theorem Inv.uncaught (I:Inv (X.caught a ob cls) pins σ H s) (ok:X.Ok) (d:X.s₀.heap.get? a=none) (c:∀ xs,X.H₀ a≠some (.tup xs)) (g:∀ o w,X.H₀ a≠some (.frz o w)) (f:∀ ps,X.H₀ a≠some (.tbl ps)):Inv X pins σ H s:=by
 have ne:∀ b o,X.s₀.heap.get? b=some o->b≠a:=λb o e z=>by rw[z,d] at e;cases e
 have u:Un X.fs X.ex (upd X.H₀ a (dP ob a cls)) H X.s₀.heap s.heap:=I.base
 refine ⟨ok,I.os,I.bare,?_,I.loc,I.cell,I.free,I.freeC,I.pin,I.hok,I.len⟩
 exact ⟨λb o e n=>u.keep b o e (by rwa [ak (ne b o e)]),λb o e n=>u.slot b o e (by rwa [ak (ne b o e)]),λb o e n=>u.free b o e (by rwa [ak (ne b o e)]),u.there,λb xs e=>u.tups b xs ((ak (λz:b=a=>c xs (by rw[<- z];exact e))).trans e),λb o w e=>u.frzs b o w ((ak (λz:b=a=>g o w (by rw[<- z];exact e))).trans e),λb ps e=>u.tbls b ps ((ak (λz:b=a=>f ps (by rw[<- z];exact e))).trans e)⟩
end
end L2
end
section
namespace L2
open PySem PySem.Spec PyProof.Rows
section
variable {X:Cx} {pins:List (Addr×Obj)} {σ:St} {H H':Hp} {s s1:Shared} {a CB:Addr} {cls:Value} {da:Option Addr} {D:Ends} {cx n:Str} {i:Nat} {cp hpos:Pos} {b0:Stmt} {suite:List Stmt}
set_option tactic.hygienic true in
theorem rW (I:Inv X pins σ H s) (F:Fly X.prog X.w X.stack H s H' a cls da s1) (j:X.stack=X.env::X.outer) (E:X.env.frame=some X.env.locals) (hex:X.ex=[]) (hN:X.N.Nodup)
  (hg:Gl X cx) (hd:(cx == ("__debug__":Str))=false) (hm:X.mg cx=some (.ref CB)) (hx:PySem.W.exmOne X.K cls (.ref CB)=some true) (hi:X.N[i]?=some n) (hl:X.env.scope.names.lookup n=some .local\/(X.env.scope.names.lookup n=some .cell/\X.fn n=true))
  (hs:∀ s5 ob,ob.dict=da->Hd (X.caught a ob cls)->Inv (X.caught a ob cls) pins (σ.set i (some (.ref a))) (upd H' a (dP ob a cls)) s5->wpAny (model X.prog X.w) (X.A.mark (some (.ref a))) (execs (b0::suite) X.env) (λf R=>∃ v u σ6 h,f=.ret u/\Inv (X.caught a ob cls) pins σ6 h R/\RelV v u/\D.rt v h) (λ_ _=>False) s5) :
  wpAny (model X.prog X.w) X.A (noteFrame (.ref a) X.env) (λ_ s2=>wpAny (model X.prog X.w) X.A (setFlight (.ref a) none) (λ_ s3=>wpAny (model X.prog X.w) X.A (handleBy (.ref a) X.env [.ExceptHandler (some (.Name cx cp)) (some n) (b0::suite) hpos]) (SP X pins D) X.xe s3) X.xe s2) X.xe s1:=by
 have hA:X.A.frames=some (X.env::X.outer):=by rw[<- j];exact I.ok.frames
 have g:∀ b∈frs X.stack,H' b=none:=(Fly.inv I F).stkFree
 obtain ⟨B,a0,f1,C⟩:=F.fl
 refine vw (outer:=X.outer) hA E (by rw[<- j];exact f1) F.ctx λh2 held P c2=>?_
 refine Ec held c2 λh3 k y c3=>?_
 rw[<- j] at k
 obtain ⟨T,l⟩:=F.move g f1 C k (P.trans y) c3
 have U:=(Fly.inv I T).caught0 a
 have x:PySem.W.Looks (model X.prog X.w) h3 (typeOf (.ref a)) cls:=by
  obtain ⟨ob,L,p⟩:=k.there
  subst p
  exact (PySem.W.Looks.ld L).andThen .now
 refine wpAny_handleBy_cons (codeAny_handlers_test (ft (X:=X.caught0 a) U hg hm ?_ hd)) (by intro q;cases q)
 refine (PySem.W.exm_one (K:=X.K) U.kIn x hx).here ?_
 show codeAny _ _ _ _ _
 refine codeAny_handlers_suite_as (oO k c3 λh4 f4 G c4=>?_)
 obtain ⟨F4,ae⟩:=T.move g k l f4 G c4
 have I4:=Fly.inv I F4
 obtain ⟨O,d⟩:=I.newAt hex F.new
 obtain ⟨ob,m,M⟩:=f4.there
 have Y:NoC ob/\ob.dict=da:=by
  obtain ⟨o,vs,Z,q2,q3,q4⟩:=c4
  rw[m] at Z
  cases Z
  exact ⟨⟨vs,q2,q3⟩,q4⟩
 have I5:=(I4.trackX I F.new F.free hex m M).caught (ob:=ob) (cls:=cls) O aA
 have hD:Hd (X.caught a ob cls):=⟨a,ob,excO a cls,rfl,aA,Y.1⟩
 refine fT (X:=X.caught a ob cls) (v:=V.ref a) I5 hN hi (hl.imp id And.left) rfl (λs5 J5=>?_) (hl.elim .inr λz=>.inl z.2)
 refine wpAny_mono (hs s5 ob Y.2 hD J5) (λf R h6=>?_) λ_ _ z=>z.elim
 obtain ⟨v,u,σ6,h,rfl,t,r,q⟩:=h6
 have un:∀ {σ7:St} {S:Shared},Inv (X.caught a ob cls) pins σ7 h S->Inv X pins σ7 h S:=λJ=>J.uncaught I.ok O (λxs e=>by rw[I.base.tups a xs e] at d;cases d) (λo w e=>by rw[I.base.frzs a o w e] at d;cases d) λps e=>by obtain ⟨_,e⟩:=I.base.tbls a ps e;rw[e] at d;cases d
 rcases hl with hl | ⟨hl,Q⟩
 case inr =>
  obtain ⟨c,p⟩:=I.ok.has n (.inl hl)
  obtain ⟨v0,z0⟩:=t.cell n c p
  exact mj I.ok.kind hl p z0 λh7 c7 sb=>⟨v,_,h,(un t).namelessC (t':=R.toks) Q p c7 sb,r,q⟩
 obtain ⟨m6,n6,_⟩:=t.loc
 refine wpAny_nameGoes hl n6 ?_ λh7 m7 n7 sb=>?_
 ·have:=I.ok.kind
  rw[this];rfl
 ·exact ⟨v,_,h,(t.uncaught I.ok O (λxs e=>by rw[I.base.tups a xs e] at d;cases d) (λo w e=>by rw[I.base.frzs a o w e] at d;cases d) λps e=>by obtain ⟨_,e⟩:=I.base.tbls a ps e;rw[e] at d;cases d).nameless n7 sb,r,q⟩
end
end L2
end
section
namespace L2
open PySem PySem.Spec PyProof.Rows
structure CalleeX (P:Program) (w:World) (K:FG) (mg:Str->Option Value) (base:Heap) (x:Str) (k:Nat) (ps:List Str) (sp:Sp):Prop where
 ex:∃ (f:Addr) (fd:FuncData),FnOk P w K mg base (CXe P w) k f fd ps sp/\mg x=some (.ref f)/\PySem.W.keepIn K (.ref f)=true/\Binds K fd ps []
section
variable {X:Cx} {x:Str} {p pos:Pos} {e:Expr} {es:List Expr} {t:TA} {k:Nat} {ps:List Str} {sp:Sp}
def tFnX (sp:Sp) (a:St->XK) (t:TA):TE:=λσ H Q=>t σ H λvs H1=>sp vs H1 Q (a σ)
set_option tactic.hygienic true in
theorem DB (c:CalleeX X.prog X.w X.K X.mg X.base x k ps sp) (l:Room k X.A) (o:∀ (pins:List (Addr×Obj)) (σ:St) (H:Hp) (s:Shared) (e:Value) (s':Shared),Inv X pins σ H s->CXe X.prog X.w X.stack H s (EE σ) e s'->X.xe e s') (v:PA X (e::es) t) (j:Gl X x) (g:(x == ("__debug__":Str))=false) (he:starEach (e::es) X.env=(false,eval e X.env)::starEach es X.env) (d:(backTo pos (starEach es X.env)).any (·.1)=false):PE X (.Call (.Name x p) (e::es) [] pos) (tFnX sp EE t):=by
 obtain ⟨f,fd,F,hm,m,n⟩:=c.ex
 intro pins s σ H Q I h
 refine wpAny_Call_Name_kw (ft I j hm ?_ g)
 refine PySem.W.callWith_K (h₀:=X.base) I.ok.mod.kin m (thn (v pos pins s σ H _ I h) λus s1 ⟨vs,H1,a,r,q⟩=>⟨a.kIn,?_⟩) he d
 have hl:us.length=ps.length:=by rw[<- r.length];exact F.len _ _ _ _ q
 have i:=n s1 us a.kIn (by rw[List.append_nil];exact hl)
 rw[List.append_nil] at i
 refine wpAny_call (codeAny_mono (F.run X.A X.stack s1 H1 ⟨us,[]⟩ us vs Q (EE σ) l a.env0 i r q) λr s' b=>?_)
 cases r with
 | error e=>exact o pins σ H1 s1 e s' a b
 | ok fl =>
  cases fl with
  | ret u=>exact a.after b
  | next=>exact False.elim b
  | brk=>exact False.elim b
  | cont=>exact False.elim b
end
theorem Def.calleeX {K:FG} {st:Stmt} {k:Nat} (D:Def K mg x st) (b:∀ (kV doc pm:Value) (an:Option Addr) (a ct:Value) (us:List Value),us.length=ps.length->bindArgs (PySem.W.fnOf x x (aH st) (aw st) (ad st) .none kV doc pm an a ct) ⟨us,[]⟩=pure (ps.zip us)) (h:∀ f fd,Fun K x x st f fd->FnOk P w K mg base (CXe P w) k f fd ps sp):CalleeX P w K mg base x k ps sp:=by
 obtain ⟨f,fd,d⟩:=D
 exact ⟨f,fd,h f fd d.fn,d.mg,d.fn.kp,d.fn.binds b⟩
theorem Fun.okX {K:FG} {st:Stmt} {k:Nat} (F:Fun K x qual st f fd) (S:FnScope N ps (ad st)) (len:∀ vs H Q E,sp vs H Q E->vs.length=ps.length) (b:∀ (a:Value) (A:Around) (outer:List Env) (s:Shared) (H:Hp) (vs:List V) (Q:VK) (E:XK),Room k (A.deeper (envOfC qual (ad st) s.heap.objs.size f a))->sp vs H Q E ->
   ∃ t,PSs (dn (CXe P w) P w K mg base N qual (ad st) f a A outer s H E) (aw st) t/\t { nx:=λ_ H'=>Q .non H',rt:=Q } (fE N vs) H):FnOk P w K mg base (CXe P w) (k+1) f fd ps sp:=by
 obtain ⟨i,od,kV,doc,pm,an,a,ct,h,rfl,g,c⟩:=F.ex
 exact Ce g c S len λA outer s H vs Q E e d=>b a A outer s H vs Q E e d
structure RoomN (k:Nat) (A:Around):Prop where
 dp:A.depth+3 * k+5 < recursionLimit
 un:A.units+16 * k+200 < cLine
 gd:A.guards=some []
theorem Room.mark {k:Nat} (r:Room k A) (v:Option Value):RoomN k (A.mark v):=⟨r.dp,r.un,r.gd⟩
theorem RoomN.mono {j k:Nat} (r:RoomN k A) (h:j<=k):RoomN j A:=⟨by have:=r.dp;omega,by have:=r.un;omega,r.gd⟩
theorem RoomN.deeper {k:Nat} (r:RoomN (k+1) A) (env:Env):RoomN k (A.deeper env) :=
 ⟨by have:=r.dp;show A.depth+1+3 * k+5 < _;omega,by have:=r.un;show A.units+3+16 * k+200 < _;omega,r.gd⟩
def HdA (A:Around) (H:Hp):Prop:=∃ a ob u,A.handled=some (.ref a)/\H a=some (.frz ob u)/\NoC ob
structure FnOkN (P:Program) (w:World) (K:FG) (mg:Str->Option Value) (base:Heap) (k:Nat) (f:Addr) (fd:FuncData) (ps:List Str) (sp:Sp):Prop where
 len:∀ vs H Q E,sp vs H Q E->vs.length=ps.length
 run:∀ (A:Around) (outer:List Env) (s:Shared) (H:Hp) (args:Args) (us:List Value) (vs:List V) (Q:VK),RoomN k A->HdA A H->Env0 P w K mg base A outer s H->BindsTo s fd args (ps.zip us)->Vals vs us->sp vs H Q E0 ->
  codeAny (model P w) A (.call (.ref f) args) (CR CX0 outer P w H s Q E0) s
abbrev Cx.loud (X:Cx):Cx:={ X with calm:=false }
theorem rT {K:FG} (S:FnScope N ps scope) (a:Env0 P w K mg base A outer s H) (hl:vs.length=ps.length) (r:Vals vs us) (x:InCallC s s.heap.objs.size (bindL (envOfC qual scope s.heap.objs.size f cd).kindOf (ps.zip us) λ_=>none) (cellsFrom (s.heap.objs.size+1) scope.names []) (bindC (envOfC qual scope s.heap.objs.size f cd).kindOf (ps.zip us) λ_=>none) s1) :
  Inv ((dn CX0 P w K mg base N qual scope f cd A outer s H E0).loud.wish λ_ _=>False) [] (fE N vs) H s1:=by
 have e1:Env0 P w K mg base { A with handled:=none } outer s H:=⟨a.frames,a.mod,a.bs,a.bsz,a.funs,a.frf,a.hok,a.bare⟩
 have I:=nk (CX:=CX0) (E:=E0) (qual:=qual) (f:=f) (cd:=cd) S rfl e1 hl r x
 exact ⟨⟨I.ok.mod,I.ok.kind,I.ok.glob,I.ok.blt,I.ok.above,I.ok.inj,I.ok.has,I.ok.cab,(λh=>by cases h),I.ok.frames,I.ok.stk,I.ok.exf,I.ok.bs,I.ok.bsz,I.ok.noex,I.ok.exfs,I.ok.funs,I.ok.frf⟩,I.os,I.bare,I.base,I.loc,I.cell,I.free,I.freeC,I.pin,I.hok,I.len⟩
set_option tactic.hygienic true in
theorem Fun.okN {K:FG} {st:Stmt} {k:Nat} (F:Fun K x qual st f fd) (S:FnScope N ps (ad st)) (len:∀ vs H Q E,sp vs H Q E->vs.length=ps.length) (c:∀ (a:Value) (A:Around) (outer:List Env) (s:Shared) (H:Hp) (vs:List V) (Q:VK),RoomN k (A.deeper (envOfC qual (ad st) s.heap.objs.size f a))->Hd ((dn CX0 P w K mg base N qual (ad st) f a A outer s H E0).loud.wish λ_ _=>False)->sp vs H Q E0 ->
   ∃ t,PSs ((dn CX0 P w K mg base N qual (ad st) f a A outer s H E0).loud.wish λ_ _=>False) (aw st) t/\t { nx:=λ_ H'=>Q .non H',rt:=Q } (fE N vs) H):FnOkN P w K mg base (k+1) f fd ps sp:=by
 obtain ⟨M,od,kV,doc,pm,an,a,ct,B,rfl,D,l⟩:=F.ex
 refine ⟨len,λA outer s H args us vs Q m j h z r g=>?_⟩
 have hl:=len _ _ _ _ g
 have p:K.In s.heap:=h.mod.kin.keeps λb o e=>(h.bs b o e).1
 have lim:s.heap.NoLimit:=h.mod.nolimit.keeps λb o e=>(h.bs b o e).1
 have d:∀ y∈ps.zip us,(ad st).names.lookup y.1=some .local\/((ad st).names.lookup y.1=some .cell/\((cellsFrom (s.heap.objs.size+1) (ad st).names []).lookup y.1).isSome=true):=λ⟨n,v⟩ C=>by
  rcases S.par n (List.of_mem_zip C).1 with q | q
  ·exact .inl q
  ·exact .inr ⟨q,PySem.W.cellsFrom_some _ _ _ (.inl q)⟩
 refine codeAny_call_function (by have:=m.dp;omega) (p _ _ D) rfl S.co S.gen rfl (PySem.W.codeRec_of p l) (z _ _ _ _ ?_)
 refine wpAny_newFunctionEnv_cells S.kind d λenv he s1 x=>?_
 subst he
 refine ⟨lim.keeps x.toInCall.keep,codeAny_func ?_⟩
 obtain ⟨t,L,G⟩:=c a A outer s H vs Q (m.deeper _) j g
 have I:=rT (qual:=qual) (f:=f) (cd:=a) S h hl r x
 refine wpAny_mono (L [] s1 (fE N vs) H _ I G) (λfl s' hs=>?_) λe s' hs=>False.elim hs
 have fin:∀ {σ':St} {H':Hp} {v:V} {u:Value},Inv ((dn CX0 P w K mg base N qual (ad st) f a A outer s H E0).loud.wish λ_ _=>False) [] σ' H' s'->RelV v u->Q v H'->CE outer P w H s Q u s' :=
  λ{σ' H' v u} J i q=>⟨v,H',J.os,J.bare,J.base,J.hok,i,q⟩
 cases fl with
 | ret u =>
  obtain ⟨v,σ',H',J,i,q⟩:=hs
  exact fin J i q
 | next =>
  obtain ⟨σ',H',J,q⟩:=hs
  exact fin (v:=V.non) (u:=Value.none) J rfl q
 | brk =>
  obtain ⟨_,_,_,q⟩:=hs
  exact False.elim q
 | cont =>
  obtain ⟨_,_,_,q⟩:=hs
  exact False.elim q
structure CalleeN (P:Program) (w:World) (K:FG) (mg:Str->Option Value) (base:Heap) (x:Str) (k:Nat) (ps:List Str) (sp:Sp):Prop where
 ex:∃ (f:Addr) (fd:FuncData),FnOkN P w K mg base k f fd ps sp/\mg x=some (.ref f)/\PySem.W.keepIn K (.ref f)=true/\Binds K fd ps []
theorem Def.calleeN {K:FG} {st:Stmt} {k:Nat} (D:Def K mg x st) (b:∀ (kV doc pm:Value) (an:Option Addr) (a ct:Value) (us:List Value),us.length=ps.length->bindArgs (PySem.W.fnOf x x (aH st) (aw st) (ad st) .none kV doc pm an a ct) ⟨us,[]⟩=pure (ps.zip us)) (h:∀ f fd,Fun K x x st f fd->FnOkN P w K mg base k f fd ps sp):CalleeN P w K mg base x k ps sp:=by
 obtain ⟨f,fd,d⟩:=D
 exact ⟨f,fd,h f fd d.fn,d.mg,d.fn.kp,d.fn.binds b⟩
section
variable {X:Cx} {x:Str} {p pos:Pos} {e:Expr} {es:List Expr} {t:TA} {k:Nat} {ps:List Str} {sp:Sp}
set_option tactic.hygienic true in
theorem DC (c:CalleeN X.prog X.w X.K X.mg X.base x k ps sp) (B:RoomN k X.A) (l:Hd X) (z:PA X (e::es) t) (m:Gl X x) (i:(x == ("__debug__":Str))=false)
  (he:starEach (e::es) X.env=(false,eval e X.env)::starEach es X.env) (g:(backTo pos (starEach es X.env)).any (·.1)=false):PE X (.Call (.Name x p) (e::es) [] pos) (tFn sp t):=by
 obtain ⟨f,fd,F,hm,v,y⟩:=c.ex
 intro pins s σ H Q I h
 refine wpAny_Call_Name_kw (ft I m hm ?_ i)
 refine PySem.W.callWith_K (h₀:=X.base) I.ok.mod.kin v (thn (z pos pins s σ H _ I h) λus s1 ⟨vs,H1,b,r,q⟩=>⟨b.kIn,?_⟩) he g
 have hl:us.length=ps.length:=by rw[<- r.length];exact F.len _ _ _ _ q
 have j:=y s1 us b.kIn (by rw[List.append_nil];exact hl)
 rw[List.append_nil] at j
 refine wpAny_call (codeAny_mono (F.run X.A X.stack s1 H1 ⟨us,[]⟩ us vs Q B (let ⟨a,ob,u,d1,n,o⟩:=l;⟨a,ob,u,d1,b.base.frzs a ob u n,o⟩) b.env0 j r q) λr s' d=>?_)
 cases r with
 | error e=>exact False.elim d
 | ok fl =>
  cases fl with
  | ret u=>exact b.after d
  | next=>exact False.elim d
  | brk=>exact False.elim d
  | cont=>exact False.elim d
end
end L2
end
section
namespace L2
open PySem PySem.W PySem.Spec PySem.Calls PyProof.Rows Builtin.Getset_descriptor
structure ExcAt (h:Heap) (x D:Addr):Prop where
 ex:∃ ox,h.get? x=some ox/\ox.cls=.ref D
section
variable {prog:Program} {w:World} {A:Around} {E:Value->Shared->Prop} {s:Shared} {K:FG} {x D:Addr}
theorem ExcAt.ty (p:ExcAt h x D):Looks M h (typeOf (.ref x)) (.ref D):=by
 obtain ⟨ox,e1,a⟩:=p.ex
 exact a ▸ (Looks.ld e1).andThen .now
theorem yW (k:ExcK K D) (X:K.In h):Looks M h (Builtin.ObjectAttr.find (.ref x) (.ref D) "__class__") (.bind (.builtin "getset_descriptor.__get__") (.builtin "object.__class__")):=by
 have b:=looks_findIn (M:=M) X k.ca
 have a:Looks M h (Builtin.ObjectAttr.getOf (some (.builtin "object.__class__"))) (some (.builtin "getset_descriptor.__get__")):=looks_specialIn X k.sp
 have c:Looks M h (Builtin.ObjectAttr.dataDescriptor? (some (.builtin "object.__class__")) (some (.builtin "getset_descriptor.__get__"))) (some (.builtin "getset_descriptor.__get__",.builtin "object.__class__")):=(looks_takesIn X k.tk).andThen .now
 exact b.andThen (a.andThen (c.andThen (Looks.tag .now)))
theorem Bu (k:ExcK K D) (X:K.In s.heap) (p:ExcAt s.heap x D) (h:R (.ok (.ret (.ref D))) s):codeAny (model prog w) A (.call (.builtin "getset_descriptor.__get__") ⟨[.builtin "object.__class__",.ref x,tp],[]⟩) R s:=by
 obtain ⟨h0,d,c,t0,o0⟩:=s
 have b:=p.ty (M:=model prog w)
 have a:=looks_mroIn (M:=model prog w) X k.ob
 refine codeAny_call_builtin KF.slot_gs.plain KF.entry_gs (KF.slot_gs.check _ _ _ _ _ _ _ _ KF.type_class (KF.args_gs _ _ _) ?_)
 unfold Builtin.«getset_descriptor.__get__» descrGet
 rw[dga_obj]
 refine ET (EU ?_)
 unfold descrGetter descrCheckInstance descrNameAndClass isInstance
 simp only[KF.owner_class]
 repeat lk
 refine ⟨Code.quiet_builtin _ (by decide +kernel),codeAny_builtin KF.entry_class ?_⟩
 unfold Builtin.«object.__class__» shownTypeOf
 repeat lk
 exact h
theorem vM (k:ExcK K D) (X:K.In s.heap) (p:ExcAt s.heap x D) (h:Q (.done (.ret (.ref D))) s) :
  wpAny (model prog w) A (Builtin.«object.__getattribute__» ⟨[.ref x,.str "__class__" tk],[]⟩) Q E s:=by
 obtain ⟨h0,d,c,t0,o0⟩:=s
 have b:=p.ty (M:=model prog w)
 have a:=yW (M:=model prog w) (x:=x) k X
 unfold Builtin.«object.__getattribute__» slotArgs
 repeat lk
 show wpAny _ _ (run (.call (.builtin "getset_descriptor.__get__") ⟨[.builtin "object.__class__",.ref x,.ref D],[]⟩)) _ _ _
 refine wpAny_run (Bu k X p ?_)
 exact EU (EU h)
theorem nC (k:ExcK K D) (X:K.In s.heap) (p:ExcAt s.heap x D) (h:Q () s):wpAny (model prog w) A (checkBuiltinCall "BaseException.__getattribute__" ⟨[.ref x,v],[]⟩) Q E s:=by
 obtain ⟨h0,e,d,t0,o0⟩:=s
 have c:=p.ty (M:=model prog w)
 have b:=looks_mroIn (M:=model prog w) X k.be
 have b1:builtinKind "BaseException.__getattribute__"=some .slot:=by decide +kernel
 have b2:splitId "BaseException.__getattribute__"=some ("BaseException","__getattribute__"):=by decide +kernel
 have a:=F.args_bexc_ga (.ref x) v
 simp only[checkBuiltinCall,b1,b2]
 refine ET ?_
 unfold isInstance
 repeat lk
 exact h
theorem vN (k:ExcK K D) (X:K.In s.heap) (p:ExcAt s.heap x D) (h:Q (some (.ref D)) { s with toks:=s.toks+1 }):wpAny (model prog w) A (getAttr? (.ref x) "__class__") Q E s:=by
 obtain ⟨h0,f,e,t0,o0⟩:=s
 have d:=p.ty (M:=model prog w)
 have c:=looks_findIn (M:=model prog w) X k.ga
 have a:=looks_findIn (M:=model prog w) X k.gt
 have b:=F.excAttr_ValueError.ga.bind (.ref x)
 have ne:(onTheHeap (Value.ref D) && Value.builtin "BaseException.__getattribute__" == Value.builtin "object.__getattribute__")=false:=by
  rw[show (Value.builtin "BaseException.__getattribute__" == Value.builtin "object.__getattribute__")=false by decide +kernel];rfl
 unfold getAttr? getAttrBy? getAttrBy
 refine ET (wpAny_mkText (ET (wpAny_attempt (EV (ET (d.at (ET (c.at ?_))))))))
 simp only[ne,FA,if_false]
 unfold getAttrByItsOwn hookBefore
 rw[show onTheHeap (Value.ref D)=true from rfl,if_pos rfl]
 refine ET (a.at (ET (wpAny_attempt (EV ?_))))
 unfold callGetattribute boundAndCalled
 rw[if_neg (by decide)]
 refine ET (wpAny_of_eq b ?_)
 refine wpAny_call (codeAny_call_builtin F.excAttr_ValueError.ga.plain F.entry_bexc_ga (nC k X p (vM k X p ?_)))
 exact handed_on rfl (EU h)
set_option tactic.hygienic true in
theorem ExcK.isT (k:ExcK K D) (X:K.In h):∃ o cd,h.get? D=some o/\o.data=.cls cd:=by
 obtain ⟨cd,a⟩:=Option.isSome_iff_exists.mp k.cl
 unfold clsIn at a
 split at a
 ·rename_i b
  exact ⟨_,_,X _ _ b,rfl⟩
 ·cases a
theorem yz (k:ExcK K D):KitX K (.ref x) (.ref D) (λh=>ExcAt h x D) where
 ty:=λ_ _ _ p=>p.ty
 it:=λ_ _ X _=>by
  obtain ⟨o,cd,e1,a⟩:=k.isT X
  intro l q j s1 k1 c
  unfold isType loadHead
  obtain ⟨m,od,i,g⟩:=o
  dsimp only at a
  subst a
  exact ET (wpAny_loadPart (k1 _ _ e1) (EU c))
 ne:=λh d dd its n sl X b=>by
  obtain ⟨o,cd,e1,a⟩:=k.isT X
  cases e:(Value.ref D == Value.ref d) with
  | false=>rfl
  | true =>
   have f:D=d:=Value.ref.inj (beq_iff_eq.mp e)
   rw[f,b] at e1
   cases e1
   cases a
 ca:=λX p c=>vN k X p c
end
end L2
end
section
namespace L2
open PySem PySem.W PySem.Spec PySem.Calls PyProof.Rows
section
variable {prog:Program} {w:World} {A:Around} {E:Value->Shared->Prop} {h:Heap} {g:Array GenState} {d:Drawn} {t:Nat} {os:OsState} {K:Frag}
variable {nm q:Str} {C N fI:Addr} {bs bm:List Value} {hdct:Bool} {sn:List Str} {sub:List Value} {ab:Bool} {col:Option Bool} {dd:Option Addr} {k0 k1 k2 k3 k5:Option Value}
theorem uF {rest:List Value} {Q:Fin->Shared->Prop} (X:K.In h) (T:OwnTail h iz bm) (f:h.get? C=some (excClassObj nm q C N bs bm hdct sn sub ab col dd k0 k1 k2 k3 k5 "ValueError.__new__"))
  (hi:findIn K (.ref C) "__init__"=some (some (.ref fI))) (hf:typeIn K (.ref fI)=some (.type "function")) (c:rest.length<=sizeLine)
  (n:∀ h' e,h.objs.size<=h'.objs.size->Heap.MadeExcOf h h' e (.ref C) rest->wpAny (model prog w) A (call (.ref fI) (.ref e::rest)) (λr s'=>r=.none/\Q (.done (.ret (.ref e))) s') E ⟨h',g,d,t,os⟩) :
  wpAny (model prog w) A (Builtin.«type.__call__» ⟨.ref C::rest,[]⟩) Q E ⟨h,g,d,t,os⟩:=by
 have FB:=PySem.F.excBase_ValueError
 repeat (first | with_reducible refine wpAny_loadPart_at f ?_ | with_reducible refine wpAny_madeBy_exc f ?_ | wp_step)
 refine codeAny_call_builtin_code (Code.quiet_builtin _ FB.quiet) (wpAny_check_new_subT FB T f (codeAny_exc_new_subT FB T f ?_ c))
 show wpAny _ _ _ _ _ _
 have k:∀ b o,h.get? b=some o->((h.push { cls:=.type "tuple",data:=.seq rest.toArray }).push { cls:=.ref C,data:=.fields #[.ref h.objs.size,.none,.none,.none,.bool false,.none] }).get? b=some o:=λb o e=>EZ _ (EZ _ e)
 have a:((h.push { cls:=.type "tuple",data:=.seq rest.toArray }).push { cls:=.ref C,data:=.fields #[.ref h.objs.size,.none,.none,.none,.bool false,.none] }).get? (h.objs.size+1)=some { cls:=.ref C,data:=.fields #[.ref h.objs.size,.none,.none,.none,.bool false,.none] }:=by heap_get
 have i:(Value.ref C::bm).contains (.ref C)=true:=by simp
 have j:=k _ _ f
 unfold isInstance
 repeat (first | with_reducible refine wpAny_loadPart_at a ?_ | (with_reducible refine wpAny_isSubtype_exc j ?_;rw[i]) | wp_step)
 show wpAny _ _ (typeLookup (.ref C) _) _ _ _
 refine looks_findIn X hi _ _ _ _ k ?_
 refine EV (ET (bind_fn X _ hf _ _ _ _ k (ET (wpAny_mono (n _ (h.objs.size+1) (by rw[FE,FE];omega) ⟨k,Heap.get?_none_of_le (Nat.le_succ _),h.objs.size,a,Heap.get?_none_of_le (Fg _),EZ _ (Heap.get?_push_at rfl rfl)⟩) (λr s' l=>?_) λ_ _ x=>x))))
 obtain ⟨rfl,m⟩:=l
 wp_walk
 exact m
theorem we {rest:List Value} {Q:Value->Shared->Prop} (X:K.In h) (T:OwnTail h iz bm) (b:h.get? C=some (excClassObj nm q C N bs bm hdct sn sub ab col dd k0 k1 k2 k3 k5 "ValueError.__new__"))
  (hi:findIn K (.ref C) "__init__"=some (some (.ref fI))) (hf:typeIn K (.ref fI)=some (.type "function")) (a:rest.length<=sizeLine)
  (c:∀ h' e,h.objs.size<=h'.objs.size->Heap.MadeExcOf h h' e (.ref C) rest->wpAny (model prog w) (A.under (.builtin "type.__call__" ⟨.ref C::rest,[]⟩)) (call (.ref fI) (.ref e::rest)) (λr s'=>r=.none/\Q (.ref e) s') E ⟨h',g,d,t,os⟩) :
  wpAny (model prog w) A (call (.ref C) rest) Q E ⟨h,g,d,t,os⟩:=by
 have f1:=tc_lookup
 have f2:=tc_bind (.ref C)
 have f:(⟨h,g,d,t,os⟩:Shared).TypeIs (.ref C) "type":=⟨_,b,rfl⟩
 refine wpAny_call (codeAny_of_tree ?_)
 show wpAny _ _ (callAny (.ref C) _) _ _ _
 repeat (any_goals (first | assumption | with_reducible refine wpAny_loadPart_at b ?_ | wp_step))
 exact ⟨rfl,codeAny_call_builtin_at (Code.quiet_builtin _ (by decide +kernel)) entry_typeCall (wpAny_check_type_call_sub b (uF X T b hi hf a c))⟩
end
theorem mU (self:Value):∀ {l:List Value},tM l=true->refuseLoop self "__setattr__" l=pure ()/\l.contains (.type "object")=true/\l.isEmpty=false
 | .ref c::r,e=>by
  obtain ⟨h1,h2,h3⟩:=mU self (l:=r) e
  exact ⟨by rw[refuseLoop_ref];exact h1,by rw[List.contains_cons,h2,Bool.or_true],rfl⟩
 | [],e=>by cases e
 | .none::r,e=>by cases eq_of_beq (show (_ == iz)=true from e)
 | .bool _::r,e=>by cases eq_of_beq (show (_ == iz)=true from e)
 | .int ..::r,e=>by cases eq_of_beq (show (_ == iz)=true from e)
 | .float ..::r,e=>by cases eq_of_beq (show (_ == iz)=true from e)
 | .str ..::r,e=>by cases eq_of_beq (show (_ == iz)=true from e)
 | .bytes ..::r,e=>by cases eq_of_beq (show (_ == iz)=true from e)
 | .builtin _::r,e=>by cases eq_of_beq (show (_ == iz)=true from e)
 | .type _::r,e=>by
  rw[eq_of_beq (show (_ == iz)=true from e)]
  exact ⟨PySem.F.store_ValueError.passes self,PySem.F.store_ValueError.hasOwner,rfl⟩
structure IniK (K:Frag) (C:Addr) (n:Str):Prop where
 sa:findIn K (.ref C) "__setattr__"=some (some (.builtin "object.__setattr__"))
 ov:(clsIn K C).any (λcd=>tM cd.mro && cd.hasDict)=true
 no:findIn K (.ref C) n=some none
section
variable {prog:Program} {w:World} {A:Around} {E:Value->Shared->Prop} {s:Shared} {K:Frag} {C x:Addr} {n:Str} {ox:Obj} {vs:Array Value} {v:Value}
theorem Af {Q:Unit->Shared->Prop} (X:K.In s.heap) (k:IniK K C n) (p:s.heap.get? x=some ox) (L:ox.cls=.ref C) (hd:ox.dict=none) (J:ox.data=.fields vs)
  (q:∀ h' od tk,(∀ b o,b≠x->s.heap.get? b=some o->h'.get? b=some o)->h'.get? x=some { ox with dict:=some s.heap.objs.size }->h'.get? s.heap.objs.size=some od->lookIn n od=some (some v)->Q () { s with heap:=h',toks:=tk }) :
  wpAny (model prog w) A (setAttr (.ref x) n v) Q E s:=by
 obtain ⟨Y,R,P,f⟩:=ox
 dsimp only at L hd J
 subst L hd J
 have I:PySem.W.InstAt s.heap x ⟨.ref C,none,.fields vs,f⟩ C none:=⟨p,rfl,rfl,trivial⟩
 have j:=PySem.F.store_object
 obtain ⟨cd,d,a⟩:=any_some k.ov
 obtain ⟨a,r⟩:=Bool.and_eq_true_iff.mp a
 obtain ⟨t,z,y⟩:=mU (.ref x) a
 have g:Looks (model prog w) s.heap (typeOf (.ref x)) (.ref C):=I.type
 refine set_plain X I k.sa ?_
 have sub:Looks (model prog w) s.heap (isInstance (.ref x) (.type "object")) true:=g.andThen (looks_mroIn X (by unfold mroIn;rw[d,Option.bind_some,if_neg (by rw[y];decide),z]))
 refine codeAny_call_builtin j.slot.plain j.entry (@check_slot (model prog w) _ _ { s with toks:=s.toks+1 } "object.__setattr__" "object" "__setattr__" (.ref x) [.str n s.toks,v] [] _ j.kind j.split sub (j.args (.ref x) (.str n s.toks) v) ?_)
 rw[osa_eq,refuse_eq]
 refine ET (ET (g _ _ _ _ (λ_ _ e=>e) (ET (((looks_clsIn X d).andThen .now:Looks (model prog w) s.heap (mroOf (.ref C)) cd.mro) _ _ _ _ (λ_ _ e=>e) ?_))))
 rw[t]
 refine EU (ET (g _ _ _ _ (λ_ _ e=>e) (ET (looks_findIn X k.no _ _ _ _ (λ_ _ e=>e) (ET (EU ?_))))))
 dsimp only
 have i:(s.heap.push { cls:=.type "dict",data:=.dict #[] }).get? x=some ⟨.ref C,none,.fields vs,f⟩:=EZ _ p
 have m:x≠s.heap.objs.size:=Fi (E7 p)
 refine ET (EU (ET (ET (wpAny_loadPart p (ET (looks_clsIn X d _ _ _ _ (λ_ _ e=>e) ?_))))))
 rw[r]
 refine ET (wpAny_alloc ?_)
 refine ET (wpAny_update i ?_)
 refine EU ?_
 have u:((s.heap.push { cls:=.type "dict",data:=.dict #[] }).update x λo=>{ o with dict:=some s.heap.objs.size }).get? s.heap.objs.size=some { cls:=.type "dict",data:=.dict #[] }:=(Heap.get?_update_ne _ _ _ _ m.symm).trans (Heap.get?_push_at rfl rfl)
 have H:((s.heap.push { cls:=.type "dict",data:=.dict #[] }).update x λo=>{ o with dict:=some s.heap.objs.size }).get? x=some ⟨.ref C,some s.heap.objs.size,.fields vs,f⟩:=Fs _ i rfl
 have D:((s.heap.push { cls:=.type "dict",data:=.dict #[] }).update x λo=>{ o with dict:=some s.heap.objs.size }).Ns s.heap.objs.size (λ_=>none):=⟨_,#[],_,u,rfl,λe he=>absurd he (by simp),λ_=>rfl⟩
 refine ET (EU (ET (wpAny_nsSet1 (Heap.Ns1.of_empty D) λh' l hs=>?_)))
 obtain ⟨U,V,O,c,B,G⟩:=l.count (Within.cons n v Within.nil)
 refine ET (wpAny_lookBehind c (by rw[B];exact pastItsLine_dict (FH G (by rw[Fu,List.length_nil,sizeLine_eq];omega))) ?_)
 refine EU ?_
 refine q h' U _ (λb o M e=>?_) ((hs.2 x m).trans H) c ?_
 ·exact (hs.2 b (Fi (E7 e))).trans ((Heap.get?_update_ne _ _ _ _ M).trans (EZ _ e))
 ·obtain ⟨o',es,Z,e1,S,e3,eu,h⟩:=l
  rw[c] at e1
  cases e1
  have h:=h n
  unfold nsFind findBy at h
  dsimp only at h
  rw[if_pos rfl,<- Array.find?_toList] at h
  obtain ⟨en,T,N⟩:=E2.mp h
  unfold lookIn
  rw[S]
  dsimp only
  rw[T]
  dsimp only
  rw[N]
theorem vF {R:Value->Shared->Prop} {fI:Addr} {st:Stmt} {F p2 M I:Pos} {H:Value} {od an:Option Addr} {r:Array (Option Value)} {qual:Str} {kV doc pm c ct:Value} (X:K.In s.heap) (lim:s.heap.NoLimit) (k:IniK K C n)
  (L:K.lookup fI=some ⟨H,od,.func (fnOf "__init__" qual (aH st) (aw st) (ad st) .none kV doc pm an c ct),r⟩) (l:codeIn K c qual=true) (S:FnScope [("self":Str),n] [("self":Str),n] (ad st)) (g:(ad st).names.lookup ("self":Str)=some .local/\(ad st).names.lookup n=some .local) (N:n≠("self":Str)) (m:(n == ("__debug__":Str))=false)
  (p:bindArgs (fnOf "__init__" qual (aH st) (aw st) (ad st) .none kV doc pm an c ct) ⟨[.ref x,v],[]⟩=pure [(("self":Str),.ref x),(n,v)]) (i:aw st=[.Assign [.Attribute (.Name "self" F) n p2] (.Name n M) I]) (f:A.depth < recursionLimit)
  (B:s.heap.get? x=some ox) (J:ox.cls=.ref C) (hd:ox.dict=none) (D:ox.data=.fields vs)
  (q:∀ h' d od tk,s.heap.objs.size<=d->(∀ b o,b≠x->s.heap.get? b=some o->h'.get? b=some o)->h'.get? x=some { ox with dict:=some d }->h'.get? d=some od->lookIn n od=some (some v)->R .none { s with heap:=h',toks:=tk }) :
  wpAny (model prog w) A (call (.ref fI) [.ref x,v]) R E s:=by
 have ne:s.heap.objs.size≠x:=Nat.ne_of_gt (E7 B)
 refine wpAny_call (Att.call_fn X lim L l f (.of_eq p) (by simp[g.1,g.2]) (λs1 y=>?_) S.co S.gen S.kind)
 rw[i]
 obtain ⟨⟨hs,tk,rfl⟩,h,a,u⟩:=y.toInCall
 have G:K.In hs:=X.keeps a
 have j:∀ z,(ad st).names.lookup z=some .local->(envOfC qual (ad st) s.heap.objs.size fI c).kindOf z=some .local:=λz hz=>hz
 refine wpAny_execs_cons ?_
 refine plainObj_wpAny_Assign_Attribute (wpAny_Name (wpAny_loadName_local (v:=v) S.kind (j n g.2) h ?_ (wpAny_Name (wpAny_loadName_local (v:=.ref x) S.kind (j ("self":Str) g.1) h ?_ ?_))) m) ?_
 ·simp[bindL,j n g.2]
 ·simp[bindL,j _ g.1,j n g.2,Ne.symm N]
 ·refine Af G k (a _ _ B) J hd D λh' od tk t h1 h2 h3=>?_
  exact wpAny_execs_nil (q h' hs.objs.size od tk (Nat.le_of_lt (Nat.lt_of_le_of_lt u h.lt)) (λb o p e=>t b o p (a b o e)) h1 h2 h3)
 ·rfl
end
set_option tactic.hygienic true in
theorem rZ {K:Frag} {h:Heap} {C:Addr} (X:K.In h) (q:oW K C=true) :
  ∃ bm N nm c bs hdct sn sub ab col dd k0 k1 k2 k3 k5,h.get? C=some (excClassObj nm c C N bs bm hdct sn sub ab col dd k0 k1 k2 k3 k5 "ValueError.__new__")/\OwnTail h iz bm:=by
 unfold oW at q
 split at q
 ·rename_i dd cd sl d
  split at q
  ·rename_i e bm k0 k1 k2 k3 n k5 hm hs
   simp only[Bool.and_eq_true,beq_iff_eq,Bool.not_eq_true'] at q
   obtain ⟨hok,b,a,rfl,rfl⟩:=q
   obtain ⟨nm,bs,mro,ns,c,hd,sn,sub,ab,col,del⟩:=cd
   dsimp only at hm a hok b
   subst hm a
   obtain ⟨l⟩:=sl
   have hl:l=[k0,k1,k2,k3,some (.builtin "ValueError.__new__"),k5]:=hs
   subst hl
   exact ⟨bm,ns,nm,c,bs,hd,sn,sub,ab,col,dd,k0,k1,k2,k3,k5,X _ _ d,tail_of_in X b⟩
  ·cases q
 ·cases q
end L2
end
section
namespace L2
open PySem PySem.W PySem.Spec PySem.Calls PyProof.Rows
abbrev Ew (C t:Addr) (da:Option Addr):Obj:={ cls:=.ref C,dict:=da,data:=.fields #[.ref t,.none,.none,.none,.bool false,.none] }
section
variable {M:Model} {A:Around} {E:Value->Shared->Prop} {env:Env}
variable {nm q:Str} {C N:Addr} {bs bm:List Value} {hdct:Bool} {sn:List Str} {sub:List Value} {ab:Bool} {col:Option Bool} {dd:Option Addr} {k0 k1 k2 k3 k5:Option Value} {nid:String}
theorem rl {s:Shared} {x:Sem Value} {Q:Flow->Shared->Prop} (a:bm.contains (.type "BaseException")=true) (i:A.handled=none)
  (h:wpAny M A x (λv s1=>∃ e t da,v=.ref e/\s1.heap.get? C=some (excClassObj nm q C N bs bm hdct sn sub ab col dd k0 k1 k2 k3 k5 nid)/\s1.heap.get? e=some (Ew C t da)/\E (.ref e) s1) E s):wpAny M A (raiseStmt env (some x) none) Q E s:=by
 have b:(Value.ref C::bm).contains (.type "BaseException")=true:=by rw[List.contains_cons,a,Bool.or_true]
 unfold raiseStmt
 refine ET (wpAny_mono h (λv s1 h1=>?_) λ_ _ x=>x)
 obtain ⟨e,t,da,rfl,c,he,f⟩:=h1
 obtain ⟨j,g,d,tk,os⟩:=s1
 repeat (first | with_reducible refine wpAny_loadPart_at he ?_ | with_reducible refine wpAny_loadPart_at c ?_ | (with_reducible refine wpAny_isSubtype_exc c ?_;rw[b]) | wp_step)
 exact wpAny_raiseNew_none i f
end
structure ICls (K:Frag) (mg:Str->Option Value) (x:Str) (C:Addr) (n:Str):Prop where
 bound:mg x=some (.ref C)
 ok:oW K C=true
 ik:IniK K C n
 fn:∃ (fI:Addr) (st:Stmt) (p1 p2 p3 p4:Pos) (od an:Option Addr) (osl:Array (Option Value)) (qual:Str) (kV doc pm cdv ct:Value),findIn K (.ref C) "__init__"=some (some (.ref fI))/\K.lookup fI=some ⟨.type "function",od,.func (fnOf "__init__" qual (aH st) (aw st) (ad st) .none kV doc pm an cdv ct),osl⟩/\codeIn K cdv qual=true /\
  FnScope [("self":Str),n] [("self":Str),n] (ad st)/\(ad st).names.lookup ("self":Str)=some .local/\(ad st).names.lookup n=some .local/\aw st=[.Assign [.Attribute (.Name "self" p1) n p2] (.Name n p3) p4] /\
  ∀ x v,bindArgs (fnOf "__init__" qual (aH st) (aw st) (ad st) .none kV doc pm an cdv ct) ⟨[x,v],[]⟩=pure [(("self":Str),x),(n,v)]
 nn:n≠("self":Str)/\(n == ("__debug__":Str))=false
section
variable {X:Cx} {x n:Str} {C:Addr} {np cpos pos:Pos} {e:Expr} {ta:TA} {k:Nat}
def sM (n:Str) (a:St->Hp->Addr->Prop) (ta:TA):TS:=λ_ σ H=>ta σ H λvs H1=>∃ v,vs=[v]/\∀ d od u,H1 d=none->RelV v u->lookIn n od=some (some u)->a σ (upd H1 d (dP od d od.cls)) d
theorem u6 (c:ICls X.K X.mg x C n) (hc:X.calm=true) (hr:Room k X.A) (P:Gl X x) (hd:(x == ("__debug__":Str))=false) (ha:PA X [e] ta) (G:St->Hp->Addr->Prop)
  (hx:∀ (pins:List (Addr×Obj)) (σ:St) (H:Hp) (s:Shared) (a t d:Addr),Inv X pins σ H s->G σ H d->s.heap.get? a=some (Ew C t (some d))->X.s₀.heap.get? a=none->H a=none->X.xe (.ref a) s)
  (he:starEach [e] X.env=[(false,eval e X.env)]) (hex:X.ex=[]):PS X (.Raise (some (.Call (.Name x np) [e] [] cpos)) none pos) (sM n G ta):=by
 intro pins s σ H D I h
 obtain ⟨fI,st,p1,p2,p3,p4,od,an,ae,qual,kV,doc,pm,Z,ct,hi,hl,l,S,U,l2,m,r⟩:=c.fn
 have FB:=PySem.F.excBase_ValueError
 obtain ⟨bm,N,nm,Y,bs,hdct,sn,sub,ab,col,dd,k0,k1,k2,k3,k5,V,T⟩:=rZ I.mod.kin c.ok
 rw[arm_exec_Raise]
 refine ET (wpAny_standAt (rl (C:=C) (nm:=nm) (q:=Y) (N:=N) (bs:=bs) (bm:=bm) (hdct:=hdct) (sn:=sn) (sub:=sub) (ab:=ab) (col:=col) (dd:=dd) (k0:=k0) (k1:=k1) (k2:=k2) (k3:=k3) (k5:=k5) (nid:="ValueError.__new__") (T.hasType FB.hasBase) (I.ok.hd hc) (ET (wpAny_mono (wpAny_Call_ofName (ft I P c.bound ?_ hd)) (λv s3 h3=>ET (wpAny_standAt (EU h3))) λ_ _ x=>x))))
 have h1:=ha cpos pins s σ H _ I h
 rw[he] at h1 ⊢
 unfold callWith
 refine ET (EV (Calls.evalArgs_plain (wpAny_mono h1 (λus s1 ⟨vs,H1,i,r1,v,hv,w⟩=>ET (wpAny_standAt ?_)) λ_ _ y=>y)))
 subst hv
 obtain ⟨u,rfl,ru⟩:=cW r1
 have j:(backTo cpos [(false,eval e X.env)]).any (·.1)=false:=rfl
 simp only[j]
 have f:=i.bk _ _ V
 have T1:OwnTail s1.heap iz bm:=T.keeps i.bk
 have E:X.K.In s1.heap:=i.kIn
 obtain ⟨M,g,dr,tk,os⟩:=s1
 refine ET (wpAny_keeperOf_exc f ?_)
 refine ET (we E T1 f hi (by show (X.K.lookup fI).map (·.cls)=_;rw[hl];rfl) (by rw[sizeLine_eq];simp) λh' a hsz hm=>?_)
 obtain ⟨t,O,Q,ar⟩:=hm.there
 have K2:X.K.In h':=E.keeps hm.keeps
 have lim:h'.NoLimit:=(i.mod.nolimit.keeps i.bk).keeps hm.keeps
 refine vF K2 lim c.ik hl l S ⟨U,l2⟩ c.nn.1 c.nn.2 (r _ _) m (by have:=hr.dp;show X.A.depth+1 < recursionLimit;omega) O rfl rfl rfl λh2 d od p hd2 k2 L B R=>⟨rfl,?_⟩
 refine ET (EV (wpAny_point (EU ⟨a,t,some d,rfl,?_,L,?_⟩)))
 ·exact k2 C _ (λz=>by have:=hm.new;rw[<- z,f] at this;cases this) (hm.keeps _ _ f)
 ·have kk:∀ b o,M.get? b=some o->h2.get? b=some o:=λb o e=>k2 b o (λz=>by have:=hm.new;rw[<- z,e] at this;cases this) (hm.keeps b o e)
  have hle:M.objs.size<=d:=FH hsz hd2
  have J:=i.laid (h':=h2) (a:=d) (o:=dP od d od.cls) (t':=p) kk hle ⟨B,⟨od,B,rfl⟩,⟨od,B⟩,λh1 h2 ⟨o,w,q2⟩ k=>⟨o,k o w,q2⟩⟩
  obtain ⟨n0,W⟩:=i.newAt hex hm.new
  exact hx pins σ _ _ a t d J (w d od u (i.hok.fresh hle) ru R) L n0 (by rw[ak (Fi (Fq (E7 O) hd2))];exact W)
end
end L2
end
section
namespace L2
open PySem PySem.W PySem.Spec PySem.Calls PyProof.Rows Builtin.Getset_descriptor
section
variable {prog:Program} {w:World} {A:Around} {E:Value->Shared->Prop} {s:Shared} {K:FG} {x D:Addr} {n:Str} {ox od:Obj} {v:Value}
theorem sD {tk:Tok} {Q:Fin->Shared->Prop} (X:K.In s.heap) (I:PySem.W.InstAt s.heap x ox D (some od)) (hf:findObj K D (some od) n=some (.value v)) (h:Q (.done (.ret v)) s) :
  wpAny (model prog w) A (Builtin.«object.__getattribute__» ⟨[.ref x,.str n tk],[]⟩) Q E s:=by
 obtain ⟨h0,d,c,t0,o0⟩:=s
 have a:=I.type (M:=model prog w)
 have b:=looks_find (M:=model prog w) X I hf
 unfold Builtin.«object.__getattribute__» slotArgs
 repeat lk
 exact h
theorem zx {Q:Value->Shared->Prop} {b:Bool} (k:ExcK K D) (X:K.In s.heap) (I:PySem.W.InstAt s.heap x ox D (some od)) (hf:findObj K D (some od) n=some (.value v)) (d:handedIn v=true) (h:Q v { s with toks:=s.toks+1 }):wpAny (model prog w) A (getAttr (.ref x) n b) Q E s:=by
 have p:ExcAt s.heap x D:=⟨ox,I.at_,I.cls⟩
 obtain ⟨h0,g,i,t0,o0⟩:=s
 have c:=p.ty (M:=model prog w)
 have a:=looks_findIn (M:=model prog w) X k.ga
 have f:=looks_findIn (M:=model prog w) X k.gt
 have e:=F.excAttr_ValueError.ga.bind (.ref x)
 have ne:(onTheHeap (Value.ref D) && Value.builtin "BaseException.__getattribute__" == Value.builtin "object.__getattribute__")=false:=by
  rw[show (Value.builtin "BaseException.__getattribute__" == Value.builtin "object.__getattribute__")=false by decide +kernel];rfl
 unfold getAttr getAttrBy
 refine ET (wpAny_mkText (EV (ET (c.at (ET (a.at ?_))))))
 simp only[ne,FA,if_false]
 unfold getAttrByItsOwn hookBefore
 rw[show onTheHeap (Value.ref D)=true from rfl,if_pos rfl]
 refine ET (f.at (ET (wpAny_attempt (EV ?_))))
 unfold callGetattribute boundAndCalled
 rw[if_neg (by cases b <;> decide)]
 refine ET (wpAny_of_eq e ?_)
 refine wpAny_call (codeAny_call_builtin F.excAttr_ValueError.ga.plain F.entry_bexc_ga (nC k X p (sD X I hf ?_)))
 show wpAny _ _ (handedOut v) _ _ _
 rw[handedOut_of d]
 exact EU h
end
end L2
end
section
namespace L2
open PySem PySem.Spec PyProof.Rows
section
variable {X:Cx}
theorem nE:∀ {bs:List Bool} {its:List Value},Vals (bs.map V.bl) its->its.countP (eqU (.bl k))=bs.count k
 | [],its,r=>by cases r;rfl
 | b::bs,its,r=>by
  cases r with
  | cons h t =>
   rw[List.countP_cons,List.count_cons,nE t,oX h rfl]
   rfl
theorem vm:MtR X "list.count" (λx vs H Q=>∃ (a:Addr) (bs:List Bool) (k:Bool),x=.ref a/\vs=[.bl k]/\SqL X.K H a (bs.map V.bl)/\Q (.int (bs.count k:Nat)) H):=by
 intro pins s σ H x vs v us Q I l j h
 obtain ⟨a,bs,k,rfl,rfl,hl,q⟩:=h
 cases l
 obtain ⟨u,rfl,i⟩:=cW j
 obtain ⟨its,r,⟨o,n,e,f,hd,hs⟩,hz⟩:=I.list hl
 have g:s.heap.get? a=some { cls:=.type "list",dict:=none,data:=.seq its.toArray n,slots:=o.slots }:=by
  rw[e]
  obtain ⟨c,d,dt,sl⟩:=o
  dsimp only at f hd hs
  subst f hd hs
  rfl
 refine call_meets F.slot_list_count ⟨_,g,rfl⟩ F.entry_list_count (F.args_list_count_2 _ _) (SeqAt.list_countAt a its.toArray n none o.slots u (eqU (.bl k))) ⟨g,λz b=>lC i rfl r (by simp[fK]) z (by simpa using b),?_⟩
 rw[show its.toArray.toList=its from rfl,nE r]
 exact ⟨.int _,H,I.tok _,⟨_,rfl⟩,q⟩
end
end L2
end
section
namespace L2
open PySem PySem.Spec PyProof.Rows
end L2
end
section
namespace L3
open PySem L2
theorem nsE {α:Type} {p:α} {P:Prop} (e:(none:Option α)=some p):P:=nomatch e
inductive D where
 | non | bl (b:Bool) | int (i:Int) | str (x:Str)
 | tup (xs:List D) | lst (xs:List D) | fls (xs:List D) | dk (kvs:List (Key×D)) | dt (kvs:List (List Key×D))
 | exc (c:String) (fs:List (String×D))
def jo:D->Bool
 | .lst _=>true
 | .dk _=>true
 | .dt _=>true
 | _=>false
def FzL (K:FG) (H:Hp) (a:Addr) (vs:List V):Prop:=(∃ o,H a=some (.frz o (.lst vs)))\/∃ (o:Obj) (its:Array Value) (n:Nat),K.lookup a=some o/\o.cls=.type "list"/\o.dict=none/\o.data=.seq its n/\its.size<=sizeLine/\Vals vs its.toList
theorem FzL.sq (h:FzL K H a vs):SqL K H a vs:=h.elim (λ⟨o,e⟩=>.inl (.inr ⟨o,e⟩)) .inr
inductive Reps (R:D->V->List Addr->Prop):List D->List V->List Addr->Prop where
 | nil:Reps R [] [] []
 | cons {d v L ds vs L'}:R d v L->Reps R ds vs L'->Reps R (d::ds) (v::vs) (L++L')
inductive Rep (K:FG) (H:Hp):D->V->List Addr->Prop where
 | non:Rep K H .non .non []
 | bl (b:Bool):Rep K H (.bl b) (.bl b) []
 | int (i:Int):Rep K H (.int i) (.int i) []
 | str (x:Str):Rep K H (.str x) (.str x) []
 | tup {xs a vs L}:H a=some (.tup vs)->Reps (Rep K H) xs vs L->Rep K H (.tup xs) (.ref a) L
 | lst {xs a vs L}:H a=some (.lst vs)->Reps (Rep K H) xs vs L->Rep K H (.lst xs) (.ref a) (a::L)
 | lstF {xs a vs L}:FzL K H a vs->Reps (Rep K H) xs vs L->Rep K H (.fls xs) (.ref a) L
 | dK {kvs a ps L}:H a=some (.dK ps)->kvs.map (·.1)=ps.map (·.1)->Reps (Rep K H) (kvs.map (·.2)) (ps.map (·.2)) L->Rep K H (.dk kvs) (.ref a) (a::L)
 | dT {kvs a ps L}:H a=some (.dT ps)->kvs.map (·.1)=ps.map (·.1)->Reps (Rep K H) (kvs.map (·.2)) (ps.map (·.2)) L->Rep K H (.dt kvs) (.ref a) (a::L)
 | exc {c a D ob}:XName K c D->H a=some (dP ob a (.ref D))->Rep K H (.exc c []) (.ref a) []
 | excV {c a D ob n x v d od u}:XName K c D->H a=some (dP ob a (.ref D))->ob.dict=some d->H d=some (dP od d od.cls)->PySem.W.lookIn (Str.ofString n) od=some (some u)->RelV v u->PySem.W.notCls ob=true->Rep K H x v []->Rep K H (.exc c [(n,x)]) (.ref a) []
def PayX (K:FG) (H:Hp) (da:Option Addr):List (String×D)->Prop
 | []=>True
 | [(n,x)]=>∃ v d od u,da=some d/\H d=some (dP od d od.cls)/\PySem.W.lookIn (Str.ofString n) od=some (some u)/\RelV v u/\Rep K H x v []
 | _=>False
def RepV (K:FG) (H:Hp) (d:D) (v:V) (L:List Addr):Prop:=match d with
 | .non=>v=.non/\L=[]
 | .bl b=>v=.bl b/\L=[]
 | .int i=>v=.int i/\L=[]
 | .str x=>v=.str x/\L=[]
 | .tup xs=>∃ a vs,v=.ref a/\H a=some (.tup vs)/\Reps (Rep K H) xs vs L
 | .lst xs=>∃ a vs L',v=.ref a/\L=a::L'/\H a=some (.lst vs)/\Reps (Rep K H) xs vs L'
 | .fls xs=>∃ a vs,v=.ref a/\FzL K H a vs/\Reps (Rep K H) xs vs L
 | .dk kvs=>∃ a ps L',v=.ref a/\L=a::L'/\H a=some (.dK ps)/\kvs.map (·.1)=ps.map (·.1)/\Reps (Rep K H) (kvs.map (·.2)) (ps.map (·.2)) L'
 | .dt kvs=>∃ a ps L',v=.ref a/\L=a::L'/\H a=some (.dT ps)/\kvs.map (·.1)=ps.map (·.1)/\Reps (Rep K H) (kvs.map (·.2)) (ps.map (·.2)) L'
 | .exc c fs=>L=[]/\∃ a D ob,v=.ref a/\XName K c D/\H a=some (dP ob a (.ref D))/\PayX K H ob.dict fs/\(fs≠[]->PySem.W.notCls ob=true)
theorem Rep.view (r:Rep K H d v L):RepV K H d v L:=by
 cases r with
 | non=>exact ⟨rfl,rfl⟩
 | bl b=>exact ⟨rfl,rfl⟩
 | int i=>exact ⟨rfl,rfl⟩
 | str x=>exact ⟨rfl,rfl⟩
 | tup h r=>exact ⟨_,_,rfl,h,r⟩
 | lst h r=>exact ⟨_,_,_,rfl,rfl,h,r⟩
 | lstF h r=>exact ⟨_,_,rfl,h,r⟩
 | dK h k r=>exact ⟨_,_,_,rfl,rfl,h,k,r⟩
 | dT h k r=>exact ⟨_,_,_,rfl,rfl,h,k,r⟩
 | exc n h=>exact ⟨rfl,_,_,_,rfl,n,h,trivial,λz=>absurd rfl z⟩
 | excV n h1 h2 h3 h4 h5 h7 h6=>exact ⟨rfl,_,_,_,rfl,n,h1,⟨_,_,_,_,h2,h3,h4,h5,h6⟩,λ_=>h7⟩
def MutAt (H:Hp) (b:Addr):Prop:=(∃ xs,H b=some (.lst xs))\/(∃ ps,H b=some (.dK ps))\/∃ ps,H b=some (.dT ps)
theorem MutAt.ex (m:MutAt H b):∃ o,H b=some o:=by
 rcases m with ⟨_,h⟩ | ⟨_,h⟩ | ⟨_,h⟩ <;> exact ⟨_,h⟩
theorem MutAt.notup (m:MutAt H b) (h:H b=some (.tup vs)):False:=by
 rcases m with ⟨_,e⟩ | ⟨_,e⟩ | ⟨_,e⟩ <;> rw[e] at h <;> cases h
theorem MutAt.nofrz (m:MutAt H b) (h:H b=some (.frz o u)):False:=by
 rcases m with ⟨_,e⟩ | ⟨_,e⟩ | ⟨_,e⟩ <;> rw[e] at h <;> cases h
theorem FzL.keep {M:Addr->Prop} (h:FzL K H a vs) (k:∀ b o,H b=some o->¬ M b->H' b=some o) (hm:∀ b,M b->MutAt H b):FzL K H' a vs:=h.elim (λ⟨o,e⟩=>.inl ⟨o,k a _ e λz=>(hm a z).nofrz e⟩) .inr
section
variable {K:FG} {H H':Hp} {d:D} {v:V} {L:List Addr}
set_option tactic.hygienic true in
theorem Rep.inH (r:Rep K H d v L):∀ b∈L,MutAt H b:=by
 refine Rep.rec (motive_1:=λ_ _ L _=>∀ b∈L,MutAt H b) (motive_2:=λ_ _ L _=>∀ b∈L,MutAt H b) ?_ ?_ ?_ ?_ ?_ ?_ ?_ ?_ ?_ ?_ ?_ ?_ ?_ r
 ·intro b a;cases a
 ·intro _ b a;cases a
 ·intro _ b a;cases a
 ·intro _ b a;cases a
 ·intro _ _ _ _ _ _ c;exact c
 ·intro _ _ _ _ h _ c b a
  rcases E5.mp a with e | a
  ·rw[e];exact .inl ⟨_,h⟩
  ·exact c b a
 ·intro _ _ _ _ _ _ c;exact c
 ·intro _ _ _ _ h _ _ c b a
  rcases E5.mp a with e | a
  ·rw[e];exact .inr (.inl ⟨_,h⟩)
  ·exact c b a
 ·intro _ _ _ _ h _ _ c b a
  rcases E5.mp a with e | a
  ·rw[e];exact .inr (.inr ⟨_,h⟩)
  ·exact c b a
 ·intro _ _ _ _ _ _ b a;cases a
 ·intros;rename_i a;cases a
 ·intro b a;cases a
 ·intro _ _ _ _ _ _ _ _ g f b a
  rcases E8.mp a with h | h
  ·exact g b h
  ·exact f b h
theorem Reps.inH (r:Reps (Rep K H) ds vs L):∀ b∈L,MutAt H b:=by
 induction r with
 | nil=>intro b a;cases a
 | cons r _ ih =>
  intro b a
  rcases E8.mp a with h | h
  ·exact r.inH b h
  ·exact ih b h
theorem Rep.keep {M:Addr->Prop} (k:∀ b o,H b=some o->¬ M b->H' b=some o) (hm:∀ b,M b->MutAt H b) (r:Rep K H d v L):(∀ b∈L,¬ M b)->Rep K H' d v L:=by
 refine Rep.rec (motive_1:=λd v L _=>(∀ b∈L,¬ M b)->Rep K H' d v L) (motive_2:=λds vs L _=>(∀ b∈L,¬ M b)->Reps (Rep K H') ds vs L) ?_ ?_ ?_ ?_ ?_ ?_ ?_ ?_ ?_ ?_ ?_ ?_ ?_ r
 ·intro _;exact .non
 ·intro b _;exact .bl b
 ·intro b _;exact .int b
 ·intro b _;exact .str b
 ·intro xs a vs L h _ g f
  exact .tup (k a _ h λz=>(hm a z).notup h) (g f)
 ·intro xs a vs L h _ g f
  exact .lst (k a _ h (f a EW)) (g λb i=>f b (EY _ i))
 ·intro xs a vs L h _ g f
  exact .lstF (h.keep k hm) (g f)
 ·intro kvs a ps L h e _ g f
  exact .dK (k a _ h (f a EW)) e (g λb i=>f b (EY _ i))
 ·intro kvs a ps L h e _ g f
  exact .dT (k a _ h (f a EW)) e (g λb i=>f b (EY _ i))
 ·intro c a D ob n h _
  exact .exc n (k a _ h λz=>(hm a z).nofrz h)
 ·intro c a D ob n x v d od u e1 l w j q t m _ g _
  exact .excV e1 (k a _ l λz=>(hm a z).nofrz l) w (k d _ j λz=>(hm d z).nofrz j) q t m (g λ_ h=>nomatch h)
 ·intro _;exact .nil
 ·intro d v L ds vs L' _ _ p s f
  exact .cons (p λb i=>f b (E3 _ i)) (s λb i=>f b (E4 _ i))
theorem Rep.excP {c:String} {fs:List (String×D)} {a C:Addr} {ob:Obj} (n:XName K c C) (h:H a=some (dP ob a (.ref C))) (p:PayX K H ob.dict fs) (b:PySem.W.notCls ob=true):Rep K H (.exc c fs) (.ref a) [] :=
 match fs,p with
 | [],_=>.exc n h
 | [(_,_)],⟨_,_,_,_,e1,e2,e3,e4,e5⟩=>.excV n h e1 e2 e3 e4 b e5
theorem Rep.same (r:Rep K H d v L) (s:Same H H'):Rep K H' d v L:=r.keep (M:=λ_=>False) (λb o h _=>s b o h) (λ_ z=>z.elim) λ_ _ z=>z
theorem Reps.keep {M:Addr->Prop} (k:∀ b o,H b=some o->¬ M b->H' b=some o) (hm:∀ b,M b->MutAt H b) (r:Reps (Rep K H) ds vs L):(∀ b∈L,¬ M b)->Reps (Rep K H') ds vs L:=by
 induction r with
 | nil=>intro _;exact .nil
 | cons r _ ih=>intro c;exact .cons (r.keep k hm λb a=>c b (E3 _ a)) (ih λb a=>c b (E4 _ a))
theorem PayX.same {da:Option Addr} {fs:List (String×D)} (p:PayX K H da fs) (s:Same H H'):PayX K H' da fs :=
 match fs,p with
 | [],_=>trivial
 | [(_,_)],⟨_,_,_,_,e1,e2,e3,e4,e5⟩=>⟨_,_,_,_,e1,s _ _ e2,e3,e4,e5.same s⟩
theorem Reps.same (r:Reps (Rep K H) ds vs L) (s:Same H H'):Reps (Rep K H') ds vs L:=r.keep (M:=λ_=>False) (λb o h _=>s b o h) (λ_ z=>z.elim) λ_ _ z=>z
end
inductive Fl where
 | u | l | z
 deriving DecidableEq
structure It3 where
 d:D
 v:V
 L:List Addr
 f:Fl
abbrev Sto:=List (Option (D×Fl))
structure Gm where
 H0:Hp
 bw:Addr->Prop
 pr:Nat->Bool
 σ0:St
 orig:Hp
 src:Addr->Prop
 lv:Nat->Option V
def OwnOk (G:Gm) (x:It3):Prop:=jo x.d=true/\∃ a L',x.v=.ref a/\x.L=a::L'/\a ∉ L'/\(x.f=.u->G.H0 a=none\/G.bw a)
structure ItOk (K:FG) (G:Gm) (H:Hp) (x:It3):Prop where
 rep:Rep K H x.d x.v x.L
 own:x.f≠.z->OwnOk G x
 src:∀ c∈x.L,G.H0 c=none\/G.src c
structure Fx (G:Gm) (H:Hp) (T:List It3) (g:Nat->Option It3):Prop where
 frT:∀ x∈T,x.f≠.z->∀ a,x.v=.ref a->G.orig a=none
 frS:∀ i x,g i=some x->G.pr i=false->x.f≠.z->∀ a,x.v=.ref a->G.orig a=none
 bin:∀ b,G.bw b->∃ o,H b=some o
 ob:∀ b o,G.orig b=some o->∃ o',H b=some o'
 lvS:∀ i x,g i=some x->x.f=.l->G.lv i=some x.v
def NoRoot (x y:It3):Prop:=x.f≠.z->∀ a,x.v=.ref a->a ∉ y.L
def Apart3 (x y:It3):Prop:=NoRoot x y/\NoRoot y x
structure Wf (K:FG) (G:Gm) (H:Hp) (σ:St) (ρ:Sto) (T:List It3) (g:Nat->Option It3):Prop where
 len:σ.length=ρ.length
 sl:∀ i,(g i).map (λx=>(x.d,x.f))=(ρ[i]?).join
 sv:∀ i x,g i=some x->σ[i]?=some (some x.v)
 okS:∀ i x,g i=some x->ItOk K G H x
 okT:∀ x∈T,ItOk K G H x
 ss:∀ i j x y,i≠j->g i=some x->g j=some y->NoRoot x y
 st:∀ i x,g i=some x->∀ y∈T,Apart3 x y
 tt:T.Pairwise Apart3
 base:∀ b o,G.H0 b=some o->¬ G.bw b->H b=some o
 pro:∀ i,G.pr i=true->σ[i]?=G.σ0[i]?
 fx:Fx G H T g
structure Le (K:FG) (G:Gm) (W:D->Sto->Prop) (G0:Gm) (W0:D->Sto->Prop):Prop where
 pr:G.pr=G0.pr
 ex:∀ (H:Hp) (σ:St) (ρ:Sto) (T:List It3) (g:Nat->Option It3) (e:D),Wf K G H σ ρ T g->W e ρ->∃ ρ0 T0 g0,Wf K G0 H σ ρ0 T0 g0/\W0 e ρ0
theorem Le.refl (K:FG) (G:Gm) (W:D->Sto->Prop):Le K G W G W:=⟨rfl,λ_ _ ρ T g _ w h=>⟨ρ,T,g,w,h⟩⟩
theorem Le.trans (a:Le K G W G1 W1) (b:Le K G1 W1 G2 W2):Le K G W G2 W2:=⟨a.pr.trans b.pr,λH σ ρ T g e w h=>by
 obtain ⟨ρ1,d,g1,c,h1⟩:=a.ex H σ ρ T g e w h
 exact b.ex H σ ρ1 d g1 e c h1⟩
section
variable {K:FG} {G:Gm} {H H':Hp} {σ:St} {ρ:Sto} {T T':List It3} {g:Nat->Option It3} {x y z:It3}
theorem ItOk.keep {M:Addr->Prop} (h:ItOk K G H x) (k:∀ b o,H b=some o->¬ M b->H' b=some o) (hm:∀ b,M b->MutAt H b) (a:∀ b∈x.L,¬ M b):ItOk K G H' x:=⟨h.rep.keep k hm a,h.own,h.src⟩
theorem ItOk.same (h:ItOk K G H x) (s:Same H H'):ItOk K G H' x:=⟨h.rep.same s,h.own,h.src⟩
theorem Fx.more (f:Fx G H T g) (s:∀ b o,H b=some o->∃ o',H' b=some o'):Fx G H' T g:=⟨f.frT,f.frS,λb h=>let ⟨o,e⟩:=f.bin b h;s b o e,λb o h=>let ⟨o',e⟩:=f.ob b o h;s b o' e,f.lvS⟩
theorem Fx.sub (f:Fx G H T g) (h:∀ x∈T',x∈T):Fx G H T' g:=⟨λx a=>f.frT x (h x a),f.frS,f.bin,f.ob,f.lvS⟩
theorem Wf.grow (w:Wf K G H σ ρ T g) (s:Same H H'):Wf K G H' σ ρ T g :=
 ⟨w.len,w.sl,w.sv,λi x e=>(w.okS i x e).same s,λx a=>(w.okT x a).same s,w.ss,w.st,w.tt,λb o e n=>s b o (w.base b o e n),w.pro,w.fx.more λb o h=>⟨o,s b o h⟩⟩
theorem Wf.sub (w:Wf K G H σ ρ T g) (h:T'.Sublist T):Wf K G H σ ρ T' g :=
 ⟨w.len,w.sl,w.sv,w.okS,λx a=>w.okT x (h.subset a),w.ss,λi x e y b=>w.st i x e y (h.subset b),w.tt.sublist h,w.base,w.pro,w.fx.sub λx a=>h.subset a⟩
def Itm (T:List It3) (g:Nat->Option It3) (y:It3):Prop:=(∃ i,g i=some y)\/y∈T
def dD (T:List It3) (g:Nat->Option It3) (c:Addr):Prop:=(∀ i z,g i=some z->z.f≠.z->z.v≠.ref c)/\∀ z∈T,z.f≠.z->z.v≠.ref c
theorem Wf.itm (w:Wf K G H σ ρ T g) (h:Itm T g y):ItOk K G H y:=by
 rcases h with ⟨i,e⟩ | h
 ·exact w.okS i y e
 ·exact w.okT y h
theorem oC {α:Type} {R:α->α->Prop} {l:List α} (p:l.Pairwise R) (hs:∀ a b,R a b->R b a):∀ a∈l,∀ b∈l,a≠b->R a b:=by
 induction p with
 | nil=>intro a e;cases e
 | @cons c l hc _ ih =>
  intro a e b d n
  rcases E5.mp e with g | e
  ·rcases E5.mp d with f | d
   ·exact absurd (g.trans f.symm) n
   ·rw[g];exact hc b d
  ·rcases E5.mp d with f | d
   ·rw[f];exact hs _ _ (hc a e)
   ·exact ih a e b d n
theorem Apart3.symm (h:Apart3 x y):Apart3 y x:=⟨h.2,h.1⟩
theorem Wf.kid (w:Wf K G H σ ρ T g) (h:Itm T g y) (d:c∈y.L) (m:y.f≠.z->y.v≠.ref c):dD T g c:=by
 refine ⟨λi z e hz a=>?_,λz hm hz a=>?_⟩
 ·rcases h with ⟨j,b⟩ | k
  ·by_cases l:i=j
   ·subst l
    rw[e] at b
    cases b
    exact m hz a
   ·exact w.ss i j z y l e b hz c a d
  ·exact (w.st i z e y k).1 hz c a d
 ·rcases h with ⟨j,b⟩ | k
  ·exact (w.st j y b z hm).2 hz c a d
  ·by_cases e:z=y
   ·subst e;exact m hz a
   ·exact (oC w.tt (λ_ _=>Apart3.symm) z hm y k e).1 hz c a d
structure New (K:FG) (H H':Hp) (Ks:Addr->Prop) (x:It3):Prop where
 same:Same H H'
 rep:Rep K H' x.d x.v x.L
 sub:∀ c∈x.L,H c=none\/Ks c
 own:x.f≠.z->jo x.d=true/\∃ a L',x.v=.ref a/\x.L=a::L'/\a ∉ L'/\H a=none
theorem Wf.h0none (w:Wf K G H σ ρ T g) (h:H a=none):G.H0 a=none:=by
 cases e:G.H0 a with
 | none=>rfl
 | some o =>
  by_cases b:G.bw a
  ·obtain ⟨o,e⟩:=w.fx.bin a b
   rw[h] at e;cases e
  ·have:=w.base a o e b
   rw[h] at this;cases this
theorem Wf.ornone (w:Wf K G H σ ρ T g) (h:H a=none):G.orig a=none:=by
 cases e:G.orig a with
 | none=>rfl
 | some o =>
  obtain ⟨o,e⟩:=w.fx.ob a o e
  rw[h] at e;cases e
theorem Wf.push (w:Wf K G H σ ρ T g) (n:New K H H' Ks x) (q:∀ c,Ks c->dD T g c/\(G.H0 c=none\/G.src c)):Wf K G H' σ ρ (x::T) g:=by
 have d:=w.grow n.same
 have a1:∀ y:It3,ItOk K G H y->(∀ c,Ks c->y.f≠.z->y.v≠.ref c)->Apart3 y x:=λy m b=>by
  refine ⟨λhf a e hm=>?_,λhf a e hm=>?_⟩
  ·obtain ⟨_,u,L',e1,l,_,_⟩:=m.own hf
   rw[e] at e1
   cases e1
   rcases n.sub a hm with h | h
   ·obtain ⟨o,k⟩:=(m.rep.inH a (by rw[l];exact EW)).ex
    rw[h] at k;cases k
   ·exact b a h hf e
  ·obtain ⟨_,u,L',e1,l,_,h⟩:=n.own hf
   rw[e] at e1
   cases e1
   obtain ⟨o,k⟩:=(m.rep.inH a hm).ex
   rw[h] at k;cases k
 refine ⟨d.len,d.sl,d.sv,d.okS,?_,d.ss,?_,?_,d.base,d.pro,⟨λy b hf a t=>?_,d.fx.frS,d.fx.bin,d.fx.ob,d.fx.lvS⟩⟩
 ·intro y b
  rcases E5.mp b with rfl | b
  ·refine ⟨n.rep,λhf=>?_,λc j=>?_⟩
   ·obtain ⟨s,a,L',e1,l,r,p⟩:=n.own hf
    exact ⟨s,a,L',e1,l,r,λ_=>.inl (w.h0none p)⟩
   ·rcases n.sub c j with h | h
    ·exact .inl (w.h0none h)
    ·exact (q c h).2
  ·exact d.okT y b
 ·intro i z e y b
  rcases E5.mp b with rfl | b
  ·exact a1 z (w.okS i z e) λc j=>(q c j).1.1 i z e
  ·exact d.st i z e y b
 ·refine List.pairwise_cons.mpr ⟨λy b=>(a1 y (w.okT y b) λc j=>(q c j).1.2 y b).symm,d.tt⟩
 ·rcases E5.mp b with h | b
  ·subst h
   obtain ⟨s,u,L',e1,l,r,p⟩:=n.own hf
   rw[t] at e1
   cases e1
   exact w.ornone p
  ·exact d.fx.frT y b hf a t
def dq (ys:List It3) (c:Addr):Prop:=∃ y∈ys,c∈y.L/\(y.f≠.z->y.v≠.ref c)
theorem Wf.kids (w:Wf K G H σ ρ T g) (b:∀ y∈ys,Itm T g y) (h:dq ys c):dD T g c/\(G.H0 c=none\/G.src c):=by
 obtain ⟨y,m,a,d⟩:=h
 exact ⟨w.kid (b y m) a d,(w.itm (b y m)).src c a⟩
structure Arg (K:FG) (H:Hp) (p:It3):Prop where
 rep:Rep K H p.d p.v p.L
 own:p.f≠.z->jo p.d=true/\∃ a L',p.v=.ref a/\p.L=a::L'/\a ∉ L'
theorem ItOk.arg (h:ItOk K G H x):Arg K H x:=⟨h.rep,λhf=>by
 obtain ⟨m,a,L',v1,v2,v3,_⟩:=h.own hf
 exact ⟨m,a,L',v1,v2,v3⟩⟩
end
end L3
end
section
namespace L3
open PySem L2
inductive R3 where
 | pl (i:Nat) | val (d:D) (f:Fl)
abbrev M3 (α:Type):=Sto->Option (Except D α×Sto)
abbrev EM:=M3 R3
noncomputable def af {α β:Type} (m:M3 α) (k:α->M3 β):M3 β:=λρ=>match m ρ with
 | none=>none
 | some (.error e,ρ')=>some (.error e,ρ')
 | some (.ok a,ρ')=>k a ρ'
noncomputable def aQ {α:Type} (a:α):M3 α:=λρ=>some (.ok a,ρ)
noncomputable def aT {α:Type} (o:Option α):M3 α:=λρ=>o.map λa=>(.ok a,ρ)
noncomputable def der (r:R3):M3 D:=λρ=>match r with
 | .pl i=>((ρ[i]?).join).map λp=>(.ok p.1,ρ)
 | .val d _=>some (.ok d,ρ)
inductive Ar (σ:St):R3->V->List It3->Prop where
 | pl {i:Nat} {v:V}:σ[i]?=some (some v)->Ar σ (.pl i) v []
 | val (x:It3):Ar σ (.val x.d x.f) x.v [x]
def Got (K:FG) (G:Gm) (σ:St) (ρ:Sto) (T:List It3) (r:R3) (v:V) (H:Hp):Prop:=∃ Ts g,Wf K G H σ ρ (Ts++T) g/\Ar σ r v Ts
def tE (K:FG) (G0:Gm) (W0:D->Sto->Prop) (m:EM):TE:=λσ H Q=>∃ G W,Le K G W G0 W0/\∃ ρ T g r ρ',Wf K G H σ ρ T g/\m ρ=some (r,ρ')/\match r with
 | .ok r=>∀ v H',Got K G σ ρ' T r v H'->Q v H'
 | .error e=>W e ρ'
def tT (K:FG) (G0:Gm) (W0:D->Sto->Prop) (m:M3 Bool):TT:=λσ H Q=>∃ G W,Le K G W G0 W0/\∃ ρ T g r ρ',Wf K G H σ ρ T g/\m ρ=some (r,ρ')/\match r with
 | .ok b=>∀ H' g',Wf K G H' σ ρ' T g'->Q b H'
 | .error e=>W e ρ'
inductive Ars (σ:St):List R3->List V->List It3->Prop where
 | nil:Ars σ [] [] []
 | cons {r v Ts rs vs Us}:Ar σ r v Ts->Ars σ rs vs Us->Ars σ (r::rs) (v::vs) (Us++Ts)
def tA (K:FG) (G0:Gm) (W0:D->Sto->Prop) (m:M3 (List R3)):TA:=λσ H Q=>∃ G W,Le K G W G0 W0/\∃ ρ T g r ρ',Wf K G H σ ρ T g/\m ρ=some (r,ρ')/\match r with
 | .ok rs=>∀ vs H' Ts g',Wf K G H' σ ρ' (Ts++T) g'->Ars σ rs vs Ts->Q vs H'
 | .error e=>W e ρ'
inductive Flw where
 | nx | br | ct | rt (d:D) (f:Fl)
abbrev SM:=M3 Flw
def tS (K:FG) (G0:Gm) (W0:D->Sto->Prop) (m:SM):TS:=λE σ H=>∃ G W,Le K G W G0 W0/\∃ ρ T g r ρ',Wf K G H σ ρ T g/\m ρ=some (r,ρ')/\match r with
 | .ok .nx=>∀ σ' H' g',Wf K G H' σ' ρ' T g'->E.nx σ' H'
 | .ok .br=>∀ σ' H' g',Wf K G H' σ' ρ' T g'->E.bk σ' H'
 | .ok .ct=>∀ σ' H' g',Wf K G H' σ' ρ' T g'->E.ct σ' H'
 | .ok (.rt d f)=>∀ x σ' H' g',Wf K G H' σ' ρ' (x::T) g'->x.d=d->x.f=f->E.rt x.v H'
 | .error e=>W e ρ'
section
variable {K:FG} {G G0:Gm} {W W0:D->Sto->Prop} {H H':Hp} {σ:St} {ρ ρ':Sto} {T T':List It3} {g:Nat->Option It3} {x y z:It3} {α β:Type}
theorem aM (e:af (der r) k ρ=some (o,ρ')):∃ d,der r ρ=some (.ok d,ρ)/\k d ρ=some (o,ρ'):=by
 cases r with
 | pl i =>
  have a:der (.pl i) ρ=((ρ[i]?).join).map λp=>(.ok p.1,ρ):=rfl
  unfold af at e
  rw[a] at e ⊢
  cases h:(ρ[i]?).join with
  | none=>rw[h] at e;exact nsE e
  | some p=>rw[h] at e;exact ⟨p.1,rfl,e⟩
 | val d f=>exact ⟨d,rfl,e⟩
theorem bF (e:aT o ρ=some (r,ρ')):∃ a,o=some a/\r=.ok a/\ρ'=ρ:=by
 unfold aT at e
 cases o with
 | none=>exact nsE e
 | some a=>cases e;exact ⟨a,rfl,rfl,rfl⟩
theorem Wf.slot (w:Wf K G H σ ρ T g) {i:Nat} (e:(ρ[i]?).join=some (d,f)):∃ y,g i=some y/\y.d=d/\y.f=f/\σ[i]?=some (some y.v):=by
 have h:=w.sl i
 rw[e] at h
 cases q:g i with
 | none=>rw[q] at h;exact nsE h
 | some y =>
  rw[q] at h
  cases h
  exact ⟨y,rfl,rfl,rfl,w.sv i y q⟩
theorem Ar.item (w:Wf K G H σ ρ T g) (a:Ar σ r v Ts) (hs:∀ x∈Ts,x∈T) (e:der r ρ=some (.ok d,ρ)):∃ y,Itm T g y/\y.d=d/\y.v=v:=by
 cases a with
 | @pl i v h =>
  have k:der (.pl i) ρ=((ρ[i]?).join).map λp=>(.ok p.1,ρ):=rfl
  rw[k] at e
  cases q:(ρ[i]?).join with
  | none=>rw[q] at e;exact nsE e
  | some p =>
   rw[q] at e
   obtain ⟨y,e1,j,l,b⟩:=w.slot (d:=p.1) (f:=p.2) q
   have c:p.1=d:=by cases e;rfl
   rw[h] at b
   refine ⟨y,.inl ⟨i,e1⟩,j.trans c,?_⟩
   cases b;rfl
 | val x=>cases e;exact ⟨x,.inr (hs x (by simp)),rfl,rfl⟩
theorem Wf.done (w:Wf K G H σ ρ (Us++T) g) (a:∀ y∈ys,Itm (Us++T) g y) (n:New K H H' (dq ys) x):Got K G σ ρ T (.val x.d x.f) x.v H' :=
 ⟨[x],g,(w.push n λc h=>w.kids a h).sub (by simpa using List.Sublist.cons_cons x (Fd Us T)),.val x⟩
theorem tE.seq (le:Le K G W G0 W0) (w:Wf K G H σ ρ T g) (e:af ma k ρ=some (r,ρ')) (he:∀ x,r=.error x->W x ρ') (h:∀ ra ρ1,k ra ρ1=some (r,ρ')->∀ v H1,Got K G σ ρ1 T ra v H1->P v H1):tE K G0 W0 ma σ H P:=by
 unfold af at e
 cases q:ma ρ with
 | none=>rw[q] at e;exact nsE e
 | some p =>
  obtain ⟨o,ρ1⟩:=p
  rw[q] at e
  cases o with
  | error x=>cases e;exact ⟨G,W,le,ρ,T,g,.error x,ρ',w,q,he x rfl⟩
  | ok ra=>exact ⟨G,W,le,ρ,T,g,.ok ra,ρ1,w,q,h ra ρ1 e⟩
theorem tT.seq (le:Le K G W G0 W0) (w:Wf K G H σ ρ T g) (e:af ma k ρ=some (r,ρ')) (he:∀ x,r=.error x->W x ρ') (h:∀ b ρ1,k b ρ1=some (r,ρ')->∀ H1 g1,Wf K G H1 σ ρ1 T g1->P b H1):tT K G0 W0 ma σ H P:=by
 unfold af at e
 cases q:ma ρ with
 | none=>rw[q] at e;exact nsE e
 | some p =>
  obtain ⟨o,ρ1⟩:=p
  rw[q] at e
  cases o with
  | error x=>cases e;exact ⟨G,W,le,ρ,T,g,.error x,ρ',w,q,he x rfl⟩
  | ok ra=>exact ⟨G,W,le,ρ,T,g,.ok ra,ρ1,w,q,h ra ρ1 e⟩
theorem tA.seq (le:Le K G W G0 W0) (w:Wf K G H σ ρ T g) (e:af ma k ρ=some (r,ρ')) (he:∀ x,r=.error x->W x ρ') (h:∀ rs ρ1,k rs ρ1=some (r,ρ')->∀ vs H1 Ts g1,Wf K G H1 σ ρ1 (Ts++T) g1->Ars σ rs vs Ts->P vs H1):tA K G0 W0 ma σ H P:=by
 unfold af at e
 cases q:ma ρ with
 | none=>rw[q] at e;exact nsE e
 | some p =>
  obtain ⟨o,ρ1⟩:=p
  rw[q] at e
  cases o with
  | error x=>cases e;exact ⟨G,W,le,ρ,T,g,.error x,ρ',w,q,he x rfl⟩
  | ok ra=>exact ⟨G,W,le,ρ,T,g,.ok ra,ρ1,w,q,h ra ρ1 e⟩
def EndE (K:FG) (G:Gm) (W:D->Sto->Prop) (σ:St) (T:List It3) (ρ':Sto) (Q:VK):Except D R3->Prop
 | .ok r=>∀ v H',Got K G σ ρ' T r v H'->Q v H'
 | .error e=>W e ρ'
theorem EndE.err (h:EndE K G W σ T ρ' Q r):∀ x,r=.error x->W x ρ':=by
 intro x e;subst e;exact h
theorem tE.open (h:tE K G0 W0 m σ H Q):∃ G W,Le K G W G0 W0/\∃ ρ T g r ρ',Wf K G H σ ρ T g/\m ρ=some (r,ρ')/\EndE K G W σ T ρ' Q r:=by
 obtain ⟨G,W,le,ρ,T,g,r,ρ',w,e,q⟩:=h
 refine ⟨G,W,le,ρ,T,g,r,ρ',w,e,?_⟩
 cases r with
 | ok r=>exact q
 | error x=>exact q
theorem tE.use (h:tE K G0 W0 m σ H Q) {P:Prop} (k:∀ G W,Le K G W G0 W0->∀ ρ T g r ρ',Wf K G H σ ρ T g->m ρ=some (r,ρ')->EndE K G W σ T ρ' Q r->P):P:=by
 obtain ⟨G,W,le,ρ,T,g,r,ρ',w,e,q⟩:=h.open
 exact k G W le ρ T g r ρ' w e q
theorem tE.mk (le:Le K G W G0 W0) (w:Wf K G H σ ρ T g) (e:m ρ=some (r,ρ')) (h:EndE K G W σ T ρ' Q r):tE K G0 W0 m σ H Q:=by
 refine ⟨G,W,le,ρ,T,g,r,ρ',w,e,?_⟩
 cases r with
 | ok r=>exact h
 | error x=>exact h
def ac (i:Nat):EM:=λρ=>((ρ[i]?).join).map λ_=>(.ok (.pl i),ρ)
theorem CG {i:Nat} (h:tE K G0 W0 (ac i) σ H Q):uK i σ H Q:=by
 refine h.use λG W le ρ T g r ρ' w e q=>?_
 unfold ac at e
 cases h:(ρ[i]?).join with
 | none=>rw[h] at e;exact nsE e
 | some p =>
  rw[h] at e
  cases e
  obtain ⟨y,_,_,_,a⟩:=w.slot (d:=p.1) (f:=p.2) h
  exact ⟨y.v,a,q y.v H ⟨[],g,w,.pl a⟩⟩
def mC (d:D):EM:=aQ (.val d .z)
theorem Wf.const (w:Wf K G H σ ρ T g) (r:Rep K H d v []):Got K G σ ρ T (.val d .z) v H :=
 Wf.done (Us:=[]) (ys:=[]) (x:=⟨d,v,[],.z⟩) w (λ_ h=>(by cases h)) ⟨Same.refl _,r,λ_ h=>(by cases h),λh=>absurd rfl h⟩
theorem fR (r:∀ H,Rep K H d v []) (h:tE K G0 W0 (mC d) σ H Q):tC v σ H Q:=by
 refine h.use λG W le ρ T g o ρ' w e q=>?_
 cases e
 exact q v H (w.const (r H))
def ai (f:D->D->Option (D×Fl)) (ma mb:EM):EM:=af ma λra=>af mb λrb=>af (der ra) λda=>af (der rb) λdb=>aT ((f da db).map λp=>R3.val p.1 p.2)
def OpD (K:FG) (r:R2) (f:D->D->Option (D×Fl)):Prop:=∀ (a b:It3) (H:Hp) (Q:VK) (p:D×Fl),Arg K H a->Arg K H b->f a.d b.d=some p ->
 (∀ w H',New K H H' (dq [a,b]) w->w.d=p.1->w.f=p.2->Q w.v H')->r a.v b.v H Q
theorem nD (w:Wf K G H σ ρ (Us++T) g) (c:∀ y∈ys,Itm (Us++T) g y) (q:EndE K G W σ T ρ Q (.ok (.val d f))) :
  ∀ a H',New K H H' (dq ys) a->a.d=d->a.f=f->Q a.v H':=by
 intro a H' n e1 b
 subst e1 b
 exact q a.v H' (w.done c n)
theorem nP (A:OpD K r f) (h:tE K G0 W0 (ai f ma mb) σ H Q):tOp r (tE K G0 W0 ma) (tE K G0 W0 mb) σ H Q:=by
 refine h.use λG W le ρ T g o ρ' w e q=>?_
 refine tE.seq le w e q.err λra ρ1 e1 D H1 ⟨Ts,g1,B,a1⟩=>?_
 refine tE.seq le B e1 q.err λrb ρ2 C E H2 ⟨Us,g2,a,a2⟩=>?_
 obtain ⟨da,d1,z⟩:=aM C
 obtain ⟨db,v,u⟩:=aM z
 obtain ⟨p,b,rfl,rfl⟩:=bF u
 obtain ⟨m,i,f1,f2⟩:=a1.item a (λx l=>E4 _ (E3 _ l)) d1
 obtain ⟨n,j,t,f4⟩:=a2.item a (λx l=>E3 _ l) v
 subst f1 f2 t f4
 cases c:f m.d n.d with
 | none=>rw[c] at b;exact nsE b
 | some s =>
  rw[c] at b
  cases b
  rw[<- List.append_assoc] at a i j
  refine A m n H2 Q s (a.itm i).arg (a.itm j).arg c (nD a (λy k=>?_) q)
  rcases E5.mp k with h | k
  ·rw[h];exact i
  ·rw[Fz.mp k];exact j
def mUn (f:D->Option (D×Fl)) (ma:EM):EM:=af ma λra=>af (der ra) λda=>aT ((f da).map λp=>R3.val p.1 p.2)
def UnD (K:FG) (r:V->Hp->VK->Prop) (f:D->Option (D×Fl)):Prop:=∀ (a:It3) (H:Hp) (Q:VK) (p:D×Fl),Arg K H a->f a.d=some p ->
 (∀ w H',New K H H' (dq [a]) w->w.d=p.1->w.f=p.2->Q w.v H')->r a.v H Q
theorem sN (l:UnD K r f) (h:tE K G0 W0 (mUn f ma) σ H Q):tUn r (tE K G0 W0 ma) σ H Q:=by
 refine h.use λG W le ρ T g o ρ' w e q=>?_
 refine tE.seq le w e q.err λra ρ1 e1 t H1 ⟨Ts,g1,c,a1⟩=>?_
 obtain ⟨da,d1,k⟩:=aM e1
 obtain ⟨p,a,rfl,rfl⟩:=bF k
 obtain ⟨j,i,f1,f2⟩:=a1.item c (λx n=>E3 _ n) d1
 subst f1 f2
 cases b:f j.d with
 | none=>rw[b] at a;exact nsE a
 | some s =>
  rw[b] at a
  cases a
  exact l j H1 Q s (c.itm i).arg b (nD c (λy m=>by rw[Fz.mp m];exact i) q)
def ag:M3 (List R3):=aQ []
def aa (m:EM) (ms:M3 (List R3)):M3 (List R3):=af m λr=>af ms λrs=>aQ (r::rs)
def EndA (K:FG) (G:Gm) (W:D->Sto->Prop) (σ:St) (T:List It3) (ρ':Sto) (Q:List V->Hp->Prop):Except D (List R3)->Prop
 | .ok rs=>∀ vs H' Ts g',Wf K G H' σ ρ' (Ts++T) g'->Ars σ rs vs Ts->Q vs H'
 | .error e=>W e ρ'
theorem EndA.err (h:EndA K G W σ T ρ' Q r):∀ x,r=.error x->W x ρ':=by
 intro x e;subst e;exact h
theorem tA.open (h:tA K G0 W0 m σ H Q):∃ G W,Le K G W G0 W0/\∃ ρ T g r ρ',Wf K G H σ ρ T g/\m ρ=some (r,ρ')/\EndA K G W σ T ρ' Q r:=by
 obtain ⟨G,W,le,ρ,T,g,r,ρ',w,e,q⟩:=h
 refine ⟨G,W,le,ρ,T,g,r,ρ',w,e,?_⟩
 cases r with
 | ok r=>exact q
 | error x=>exact q
theorem tA.use (h:tA K G0 W0 m σ H Q) {P:Prop} (k:∀ G W,Le K G W G0 W0->∀ ρ T g r ρ',Wf K G H σ ρ T g->m ρ=some (r,ρ')->EndA K G W σ T ρ' Q r->P):P:=by
 obtain ⟨G,W,le,ρ,T,g,r,ρ',w,e,q⟩:=h.open
 exact k G W le ρ T g r ρ' w e q
theorem CM (h:tA K G0 W0 ag σ H Q):tNil σ H Q:=by
 refine h.use λG W le ρ T g r ρ' w e q=>?_
 cases e
 exact q [] H [] g w .nil
theorem z7 (h:tA K G0 W0 (aa m ms) σ H Q):BQ (tE K G0 W0 m) (tA K G0 W0 ms) σ H Q:=by
 refine h.use λG W le ρ T g r ρ' w e q=>?_
 refine tE.seq le w e q.err λra ρ1 e1 d H1 ⟨Ts,g1,a,a1⟩=>?_
 refine tA.seq le a e1 q.err λrs ρ2 c vs H2 Us g2 b a2=>?_
 cases c
 refine q (d::vs) H2 (Us++Ts) g2 ?_ (.cons a1 a2)
 rw[List.append_assoc]
 exact b
def cG:List R3->M3 (List D)
 | []=>aQ []
 | r::rs=>af (der r) λd=>af (cG rs) λds=>aQ (d::ds)
theorem uk:∀ {rs:List R3} {ρ ρ':Sto} {o:Except D (List D)},cG rs ρ=some (o,ρ')->∃ ds,o=.ok ds/\ρ'=ρ
 | [],ρ,ρ',o,e=>by cases e;exact ⟨[],rfl,rfl⟩
 | r::rs,ρ,ρ',o,e=>by
  obtain ⟨d,e1,a⟩:=aM (k:=λd=>af (cG rs) λds=>aQ (d::ds)) e
  unfold af at a
  cases q:cG rs ρ with
  | none=>rw[q] at a;exact nsE a
  | some p =>
   obtain ⟨o',ρ1⟩:=p
   obtain ⟨ds,rfl,rfl⟩:=uk q
   rw[q] at a
   cases a
   exact ⟨d::ds,rfl,rfl⟩
theorem bD (e:af (cG rs) k ρ=some (o,ρ')):∃ ds,cG rs ρ=some (.ok ds,ρ)/\k ds ρ=some (o,ρ'):=by
 unfold af at e
 cases q:cG rs ρ with
 | none=>rw[q] at e;exact nsE e
 | some p =>
  obtain ⟨o',ρ1⟩:=p
  obtain ⟨ds,rfl,rfl⟩:=uk q
  rw[q] at e
  exact ⟨ds,rfl,e⟩
theorem Ars.items:∀ {rs:List R3} {vs:List V} {Ts:List It3} {ds:List D} ,Wf K G H σ ρ T g->Ars σ rs vs Ts->(∀ x∈Ts,x∈T)->cG rs ρ=some (.ok ds,ρ)->∃ ys:List It3,(∀ y∈ys,Itm T g y)/\ys.map (·.d)=ds/\ys.map (·.v)=vs
 | [],_,_,ds,w,.nil,_,e=>by cases e;exact ⟨[],λ_ h=>(by cases h),rfl,rfl⟩
 | r::rs,_,_,ds,w,.cons a as,hs,e=>by
  obtain ⟨d,e1,m⟩:=aM (k:=λd=>af (cG rs) λds=>aQ (d::ds)) e
  obtain ⟨n,f,j⟩:=bD m
  cases j
  obtain ⟨y,l,f1,f2⟩:=a.item w (λx b=>hs x (E4 _ b)) e1
  obtain ⟨ys,c,i,f4⟩:=Ars.items w as (λx b=>hs x (E3 _ b)) f
  refine ⟨y::ys,λz hz=>?_,by simp[f1,i],by simp[f2,f4]⟩
  rcases E5.mp hz with h | hz
  ·rw[h];exact l
  ·exact c z hz
def am (f:List D->Option (D×Fl)) (ms:M3 (List R3)):EM:=af ms λrs=>af (cG rs) λds=>aT ((f ds).map λp=>R3.val p.1 p.2)
def cH (K:FG) (r:List V->Hp->VK->Prop) (f:List D->Option (D×Fl)):Prop:=∀ (ys:List It3) (H:Hp) (Q:VK) (p:D×Fl),(∀ y∈ys,Arg K H y)->f (ys.map (·.d))=some p ->
 (∀ w H',New K H H' (dq ys) w->w.d=p.1->w.f=p.2->Q w.v H')->r (ys.map (·.v)) H Q
theorem kW (j:cH K r f) (h:tE K G0 W0 (am f ms) σ H Q):tCB r (tA K G0 W0 ms) σ H Q:=by
 refine h.use λG W le ρ T g o ρ' w e q=>?_
 refine tA.seq le w e q.err λrs ρ1 e1 vs H1 Ts g1 c a1=>?_
 obtain ⟨ds,d1,m⟩:=bD e1
 obtain ⟨p,a,rfl,rfl⟩:=bF m
 obtain ⟨ys,i,f1,f2⟩:=a1.items c (λx l=>E3 _ l) d1
 subst f1 f2
 cases b:f (ys.map (·.d)) with
 | none=>rw[b] at a;exact nsE a
 | some s =>
  rw[b] at a
  cases a
  exact j ys H1 Q s (λy k=>(c.itm (i y k)).arg) b (nD c i q)
def asB:D->Option Bool
 | .bl b=>some b
 | _=>none
def dU (ma mb:EM):EM:=af ma λra=>af (der ra) λd=>af (aT (asB d)) λb=>if b then mb else aQ (.val (.bl false) .z)
def mOr (ma mb:EM):EM:=af ma λra=>af (der ra) λd=>af (aT (asB d)) λb=>if b then aQ (.val (.bl true) .z) else mb
def qj (ma:EM):EM:=af ma λra=>af (der ra) λd=>af (aT (asB d)) λb=>aQ (.val (.bl (!b)) .z)
theorem jJ (e:af (aT o) k ρ=some (r,ρ')):∃ a,o=some a/\k a ρ=some (r,ρ'):=by
 unfold af aT at e
 cases o with
 | none=>exact nsE e
 | some a=>exact ⟨a,rfl,e⟩
theorem zA (e:asB d=some b):d=.bl b:=by
 cases d <;> first | exact nsE e | cases e
 rfl
theorem Rep.bl_eq (r:Rep K H (.bl b) v L):v=.bl b/\L=[]:=by cases r;exact ⟨rfl,rfl⟩
theorem Ar.bool (w:Wf K G H σ ρ (Ts++T) g) (a:Ar σ ra v Ts) (e:der ra ρ=some (.ok d,ρ)) (c:asB d=some b):v=.bl b:=by
 obtain ⟨y,h,f1,f2⟩:=a.item w (λx f=>E3 _ f) e
 have r:=(w.itm h).rep
 rw[f1,zA c] at r
 rw[<- f2]
 exact r.bl_eq.1
theorem CL (h:tE K G0 W0 (dU ma mb) σ H Q):BS (tE K G0 W0 ma) (tE K G0 W0 mb) σ H Q:=by
 refine h.use λG W le ρ T g o ρ' w e q=>?_
 refine tE.seq le w e q.err λra ρ1 e1 k H1 ⟨Ts,g1,c,a1⟩=>?_
 obtain ⟨d,d1,j⟩:=aM e1
 obtain ⟨b,i,a⟩:=jJ j
 refine ⟨b,a1.bool c d1 i,?_⟩
 have f:=c.sub (Fd Ts T)
 cases b with
 | true=>exact tE.mk le f a q
 | false=>cases a;exact q _ _ (f.const (.bl false))
theorem CI (h:tE K G0 W0 (qj ma) σ H Q):BN (tE K G0 W0 ma) σ H Q:=by
 refine h.use λG W le ρ T g o ρ' w e q=>?_
 refine tE.seq le w e q.err λra ρ1 e1 k H1 ⟨Ts,g1,a,a1⟩=>?_
 obtain ⟨d,d1,j⟩:=aM e1
 obtain ⟨b,i,c⟩:=jJ j
 refine ⟨b,a1.bool a d1 i,?_⟩
 have f:=a.sub (Fd Ts T)
 cases c;exact q _ _ (f.const (.bl (!b)))
def EndT (K:FG) (G:Gm) (W:D->Sto->Prop) (σ:St) (T:List It3) (ρ':Sto) (Q:Bool->Hp->Prop):Except D Bool->Prop
 | .ok b=>∀ H' g',Wf K G H' σ ρ' T g'->Q b H'
 | .error e=>W e ρ'
theorem EndT.err (h:EndT K G W σ T ρ' Q r):∀ x,r=.error x->W x ρ':=by
 intro x e;subst e;exact h
theorem tT.open (h:tT K G0 W0 m σ H Q):∃ G W,Le K G W G0 W0/\∃ ρ T g r ρ',Wf K G H σ ρ T g/\m ρ=some (r,ρ')/\EndT K G W σ T ρ' Q r:=by
 obtain ⟨G,W,le,ρ,T,g,r,ρ',w,e,q⟩:=h
 refine ⟨G,W,le,ρ,T,g,r,ρ',w,e,?_⟩
 cases r with
 | ok r=>exact q
 | error x=>exact q
theorem tT.use (h:tT K G0 W0 m σ H Q) {P:Prop} (k:∀ G W,Le K G W G0 W0->∀ ρ T g r ρ',Wf K G H σ ρ T g->m ρ=some (r,ρ')->EndT K G W σ T ρ' Q r->P):P:=by
 obtain ⟨G,W,le,ρ,T,g,r,ρ',w,e,q⟩:=h.open
 exact k G W le ρ T g r ρ' w e q
theorem tT.mk (le:Le K G W G0 W0) (w:Wf K G H σ ρ T g) (e:m ρ=some (r,ρ')) (h:EndT K G W σ T ρ' Q r):tT K G0 W0 m σ H Q:=by
 refine ⟨G,W,le,ρ,T,g,r,ρ',w,e,?_⟩
 cases r with
 | ok r=>exact h
 | error x=>exact h
def cB (m:EM):M3 Bool:=af m λr=>af (der r) λd=>aT (asB d)
theorem tT_b (h:tT K G0 W0 (cB m) σ H Q):tB (tE K G0 W0 m) σ H Q:=by
 refine h.use λG W le ρ T g o ρ' w e q=>?_
 refine tE.seq le w e q.err λra ρ1 e1 i H1 ⟨Ts,g1,a,a1⟩=>?_
 obtain ⟨d,d1,f⟩:=aM e1
 obtain ⟨b,c,rfl,rfl⟩:=bF f
 exact ⟨b,a1.bool a d1 c,q _ _ (a.sub (Fd Ts T))⟩
def BF (a b:M3 Bool):M3 Bool:=af a λc=>if c then b else aQ false
def cOr (a b:M3 Bool):M3 Bool:=af a λc=>if c then aQ true else b
def cC (a:M3 Bool):M3 Bool:=af a λc=>aQ (!c)
theorem tT_or (h:tT K G0 W0 (cOr a b) σ H Q):tOr (tT K G0 W0 a) (tT K G0 W0 b) σ H Q:=by
 refine h.use λG W le ρ T g o ρ' w e q=>?_
 refine tT.seq le w e q.err λc ρ1 e1 H1 g1 d=>?_
 cases c with
 | false=>exact tT.mk le d e1 q
 | true=>cases e1;exact q _ _ d
theorem Ct (h:tT K G0 W0 (cC a) σ H Q):tNot (tT K G0 W0 a) σ H Q:=by
 refine h.use λG W le ρ T g o ρ' w e q=>?_
 refine tT.seq le w e q.err λc ρ1 e1 H1 g1 b=>?_
 cases e1;exact q _ _ b
def mIf (c:M3 Bool) (ma mb:EM):EM:=af c λb=>if b then ma else mb
end
end L3
end
section
namespace L3
open PySem L2
def cP (x:It3):It3:={ x with f:=.z }
theorem cz:NoRoot (cP x) y:=λh=>absurd rfl h
def lowAt (i:Nat) (ρ:Sto):Sto:=match (ρ[i]?).join with
 | some (d,.u)=>ρ.set i (some (d,.z))
 | some (d,.l)=>ρ.set i (some (d,.z))
 | _=>ρ
noncomputable def frz (is:List Nat) (ρ:Sto):Sto:=is.foldl (λρ i=>lowAt i ρ) ρ
def vH (is:List Nat):M3 Unit:=λρ=>some (.ok (),frz is ρ)
def pls:List R3->List Nat
 | []=>[]
 | .pl i::rs=>i::pls rs
 | .val _ _::rs=>pls rs
section
variable {K:FG} {G G0:Gm} {W W0:D->Sto->Prop} {H H':Hp} {σ:St} {ρ ρ':Sto} {T T':List It3} {g:Nat->Option It3} {x y z:It3} {α β:Type}
theorem ItOk.low (h:ItOk K G H x):ItOk K G H (cP x):=⟨h.rep,λq=>absurd rfl q,h.src⟩
theorem cA {i j:Nat} (hi:i < ρ.length):((ρ.set i o)[j]?).join=if j=i then o else (ρ[j]?).join:=by grind
theorem fu {i:Nat} (h:(ρ[i]?).join=some p):i < ρ.length:=by grind
theorem Wf.lowSlot (w:Wf K G H σ ρ T g) {i:Nat} (e:(ρ[i]?).join=some (d,f)):Wf K G H σ (ρ.set i (some (d,.z))) T (λj=>if j=i then (g i).map cP else g j):=by
 have hi:=fu e
 obtain ⟨y,t,v,B,ev⟩:=w.slot e
 have val:∀ j x,(if j=i then (g i).map cP else g j)=some x->∃ x0,g j=some x0/\(x=x0\/x=cP x0)/\(j=i->x=cP x0):=λj x h=>by
  grind
 have s:∀ {a b:It3},NoRoot a b->∀ p l,(p=a\/p=cP a)->(l=b\/l=cP b)->NoRoot p l:=λh p l h1 h2=>by
  rcases h1 with rfl | rfl
  ·rcases h2 with rfl | rfl
   ·exact h
   ·exact h
  ·exact cz
 refine ⟨by rw[List.length_set];exact w.len,λj=>?_,λj x h=>?_,λj x h=>?_,w.okT,λj k a b n h1 h2=>?_,λj a h b m=>?_,w.tt,w.base,w.pro,⟨w.fx.frT,λj x h A hf a u=>?_,w.fx.bin,w.fx.ob,λj x h hl=>?_⟩⟩
 ·rw[cA hi]
  by_cases q:j=i
  ·subst q
   rw[if_pos rfl,if_pos rfl,t]
   show some ((cP y).d,Fl.z)=_
   rw[<- v];rfl
  ·rw[if_neg q,if_neg q];exact w.sl j
 ·obtain ⟨x0,h0,c,_⟩:=val j x h
  have:=w.sv j x0 h0
  rcases c with rfl | rfl <;> exact this
 ·obtain ⟨x0,h0,c,_⟩:=val j x h
  rcases c with rfl | rfl
  ·exact w.okS j x h0
  ·exact (w.okS j x0 h0).low
 ·obtain ⟨a0,h0,o,_⟩:=val j a h1
  obtain ⟨b0,r,m,_⟩:=val k b h2
  exact s (w.ss j k a0 b0 n h0 r) a b o m
 ·obtain ⟨a0,h0,o,_⟩:=val j a h
  exact ⟨s (w.st j a0 h0 b m).1 a b o (.inl rfl),s (w.st j a0 h0 b m).2 b a (.inl rfl) o⟩
 ·obtain ⟨x0,h0,c,_⟩:=val j x h
  rcases c with rfl | rfl
  ·exact w.fx.frS j x h0 A hf a u
  ·exact absurd rfl hf
 ·obtain ⟨x0,h0,c,_⟩:=val j x h
  rcases c with rfl | rfl
  ·exact w.fx.lvS j x h0 hl
  ·cases hl
def Kin (x y:It3):Prop:=y.d=x.d/\y.v=x.v/\y.L=x.L/\(y.f=x.f\/y.f=.z)
theorem Kin.refl (x:It3):Kin x x:=⟨rfl,rfl,rfl,.inl rfl⟩
theorem Kin.trans (a:Kin x y) (b:Kin y z):Kin x z:=⟨b.1.trans a.1,b.2.1.trans a.2.1,b.2.2.1.trans a.2.2.1,by
 rcases b.2.2.2 with h | h
 ·rcases a.2.2.2 with h' | h'
  ·exact .inl (h.trans h')
  ·exact .inr (h.trans h')
 ·exact .inr h⟩
theorem Wf.lowAt {i:Nat} (w:Wf K G H σ ρ T g):∃ g',Wf K G H σ (lowAt i ρ) T g'/\(∀ j y,g j=some y->∃ a,g' j=some a/\Kin y a/\(j=i->a.f=.z)):=by
 have keep:∀ d,(ρ[i]?).join=some (d,.z)->∃ g',Wf K G H σ ρ T g'/\(∀ j y,g j=some y->∃ a,g' j=some a/\Kin y a/\(j=i->a.f=.z)):=λd e=>⟨g,w,λj y h=>⟨y,h,Kin.refl y,λq=>by
  subst q
  obtain ⟨a,h',_,hf,_⟩:=w.slot e
  rw[h] at h';cases h';exact hf⟩⟩
 have low:∀ d f,(ρ[i]?).join=some (d,f)->∃ g',Wf K G H σ (ρ.set i (some (d,.z))) T g'/\(∀ j y,g j=some y->∃ a,g' j=some a/\Kin y a/\(j=i->a.f=.z)):=λd f e=>⟨_,w.lowSlot e,λj y h=>by
  by_cases q:j=i
  ·subst q;exact ⟨cP y,by rw[if_pos rfl,h];rfl,⟨rfl,rfl,rfl,.inr rfl⟩,λ_=>rfl⟩
  ·exact ⟨y,by rw[if_neg q];exact h,Kin.refl y,λz=>absurd z q⟩⟩
 unfold L3.lowAt
 cases e:(ρ[i]?).join with
 | none =>
  refine ⟨g,w,λj y h=>⟨y,h,Kin.refl y,λq=>?_⟩⟩
  subst q
  have:=w.sl j
  rw[h,e] at this;cases this
 | some p =>
  obtain ⟨d,f⟩:=p
  cases f with
  | u=>exact low d _ e
  | l=>exact low d _ e
  | z=>exact keep d e
theorem Wf.frz:∀ {is:List Nat} {ρ:Sto} {g:Nat->Option It3},Wf K G H σ ρ T g->∃ g',Wf K G H σ (frz is ρ) T g'/\(∀ j y,g j=some y->∃ a,g' j=some a/\Kin y a/\(j∈is->a.f=.z))
 | [],ρ,g,w=>⟨g,w,λj y h=>⟨y,h,Kin.refl y,λq=>by cases q⟩⟩
 | i::is,ρ,g,w=>by
  obtain ⟨g1,k,h1⟩:=w.lowAt (i:=i)
  obtain ⟨g2,l,h2⟩:=Wf.frz (is:=is) k
  refine ⟨g2,l,λj y h=>?_⟩
  obtain ⟨c,e1,k1,d⟩:=h1 j y h
  obtain ⟨b,m,k2,e⟩:=h2 j c e1
  refine ⟨b,m,k1.trans k2,λhm=>?_⟩
  rcases E5.mp hm with q | q
  ·rcases k2.2.2.2 with h | h
   ·exact h.trans (d q)
   ·exact h
  ·exact e q
theorem Wf.lowT (w:Wf K G H σ ρ (Ts++T) g):Wf K G H σ ρ (Ts.map cP++T) g:=by
 have sp:∀ {a b:It3},Apart3 a b->Apart3 (cP a) (cP b):=λh=>⟨cz,cz⟩
 refine ⟨w.len,w.sl,w.sv,w.okS,λx c=>?_,w.ss,λi x e y d=>?_,?_,w.base,w.pro,⟨λx c hf a f=>?_,w.fx.frS,w.fx.bin,w.fx.ob,w.fx.lvS⟩⟩
 ·rcases E8.mp c with h | h
  ·obtain ⟨x0,h0,rfl⟩:=Fe.mp h
   exact (w.okT x0 (E3 _ h0)).low
  ·exact w.okT x (E4 _ h)
 ·rcases E8.mp d with h | h
  ·obtain ⟨y0,h0,rfl⟩:=Fe.mp h
   exact ⟨(w.st i x e y0 (E3 _ h0)).1,cz⟩
  ·exact w.st i x e y (E4 _ h)
 ·have h:=List.pairwise_append.mp w.tt
  refine List.pairwise_append.mpr ⟨?_,h.2.1,λa k b j=>?_⟩
  ·grind
  ·obtain ⟨a0,h0,rfl⟩:=Fe.mp k
   exact ⟨cz,(h.2.2 a0 h0 b j).2⟩
 ·rcases E8.mp c with h | h
  ·obtain ⟨x0,h0,rfl⟩:=Fe.mp h
   exact absurd rfl hf
  ·exact w.fx.frT x (E4 _ h) hf a f
theorem kG:∀ {rs:List R3} {i:Nat},R3.pl i∈rs->i∈pls rs
 | [],_,h=>by cases h
 | .pl j::rs,i,h=>by
  rcases E5.mp h with e | h
  ·cases e;exact EW
  ·exact EY _ (kG h)
 | .val _ _::rs,i,h=>by
  rcases E5.mp h with e | h
  ·cases e
  ·exact kG (rs:=rs) h
theorem Ars.given:∀ {rs:List R3} {vs:List V} {Ts:List It3} {ds:List D} {S:List It3} {g':Nat->Option It3} {is:List Nat},Wf K G H σ ρ T g->(∀ j y,g j=some y->∃ b,g' j=some b/\Kin y b/\(j∈is->b.f=.z))->(∀ i,R3.pl i∈rs->i∈is) ->
  Ars σ rs vs Ts->(∀ x∈Ts,x∈T)->(∀ x∈Ts,cP x∈S)->cG rs ρ=some (.ok ds,ρ)->∃ ys:List It3,(∀ y∈ys,Itm S g' y/\y.f=.z)/\ys.map (·.d)=ds/\ys.map (·.v)=vs
 | [],_,_,ds,S,g',is,w,hg,hi,.nil,_,_,e=>by cases e;exact ⟨[],λ_ h=>(by cases h),rfl,rfl⟩
 | r::rs,_,_,ds,S,g',is,w,hg,hi,.cons (v:=v0) a as,hs,hS,e=>by
  obtain ⟨d,e1,E⟩:=aM (k:=λd=>af (cG rs) λds=>aQ (d::ds)) e
  obtain ⟨F,A,o⟩:=bD E
  cases o
  obtain ⟨ys,t,m,f4⟩:=Ars.given w hg (λi h=>hi i (EY _ h)) as (λx c=>hs x (E3 _ c)) (λx c=>hS x (E3 _ c)) A
  have one:∃ y,(Itm S g' y/\y.f=.z)/\y.d=d/\y.v=v0:=by
   cases a with
   | @pl i v h =>
    have B:der (.pl i) ρ=((ρ[i]?).join).map λp=>(.ok p.1,ρ):=rfl
    rw[B] at e1
    cases q:(ρ[i]?).join with
    | none=>rw[q] at e1;exact nsE e1
    | some p =>
     rw[q] at e1
     obtain ⟨y,C,n,I,l⟩:=w.slot (d:=p.1) (f:=p.2) q
     obtain ⟨b,h1,h2,h3⟩:=hg i y C
     have u:p.1=d:=by cases e1;rfl
     rw[h] at l
     refine ⟨b,⟨.inl ⟨i,h1⟩,h3 (hi i EW)⟩,h2.1.trans (n.trans u),?_⟩
     rw[h2.2.1];cases l;rfl
   | val x=>cases e1;exact ⟨cP x,⟨.inr (hS x (by simp)),rfl⟩,rfl,rfl⟩
  obtain ⟨y,s,f1,f2⟩:=one
  refine ⟨y::ys,λz hz=>?_,by simp[f1,m],by simp[f2,f4]⟩
  rcases E5.mp hz with h | hz
  ·rw[h];exact s
  ·exact t z hz
def cI (ys:List It3) (c:Addr):Prop:=∃ y∈ys,c∈y.L
def gives (rs:List R3):M3 (List D):=af (cG rs) λds=>af (vH (pls rs)) λ_=>aQ ds
theorem Ars.gives (w:Wf K G H σ ρ (Ts++T) g) (a:Ars σ rs vs Ts) (e:af (gives rs) k ρ=some (r,ρ')) :
  ∃ ds ρ1 g1,k ds ρ1=some (r,ρ')/\ρ1=frz (pls rs) ρ/\Wf K G H σ ρ1 (Ts.map cP++T) g1/\(∀ j y,g j=some y->∃ c,g1 j=some c/\Kin y c)/\∃ ys:List It3,(∀ y∈ys,Itm (Ts.map cP++T) g1 y/\y.f=.z)/\ys.map (·.d)=ds/\ys.map (·.v)=vs:=by
 unfold L3.gives at e
 have m:af (cG rs) (λds=>af (vH (pls rs)) λ_=>k ds) ρ=some (r,ρ'):=by
  rw[<- e]
  unfold af
  cases q:cG rs ρ with
  | none=>rfl
  | some p =>
   obtain ⟨o,ρ2⟩:=p
   cases o with
   | error x=>rfl
   | ok ds=>rfl
 obtain ⟨ds,d1,e1⟩:=bD m
 obtain ⟨g1,n,h1⟩:=Wf.frz (is:=pls rs) w
 refine ⟨ds,L3.frz (pls rs) ρ,g1,e1,rfl,n.lowT,λj y h=>let ⟨c,a,b,_⟩:=h1 j y h;⟨c,a,b⟩,?_⟩
 exact Ars.given w h1 (λi h=>kG h) a (λx l=>E3 _ l) (λx l=>E3 _ (Fe.mpr ⟨x,l,rfl⟩)) d1
theorem Wf.alls (w:Wf K G H σ ρ T g) (a:∀ y∈ys,Itm T g y/\y.f=.z) (h:cI ys c):dD T g c/\(G.H0 c=none\/G.src c):=by
 obtain ⟨y,m,b⟩:=h
 exact ⟨w.kid (a y m).1 b λhf=>absurd (a y m).2 hf,(w.itm (a y m).1).src c b⟩
theorem Wf.doneA (w:Wf K G H σ ρ (Us++T) g) (a:∀ y∈ys,Itm (Us++T) g y/\y.f=.z) (n:New K H H' (cI ys) x):Got K G σ ρ T (.val x.d x.f) x.v H' :=
 ⟨[x],g,(w.push n λc h=>w.alls a h).sub (by simpa using List.Sublist.cons_cons x (Fd Us T)),.val x⟩
theorem kC:∀ {ys:List It3},(∀ y∈ys,Rep K H y.d y.v y.L)->Reps (Rep K H) (ys.map (·.d)) (ys.map (·.v)) (ys.map (·.L)).flatten
 | [],_=>.nil
 | y::ys,h=>.cons (h y EW) (kC λz hz=>h z (EY _ hz))
theorem eI (h:c∈(ys.map (·.L)).flatten):cI ys c:=by
 obtain ⟨l,hl,b⟩:=List.mem_flatten.mp h
 obtain ⟨y,a,rfl⟩:=Fe.mp hl
 exact ⟨y,a,b⟩
noncomputable def qi (mk:List D->D) (f:Fl) (ms:M3 (List R3)):EM:=af ms λrs=>af (gives rs) λds=>aT (if ds.length<=16777216 then some (.val (mk ds) f) else none)
abbrev bQ:M3 (List R3)->EM:=qi .tup .z
abbrev bT:M3 (List R3)->EM:=qi .lst .u
theorem bc (h:H p=none):Same H (upd H p o):=λb u e=>by
 rw[ak (aO e h)];exact e
set_option tactic.hygienic true in
theorem CH (hz:(16777216:Nat)=sizeLine) (h:tE K G0 W0 (bQ ms) σ H Q):tTup (tA K G0 W0 ms) σ H Q:=by
 refine h.use λG W le ρ T g o ρ' w e q=>?_
 refine tA.seq le w e q.err λrs ρ1 e1 vs H1 Ts g1 l a1=>?_
 obtain ⟨ds,ρ2,g2,m,_,f,_,ys,i,f1,f2⟩:=a1.gives l e1
 obtain ⟨v,b,rfl,rfl⟩:=bF m
 subst f1 f2
 split at b
 ·rename_i hl
  cases b
  refine ⟨by rw[Fa] at hl ⊢;lia,λp j=>?_⟩
  refine q _ _ (Wf.doneA (x:=⟨.tup (ys.map (·.d)),.ref p,(ys.map (·.L)).flatten,.z⟩) f i ⟨bc j,.tup aA ((kC λy a=>(f.itm (i y a).1).rep).same (bc j)),λc k=>.inr (eI k),λhf=>absurd rfl hf⟩)
 ·exact nsE b
set_option tactic.hygienic true in
theorem CK (hz:(16777216:Nat)=sizeLine) (h:tE K G0 W0 (bT ms) σ H Q):tLst (tA K G0 W0 ms) σ H Q:=by
 refine h.use λG W le ρ T g o ρ' w e q=>?_
 refine tA.seq le w e q.err λrs ρ1 e1 vs H1 Ts g1 m a1=>?_
 obtain ⟨ds,ρ2,g2,n,_,i,_,ys,k,f1,f2⟩:=a1.gives m e1
 obtain ⟨v,j,rfl,rfl⟩:=bF n
 subst f1 f2
 split at j
 ·rename_i hl
  cases j
  refine ⟨by rw[Fa] at hl ⊢;lia,λp b=>?_⟩
  have np:p ∉ (ys.map (·.L)).flatten:=λa=>by
   obtain ⟨y,hm,a⟩:=eI a
   obtain ⟨o,l⟩:=((i.itm (k y hm).1).rep.inH p a).ex
   rw[b] at l;exact nsE l
  refine q _ _ (Wf.doneA (x:=⟨.lst (ys.map (·.d)),.ref p,p::(ys.map (·.L)).flatten,.u⟩) i k ⟨bc b,.lst aA ((kC λy f=>(i.itm (k y f).1).rep).same (bc b)),λc a=>?_,λ_=>⟨rfl,p,_,rfl,rfl,np,b⟩⟩)
  rcases E5.mp a with e | a
  ·rw[e];exact .inl b
  ·exact .inr (eI a)
 ·exact nsE j
end
end L3
end
section
namespace L3
open PySem L2
section
variable {K:FG} {G G0:Gm} {W W0:D->Sto->Prop} {H H':Hp} {σ:St} {ρ ρ':Sto} {T T':List It3} {g:Nat->Option It3} {x y z:It3} {α β:Type}
def EndS (K:FG) (G:Gm) (W:D->Sto->Prop) (T:List It3) (ρ':Sto) (E:Ends):Except D Flw->Prop
 | .ok .nx=>∀ σ' H' g',Wf K G H' σ' ρ' T g'->E.nx σ' H'
 | .ok .br=>∀ σ' H' g',Wf K G H' σ' ρ' T g'->E.bk σ' H'
 | .ok .ct=>∀ σ' H' g',Wf K G H' σ' ρ' T g'->E.ct σ' H'
 | .ok (.rt d f)=>∀ x σ' H' g',Wf K G H' σ' ρ' (x::T) g'->x.d=d->x.f=f->E.rt x.v H'
 | .error e=>W e ρ'
theorem EndS.err (h:EndS K G W T ρ' E r):∀ x,r=.error x->W x ρ':=by
 intro x e;subst e;exact h
theorem tS.open (h:tS K G0 W0 m E σ H):∃ G W,Le K G W G0 W0/\∃ ρ T g r ρ',Wf K G H σ ρ T g/\m ρ=some (r,ρ')/\EndS K G W T ρ' E r:=by
 obtain ⟨G,W,le,ρ,T,g,r,ρ',w,e,q⟩:=h
 refine ⟨G,W,le,ρ,T,g,r,ρ',w,e,?_⟩
 cases r with
 | ok r=>cases r <;> exact q
 | error x=>exact q
theorem tS.use (h:tS K G0 W0 m E σ H) {P:Prop} (k:∀ G W,Le K G W G0 W0->∀ ρ T g r ρ',Wf K G H σ ρ T g->m ρ=some (r,ρ')->EndS K G W T ρ' E r->P):P:=by
 obtain ⟨G,W,le,ρ,T,g,r,ρ',w,e,q⟩:=h.open
 exact k G W le ρ T g r ρ' w e q
theorem tS.mk (le:Le K G W G0 W0) (w:Wf K G H σ ρ T g) (e:m ρ=some (r,ρ')) (h:EndS K G W T ρ' E r):tS K G0 W0 m E σ H:=by
 refine ⟨G,W,le,ρ,T,g,r,ρ',w,e,?_⟩
 cases r with
 | ok r=>cases r <;> exact h
 | error x=>exact h
def cE:SM:=aQ .nx
noncomputable def aE (a b:SM):SM:=af a λf=>match f with
 | .nx=>b
 | o=>aQ o
theorem CA (h:tS K G0 W0 cE E σ H):BO E σ H:=by
 refine h.use λG W le ρ T g r ρ' w e q=>?_
 cases e
 exact q _ _ _ w
theorem Cw (h:tS K G0 W0 (aE a b) E σ H):tSeq (tS K G0 W0 a) (tS K G0 W0 b) E σ H:=by
 refine h.use λG W le ρ T g r ρ' w e q=>?_
 unfold aE af at e
 cases p:a ρ with
 | none=>rw[p] at e;exact nsE e
 | some p' =>
  obtain ⟨o,ρ1⟩:=p'
  rw[p] at e
  cases o with
  | error x=>cases e;exact tS.mk le w p q
  | ok f =>
   cases f with
   | nx=>exact tS.mk le (r:=.ok .nx) w p λσ' H' g' c=>tS.mk le c e q
   | br=>cases e;exact tS.mk le w p q
   | ct=>cases e;exact tS.mk le w p q
   | rt d f=>cases e;exact tS.mk le w p q
def fF (m:EM):SM:=af m λ_=>aQ .nx
theorem zU (h:tS K G0 W0 (fF m) E σ H):BP (tE K G0 W0 m) E σ H:=by
 refine h.use λG W le ρ T g r ρ' w e q=>?_
 refine tE.seq le w e q.err λra ρ1 e1 v H1 ⟨Ts,g1,a,a1⟩=>?_
 cases e1
 exact q _ _ _ (a.sub (Fd Ts T))
def sIf (c:M3 Bool) (a b:SM):SM:=af c λt=>if t then a else b
theorem tS_if (h:tS K G0 W0 (sIf c a b) E σ H):tIfS (tT K G0 W0 c) (tS K G0 W0 a) (tS K G0 W0 b) E σ H:=by
 refine h.use λG W le ρ T g r ρ' w e q=>?_
 refine tT.seq le w e q.err λt ρ1 e1 H1 g1 d=>?_
 cases t with
 | true=>exact tS.mk le d e1 q
 | false=>exact tS.mk le d e1 q
def nol:Fl->Fl
 | .u=>.u
 | _=>.z
theorem DR (f:Fl):nol f≠.l:=by cases f <;> intro h <;> cases h
theorem DQ (f:Fl):nol f=f\/nol f=.z:=by cases f <;> first | exact .inl rfl | exact .inr rfl
noncomputable def cX (r:R3):M3 (D×Fl):=match r with
 | .val d f=>aQ (d,nol f)
 | .pl i=>λρ=>((ρ[i]?).join).map λp=>(.ok (p.1,.z),lowAt i ρ)
theorem pC {i:Nat}:cX (.pl i) ρ=((ρ[i]?).join).map λp=>(.ok (p.1,.z),lowAt i ρ):=rfl
theorem Ar.val_inv (a:Ar σ (.val d f) v Ts):∃ x,Ts=[x]/\x.d=d/\x.f=f/\x.v=v:=by
 generalize h:R3.val d f=r at a
 cases a with
 | pl _=>cases h
 | val x=>cases h;exact ⟨x,rfl,rfl,rfl,rfl⟩
theorem Ar.take (w:Wf K G H σ ρ (Ts++T) g) (a:Ar σ r v Ts) (e:af (cX r) k ρ=some (o,ρ')) :
  ∃ p ρ1 g1 x,k p ρ1=some (o,ρ')/\Wf K G H σ ρ1 (x::T) g1/\x.d=p.1/\(p.2=x.f\/p.2=.z)/\p.2≠.l/\x.v=v:=by
 cases a with
 | val x=>exact ⟨(x.d,nol x.f),ρ,g,x,e,w,rfl,DQ _,DR _,rfl⟩
 | @pl i v h =>
  unfold af at e
  rw[pC] at e
  cases q:(ρ[i]?).join with
  | none=>rw[q] at e;exact nsE e
  | some p =>
   rw[q] at e
   obtain ⟨y,E,D,J,B⟩:=w.slot (d:=p.1) (f:=p.2) q
   obtain ⟨g1,b,h1⟩:=w.lowAt (i:=i)
   obtain ⟨c,m,A,I⟩:=h1 i y E
   have hz:=I rfl
   refine ⟨(p.1,.z),_,g1,c,e,?_,A.1.trans D,.inr rfl,(by intro h;cases h),?_⟩
   ·have s:∀ u:It3,NoRoot c u:=λu hf=>absurd hz hf
    refine ⟨b.len,b.sl,b.sv,b.okS,λu hu=>?_,b.ss,λj u n C hu=>?_,?_,b.base,b.pro,⟨λu hu hf a F=>?_,b.fx.frS,b.fx.bin,b.fx.ob,b.fx.lvS⟩⟩
    ·rcases E5.mp hu with h | hu
     ·rw[h];exact b.okS i c m
     ·exact b.okT u hu
    ·rcases E5.mp hu with h | hu
     ·rw[h]
      refine ⟨?_,s _⟩
      by_cases t:j=i
      ·subst t
       rw[m] at n;cases n
       exact s _
      ·exact b.ss j i u c t n m
     ·exact b.st j u n C hu
    ·exact List.pairwise_cons.mpr ⟨λu hu=>⟨s _,(b.st i c m u hu).2⟩,b.tt⟩
    ·rcases E5.mp hu with h | hu
     ·rw[h] at hf;exact absurd hz hf
     ·exact b.fx.frT u hu hf a F
   ·rw[A.2.1]
    rw[h] at B;cases B;rfl
theorem Wf.store {i:Nat} (w:Wf K G H σ ρ (x::T) g) (hi:i < ρ.length) (I:G.pr i=false) (hf:f=x.f\/f=.z) (B:f≠.l) :
  Wf K G H (σ.set i (some x.v)) (ρ.set i (some (x.d,f))) T (λj=>if j=i then some { x with f:=f } else g j):=by
 have s:i < σ.length:=by rw[w.len];exact hi
 have r:=List.pairwise_cons.mp w.tt
 have ox:=w.okT x EW
 have nx:∀ u:It3,NoRoot x u->NoRoot { x with f:=f } u:=λu h q=>by
  rcases hf with e | e
  ·exact h (by rw[<- e];exact q)
  ·exact absurd e q
 have val:∀ j u,(if j=i then some { x with f:=f } else g j)=some u->(j=i/\u={ x with f:=f })\/(j≠i/\g j=some u):=λj u h=>by
  by_cases q:j=i
  ·rw[if_pos q] at h;cases h;exact .inl ⟨q,rfl⟩
  ·rw[if_neg q] at h;exact .inr ⟨q,h⟩
 refine ⟨by rw[List.length_set,List.length_set];exact w.len,λj=>?_,λj u h=>?_,λj u h=>?_,λu hu=>w.okT u (EY _ hu),λj k a b n h1 h2=>?_,λj a h b t=>?_,r.2,w.base,λj y=>?_,⟨λu hu=>w.fx.frT u (EY _ hu),λj u h A c a p=>?_,w.fx.bin,w.fx.ob,λj u h hl=>?_⟩⟩
 ·rw[cA hi]
  by_cases q:j=i
  ·rw[if_pos q,if_pos q];rfl
  ·rw[if_neg q,if_neg q];exact w.sl j
 ·rcases val j u h with ⟨rfl,rfl⟩ | ⟨n,h⟩
  ·rw[List.getElem?_set_self s]
  ·rw[List.getElem?_set_ne (λz=>n z.symm)];exact w.sv j u h
 ·rcases val j u h with ⟨rfl,rfl⟩ | ⟨n,h⟩
  ·refine ⟨ox.rep,λq=>?_,ox.src⟩
   rcases hf with e | e
   ·subst e
    exact ox.own q
   ·exact absurd e q
  ·exact w.okS j u h
 ·rcases val j a h1 with ⟨F,p⟩ | ⟨J,o⟩
  ·rcases val k b h2 with ⟨D,C⟩ | ⟨E,m⟩
   ·exact absurd (F.trans D.symm) n
   ·rw[p];exact nx b (w.st k b m x EW).2
  ·rcases val k b h2 with ⟨D,C⟩ | ⟨E,m⟩
   ·rw[C];exact (w.st j a o x EW).1
   ·exact w.ss j k a b n o m
 ·rcases val j a h with ⟨rfl,rfl⟩ | ⟨n,h⟩
  ·exact ⟨nx b (r.1 b t).1,(r.1 b t).2⟩
  ·exact w.st j a h b (EY _ t)
 ·have n:j≠i:=λz=>by subst z;rw[I] at y;cases y
  rw[List.getElem?_set_ne (λz=>n z.symm)];exact w.pro j y
 ·rcases val j u h with ⟨_,rfl⟩ | ⟨n,h⟩
  ·rcases hf with e | e
   ·exact w.fx.frT x EW (by rw[<- e];exact c) a p
   ·exact absurd e c
  ·exact w.fx.frS j u h A c a p
 ·rcases val j u h with ⟨_,rfl⟩ | ⟨n,h⟩
  ·exact absurd hl B
  ·exact w.fx.lvS j u h hl
def aS (i:Nat) (m:EM):SM:=af m λr=>af (cX r) λp=>λρ=>if i < ρ.length then some (.ok .nx,ρ.set i (some p)) else none
set_option tactic.hygienic true in
theorem Cv {i:Nat} (j:G0.pr i=false) (h:tS K G0 W0 (aS i m) E σ H):wD (tE K G0 W0 m) (ue i) E σ H:=by
 refine h.use λG W le ρ T g r ρ' w e q=>?_
 refine tE.seq le w e q.err λra ρ1 e1 v H1 ⟨Ts,g1,c,a1⟩=>?_
 obtain ⟨p,ρ2,g2,x,a,d,f1,f2,f4,b⟩:=a1.take c e1
 split at a
 ·rename_i hi
  cases a
  have:=d.store (f:=p.2) hi (by rw[le.pr];exact j) f2 f4
  rw[f1,b] at this
  exact q _ _ _ this
 ·exact nsE a
def aW (np:Nat) (m:EM):SM:=af m λr=>match r with
 | .val d f=>aQ (.rt d f)
 | .pl i=>λρ=>match (ρ[i]?).join with
  | some (d,.u)=>if i < np then some (.ok (.rt d .z),lowAt i ρ) else some (.ok (.rt d .u),ρ.set i none)
  | some (d,_)=>some (.ok (.rt d .z),lowAt i ρ)
  | none=>none
def sW:SM:=aQ (.rt .non .z)
theorem Wf.move {i:Nat} (w:Wf K G H σ ρ T g) (f:G.pr i=false) (e:g i=some y):Wf K G H σ (ρ.set i none) (y::T) (λj=>if j=i then none else g j):=by
 have hi:i < ρ.length:=by
  have:=w.sl i
  rw[e] at this
  exact fu this.symm
 have val:∀ j u,(if j=i then none else g j)=some u->j≠i/\g j=some u:=λj u h=>by
  grind
 refine ⟨by rw[List.length_set];exact w.len,λj=>?_,λj u h=>w.sv j u (val j u h).2,λj u h=>w.okS j u (val j u h).2,λu hu=>?_,λj k a b n h1 h2=>w.ss j k a b n (val j a h1).2 (val k b h2).2,λj a h b c=>?_,?_,w.base,w.pro,⟨λu hu hf a d=>?_,λj u h=>w.fx.frS j u (val j u h).2,w.fx.bin,w.fx.ob,λj u h=>w.fx.lvS j u (val j u h).2⟩⟩
 ·rw[cA hi]
  by_cases q:j=i
  ·rw[if_pos q,if_pos q];rfl
  ·rw[if_neg q,if_neg q];exact w.sl j
 ·rcases E5.mp hu with h | hu
  ·rw[h];exact w.okS i y e
  ·exact w.okT u hu
 ·obtain ⟨n,h⟩:=val j a h
  rcases E5.mp c with h' | c
  ·rw[h'];exact ⟨w.ss j i a y n h e,w.ss i j y a (Ne.symm n) e h⟩
  ·exact w.st j a h b c
 ·exact List.pairwise_cons.mpr ⟨λu hu=>w.st i y e u hu,w.tt⟩
 ·rcases E5.mp hu with h | hu
  ·subst h;exact w.fx.frS i u e f hf a d
  ·exact w.fx.frT u hu hf a d
theorem Cy {np:Nat} (n:∀ i,np<=i->G0.pr i=false) (h:tS K G0 W0 (aW np m) E σ H):tRet (tE K G0 W0 m) E σ H:=by
 refine h.use λG W le ρ T g r ρ' w e q=>?_
 refine tE.seq le w e q.err λra ρ1 e1 v H1 ⟨Ts,g1,k,a1⟩=>?_
 have low:∀ {i:Nat} {d:D} {f:Fl},(ρ1[i]?).join=some (d,f)->some ((.ok (.rt d .z),lowAt i ρ1):Except D Flw×Sto)=some (r,ρ')->Ar σ (.pl i) v Ts->E.rt v H1:=λ{i d f} b L a=>by
  cases L
  have C:af (cX (.pl i)) (λp=>aQ (Flw.rt p.1 p.2)) ρ1=some (.ok (.rt d .z),L3.lowAt i ρ1):=by
   unfold af
   rw[pC,b]
   rfl
  obtain ⟨p,ρ2,g2,x,j,o,f1,f2,_,A⟩:=a.take k C
  have c:Flw.rt p.1 p.2=Flw.rt d .z/\ρ2=L3.lowAt i ρ1:=by
   unfold aQ at j
   injection j with j
   injection j with c s
   injection c with c
   exact ⟨c,s⟩
  obtain ⟨c,s⟩:=c
  injection c with e7 e8
  subst s
  rw[<- A]
  have J:=Wf.lowT (Ts:=[x]) o
  exact q (cP x) σ H1 g2 J (f1.trans e7) rfl
 cases a1 with
 | val x=>cases e1;exact q x σ H1 g1 k rfl rfl
 | @pl i v h =>
  dsimp only at e1
  cases b:(ρ1[i]?).join with
  | none=>rw[b] at e1;exact nsE e1
  | some p =>
   obtain ⟨d,f⟩:=p
   rw[b] at e1
   cases f with
   | u =>
    dsimp only at e1
    split at e1
    ·exact low b e1 (.pl h)
    ·cases e1
     obtain ⟨y,F,B,I,t⟩:=k.slot b
     have o:=Wf.move k (by rw[le.pr];exact n i (by lia)) F
     have:=q y σ H1 _ o B I
     rw[h] at t
     cases t
     exact this
   | l=>exact low b e1 (.pl h)
   | z=>exact low b e1 (.pl h)
def bO (c:M3 Bool) (b:SM):Nat->SM
 | 0=>λ_=>none
 | n+1=>af c λt=>if t then af b (λf=>match f with
   | .nx=>bO c b n
   | .ct=>bO c b n
   | .br=>aQ .nx
   | .rt d f=>aQ (.rt d f)) else aQ .nx
def fc (c:M3 Bool) (b:SM):SM:=λρ=>open Classical in if h:∃ n r,bO c b n ρ=some r then some (Classical.choose (Classical.choose_spec h)) else none
theorem fP:∀ {n:Nat} {ρ:Sto} {r:Except D Flw×Sto},bO c b n ρ=some r->bO c b (n+1) ρ=some r
 | 0,ρ,r,e=>by cases e
 | n+1,ρ,r,e=>by
  unfold bO at e ⊢
  unfold af at e ⊢
  cases h:c ρ with
  | none=>rw[h] at e;exact nsE e
  | some p =>
   obtain ⟨o,ρ1⟩:=p
   rw[h] at e
   cases o with
   | error x=>exact e
   | ok t =>
    cases t with
    | false=>exact e
    | true =>
     simp only[if_true] at e ⊢
     cases h2:b ρ1 with
     | none=>rw[h2] at e;exact nsE e
     | some p2 =>
      obtain ⟨a,ρ2⟩:=p2
      rw[h2] at e
      cases a with
      | error x=>exact e
      | ok f =>
       cases f with
       | nx=>exact fP (n:=n) e
       | ct=>exact fP (n:=n) e
       | br=>exact e
       | rt d f=>exact e
theorem jB {n m:Nat} (h:n<=m) (e:bO c b n ρ=some r):bO c b m ρ=some r:=by
 induction h with
 | refl=>exact e
 | step _ ih=>exact fP ih
theorem pM (e:fc c b ρ=some r):∃ n,bO c b n ρ=some r:=by
 unfold fc at e
 split at e
 ·grind
 ·exact nsE e
theorem wz (h:tS K G0 W0 (fc c b) E σ H):wy (tT K G0 W0 c) (tS K G0 W0 b) E σ H:=by
 refine h.use λG W le ρ T g r ρ' w e q=>?_
 obtain ⟨n,e⟩:=pM e
 refine ⟨λm σ H=>∃ ρ g,Wf K G H σ ρ T g/\bO c b m ρ=some (r,ρ'),⟨n,ρ,g,w,e⟩,?_⟩
 rintro m σ1 H1 ⟨ρ1,g1,k,e1⟩
 cases m with
 | zero=>exact nsE e1
 | succ m =>
  unfold bO at e1
  refine tT.seq le k e1 q.err λt ρ2 a H2 g2 i=>?_
  cases t with
  | false=>cases a;exact q _ _ _ i
  | true =>
   refine ⟨λσ H=>∃ ρ g,Wf K G H σ ρ T g/\bO c b m ρ=some (r,ρ'),λσ' H' h=>⟨m,Nat.lt_succ_self m,h⟩,?_⟩
   simp only[if_true] at a
   unfold af at a
   cases p:b ρ2 with
   | none=>rw[p] at a;exact nsE a
   | some p2 =>
    obtain ⟨o,ρ3⟩:=p2
    rw[p] at a
    cases o with
    | error x=>cases a;exact tS.mk le i p q
    | ok f =>
     cases f with
     | nx=>exact tS.mk le (r:=.ok .nx) i p λσ' H' g' j=>⟨ρ3,g',j,a⟩
     | ct=>exact tS.mk le (r:=.ok .ct) i p λσ' H' g' j=>⟨ρ3,g',j,a⟩
     | br=>cases a;exact tS.mk le (r:=.ok .br) i p q
     | rt d f=>cases a;exact tS.mk le (r:=.ok (.rt d f)) i p q
end
end L3
end
section
namespace L3
open PySem L2
abbrev Fn:=List (D×Fl)->Option (Except D (D×Fl)×List (D×Fl))
def prs (ρ:Sto):List R3->Option (List (D×Fl))
 | []=>some []
 | .pl i::rs=>match (ρ[i]?).join,prs ρ rs with
  | some p,some ps=>some (p::ps)
  | _,_=>none
 | .val d f::rs=>match prs ρ rs with
  | some ps=>some ((d,f)::ps)
  | _=>none
def dQ (rs:List R3):List Nat:=(pls rs).filter λi=>decide (2<=(pls rs).count i)
def back:List R3->List (D×Fl)->List (D×Fl)->Sto->Sto
 | .pl i::rs,p::ps,q::qs,ρ=>back rs ps qs (if p.2=.z then ρ else ρ.set i (some (q.1,if q.2=.z then .z else p.2)))
 | .val _ _::rs,_::ps,_::qs,ρ=>back rs ps qs ρ
 | _,_,_,ρ=>ρ
def lF (F:Fn) (ms:M3 (List R3)):EM:=af ms λrs=>λρ=>match prs (frz (dQ rs) ρ) rs with
 | none=>none
 | some ps=>match F ps with
  | none=>none
  | some (.ok p,qs)=>if qs.length=ps.length then some (.ok (.val p.1 p.2),back rs ps qs (frz (dQ rs) ρ)) else none
  | some (.error e,qs)=>if qs.length=ps.length then some (.error e,back rs ps qs (frz (dQ rs) ρ)) else none
section
variable {K:FG} {G G0:Gm} {W W0:D->Sto->Prop} {H H':Hp} {σ:St} {ρ ρ':Sto} {T T':List It3} {g:Nat->Option It3} {x y z:It3} {α β:Type}
structure Back1 (K:FG) (H H':Hp) (ps:List It3) (p q:It3):Prop where
 z:p.f=.z->q=p
 v:q.v=p.v
 f:q.f=p.f\/q.f=.z
 arg:Arg K H' q
 src:∀ c∈q.L,H c=none\/cI ps c
 there:p.f=.u->∀ b,p.v=.ref b->∃ o,H' b=some o
structure BehindX (K:FG) (H H':Hp) (ps qs:List It3):Prop where
 frame:∀ b o,H b=some o->(∀ p∈ps,p.f=.u->p.v≠.ref b)->H' b=some o
 back:Paired (Back1 K H H' ps) ps qs
 apart:qs.Pairwise Apart3
structure Behind (K:FG) (H H':Hp) (ps qs:List It3) (x:It3):Prop extends BehindX K H H' ps qs where
 rep:Rep K H' x.d x.v x.L
 own:x.f≠.z->jo x.d=true/\∃ a L',x.v=.ref a/\x.L=a::L'/\a ∉ L'/\H a=none
 src:∀ c∈x.L,H c=none\/cI ps c
 apx:∀ q∈qs,Apart3 x q
def spF (XA:D->Value->Option Addr->Hp->Prop) (K:FG) (F:Fn):Sp:=λvs H Q E=>∃ (ps:List It3) (o:Except D (D×Fl)) (fs:List (D×Fl)),vs=ps.map (·.v)/\(∀ p∈ps,Arg K H p)/\ps.Pairwise Apart3/\F (ps.map λp=>(p.d,p.f))=some (o,fs)/\match o with
 | .ok p=>∀ x qs H',Behind K H H' ps qs x->x.d=p.1->x.f=p.2->qs.map (λq=>(q.d,q.f))=fs->Q x.v H'
 | .error e=>∀ qs H' cls da,BehindX K H H' ps qs->qs.map (λq=>(q.d,q.f))=fs->XA e cls da H'->E cls da H'
theorem Ars.args:∀ {rs:List R3} {vs:List V} {Ts T:List It3} {k:List (D×Fl)},Ars σ rs vs Ts->Wf K G H σ ρ (Ts++T) g->(∀ i,2<=(pls rs).count i->∀ y,g i=some y->y.f=.z)->prs ρ rs=some k ->
  ∃ ps:List It3,ps.map (λp=>(p.d,p.f))=k/\ps.map (·.v)=vs/\ps.Pairwise Apart3/\(∀ p∈ps,(∃ i,R3.pl i∈rs/\g i=some p)\/p∈Ts)/\Paired (λr p=>match r with | .pl i=>g i=some p | .val _ _=>p∈Ts) rs ps
 | [],_,_,T,k,.nil,w,_,e=>by cases e;exact ⟨[],rfl,rfl,.nil,λ_ h=>(by cases h),.nil⟩
 | r::rs,_,_,T,k,.cons (v:=v0) (Ts:=T0) (Us:=U0) a as,w,hd,e=>by
  have E:Wf K G H σ ρ (U0++(T0++T)) g:=by rw[<- List.append_assoc];exact w
  have o:∀ i,2<=(pls rs).count i->∀ y,g i=some y->y.f=.z:=λi s=>hd i (by
   cases r with
   | pl j=>show 2<=(j::pls rs).count i;rw[List.count_cons];lia
   | val _ _=>exact s)
  cases a with
  | @pl i v h =>
   unfold prs at e
   cases q:(ρ[i]?).join with
   | none=>rw[q] at e;exact nsE e
   | some p0 =>
    cases l:prs ρ rs with
    | none=>rw[q,l] at e;exact nsE e
    | some pfs' =>
     rw[q,l] at e
     cases e
     obtain ⟨ps,f1,f2,A,f4,B⟩:=Ars.args as E o l
     obtain ⟨y,n,F,J,C⟩:=w.slot (d:=p0.1) (f:=p0.2) q
     have I:y.v=v0:=by rw[h] at C;cases C;rfl
     refine ⟨y::ps,by rw[Fm,f1,F,J],by rw[Fm,f2,I],List.pairwise_cons.mpr ⟨λp b=>?_,A⟩,λp b=>?_,.cons n ?_⟩
     ·rcases f4 p b with ⟨j,m,c⟩ | b
      ·by_cases t:i=j
       ·subst t
        have s:2<=(pls (R3.pl i::rs)).count i:=by
         show 2<=(i::pls rs).count i
         rw[List.count_cons_self]
         have:=List.count_pos_iff.mpr (kG m)
         lia
        have hz:=hd i s y n
        have u:=hd i s p c
        exact ⟨λq=>absurd hz q,λq=>absurd u q⟩
       ·exact ⟨w.ss i j y p t n c,w.ss j i p y (Ne.symm t) c n⟩
      ·exact w.st i y n p (E3 _ (E3 _ b))
     ·rcases E5.mp b with h' | b
      ·rw[h'];exact .inl ⟨i,EW,n⟩
      ·rcases f4 p b with ⟨j,m,c⟩ | b
       ·exact .inl ⟨j,EY _ m,c⟩
       ·exact .inr (E3 _ b)
     ·exact Paired.mapP B λr p h=>by
       cases r with
       | pl j=>exact h
       | val _ _=>exact E3 _ h
  | val x =>
   unfold prs at e
   cases l:prs ρ rs with
   | none=>rw[l] at e;exact nsE e
   | some pfs' =>
    rw[l] at e
    cases e
    obtain ⟨ps,f1,f2,A,f4,B⟩:=Ars.args as E o l
    refine ⟨x::ps,by rw[Fm,f1],by rw[Fm,f2],List.pairwise_cons.mpr ⟨λp b=>?_,A⟩,λp b=>?_,.cons (E4 _ EW) ?_⟩
    ·rcases f4 p b with ⟨j,m,c⟩ | b
     ·exact (w.st j p c x (E3 _ (E4 _ EW))).symm
     ·have t1:=(List.pairwise_append.mp w.tt).1
      exact ((List.pairwise_append.mp t1).2.2 p b x EW).symm
    ·rcases E5.mp b with h' | b
     ·rw[h'];exact .inr (E4 _ EW)
     ·rcases f4 p b with ⟨j,m,c⟩ | b
      ·exact .inl ⟨j,EY _ m,c⟩
      ·exact .inr (E3 _ b)
    ·exact Paired.mapP B λr p h=>by
      cases r with
      | pl j=>exact h
      | val _ _=>exact E3 _ h
theorem fB:∀ {rs:List R3} {ps qs:List It3} {ρ:Sto} {g:Nat->Option It3},(∀ j,(g j).map (λx=>(x.d,x.f))=(ρ[j]?).join)->rs.length=ps.length->Paired (Back1 K H H' T) ps qs->(∀ i,R3.pl i∈rs->i < ρ.length) ->
  ∃ g':Nat->Option It3,(∀ j,(g' j).map (λx=>(x.d,x.f))=((back rs (ps.map λp=>(p.d,p.f)) (qs.map λq=>(q.d,q.f)) ρ)[j]?).join)/\(back rs (ps.map λp=>(p.d,p.f)) (qs.map λq=>(q.d,q.f)) ρ).length=ρ.length /\
   ∀ j:Nat,(g' j=g j/\∀ (k:Nat) (p:It3),rs[k]?=some (R3.pl j)->ps[k]?=some p->p.f=.z)\/∃ (k:Nat) (p q:It3),rs[k]?=some (R3.pl j)/\ps[k]?=some p/\qs[k]?=some q/\p.f≠.z/\g' j=some q
 | [],[],_,ρ,g,hg,_,.nil,_=>⟨g,hg,rfl,λj=>.inl ⟨rfl,λk p h=>by simp at h⟩⟩
 | [],_::_,_,_,_,_,h,_,_=>by cases h
 | _::_,[],_,_,_,_,h,_,_=>by cases h
 | .val d f::rs,p::ps,_,ρ,g,hg,hl,.cons (b:=q) (l₂:=qs) b1 bs,hi=>by
  obtain ⟨g',h1,h2,h3⟩:=fB (rs:=rs) hg (by simpa using hl) bs λi h=>hi i (EY _ h)
  refine ⟨g',h1,h2,λj=>?_⟩
  rcases h3 j with ⟨e,h⟩ | ⟨k,a,n,a1,a2,m,l⟩
  ·refine .inl ⟨e,λk a e1 c=>?_⟩
   cases k with
   | zero=>simp at e1
   | succ k=>exact h k a (by simpa using e1) (by simpa using c)
  ·exact .inr ⟨k+1,a,n,by simpa using a1,by simpa using a2,by simpa using m,l⟩
 | .pl i::rs,p::ps,_,ρ,g,hg,hl,.cons (b:=q) (l₂:=qs) b1 bs,hi=>by
  have s:=hi i EW
  by_cases hz:p.f=.z
  ·have r:back (.pl i::rs) ((p::ps).map λp=>(p.d,p.f)) ((q::qs).map λq=>(q.d,q.f)) ρ=back rs (ps.map λp=>(p.d,p.f)) (qs.map λq=>(q.d,q.f)) ρ:=by
    show back rs _ _ (if p.f=.z then ρ else _)=_
    rw[if_pos hz]
   rw[r]
   obtain ⟨g',h1,h2,h3⟩:=fB (rs:=rs) hg (by simpa using hl) bs λi h=>hi i (EY _ h)
   refine ⟨g',h1,h2,λj=>?_⟩
   rcases h3 j with ⟨e,h⟩ | ⟨k,a,n,a1,a2,m,l⟩
   ·refine .inl ⟨e,λk a e1 c=>?_⟩
    cases k with
    | zero=>simp at c;rw[<- c];exact hz
    | succ k=>exact h k a (by simpa using e1) (by simpa using c)
   ·exact .inr ⟨k+1,a,n,by simpa using a1,by simpa using a2,by simpa using m,l⟩
  ·have r:back (.pl i::rs) ((p::ps).map λp=>(p.d,p.f)) ((q::qs).map λq=>(q.d,q.f)) ρ=back rs (ps.map λp=>(p.d,p.f)) (qs.map λq=>(q.d,q.f)) (ρ.set i (some (q.d,q.f))):=by
    show back rs _ _ (if p.f=.z then ρ else ρ.set i (some (q.d,if q.f=.z then .z else p.f)))=_
    rw[if_neg hz]
    have:(if q.f=.z then Fl.z else p.f)=q.f:=by
     by_cases h:q.f=.z
     ·rw[if_pos h,h]
     ·rw[if_neg h]
      rcases b1.f with h' | h'
      ·exact h'.symm
      ·exact absurd h' h
    rw[this]
   rw[r]
   obtain ⟨g',h1,h2,h3⟩:=fB (rs:=rs) (ρ:=ρ.set i (some (q.d,q.f))) (g:=λj=>if j=i then some q else g j) (λj=>by
    rw[cA s]
    by_cases e:j=i
    ·rw[if_pos e,if_pos e];rfl
    ·rw[if_neg e,if_neg e];exact hg j) (by simpa using hl) bs λi h=>by rw[List.length_set];exact hi i (EY _ h)
   refine ⟨g',h1,by rw[h2,List.length_set],λj=>?_⟩
   rcases h3 j with ⟨e,h⟩ | ⟨k,a,n,a1,a2,m,l⟩
   ·by_cases o:j=i
    ·rw[if_pos o] at e
     exact .inr ⟨0,p,q,by simp[o],rfl,rfl,hz,e⟩
    ·rw[if_neg o] at e
     refine .inl ⟨e,λk a e1 c=>?_⟩
     cases k with
     | zero=>simp at e1;exact absurd e1.symm o
     | succ k=>exact h k a (by simpa using e1) (by simpa using c)
   ·exact .inr ⟨k+1,a,n,by simpa using a1,by simpa using a2,by simpa using m,l⟩
theorem oA:∀ {rs:List R3} {a:List (D×Fl)},prs ρ rs=some a->rs.length=a.length
 | [],a,e=>by cases e;rfl
 | .pl i::rs,a,e=>by
  unfold prs at e
  cases q:(ρ[i]?).join with
  | none=>rw[q] at e;exact nsE e
  | some p =>
   cases b:prs ρ rs with
   | none=>rw[q,b] at e;exact nsE e
   | some ps=>rw[q,b] at e;cases e;rw[Fu,Fu,oA b]
 | .val d f::rs,a,e=>by
  unfold prs at e
  cases b:prs ρ rs with
  | none=>rw[b] at e;exact nsE e
  | some ps=>rw[b] at e;cases e;rw[Fu,Fu,oA b]
theorem rC:∀ {rs:List R3} {a:List (D×Fl)},prs ρ rs=some a->∀ i,R3.pl i∈rs->i < ρ.length
 | [],a,e,i,h=>by cases h
 | .pl i::rs,a,e,j,h=>by
  unfold prs at e
  cases q:(ρ[i]?).join with
  | none=>rw[q] at e;exact nsE e
  | some p =>
   cases b:prs ρ rs with
   | none=>rw[q,b] at e;exact nsE e
   | some ps =>
    rcases E5.mp h with h | h
    ·cases h;exact fu q
    ·exact rC b j h
 | .val d f::rs,a,e,j,h=>by
  unfold prs at e
  cases b:prs ρ rs with
  | none=>rw[b] at e;exact nsE e
  | some ps =>
   rcases E5.mp h with h | h
   ·cases h
   ·exact rC b j h
theorem Paired.at:∀ {l:List α} {m:List β} {k:Nat} {a:α} {b:β},Paired F l m->l[k]?=some a->m[k]?=some b->F a b
 | _,_,_,_,_,.nil,h,_=>by simp at h
 | _,_,0,_,_,.cons r _,h,h'=>by simp at h h';subst h h';exact r
 | _,_,k+1,_,_,.cons _ t,h,h'=>Paired.at (k:=k) t (by simpa using h) (by simpa using h')
theorem Paired.exL:∀ {l:List α} {m:List β} {k:Nat} {a:α},Paired F l m->l[k]?=some a->∃ b,m[k]?=some b/\F a b
 | _,_,_,_,.nil,h=>by simp at h
 | _,_,0,_,.cons r _,h=>by simp at h;subst h;exact ⟨_,rfl,r⟩
 | _,_,k+1,_,.cons _ t,h=>let ⟨b,h1,h2⟩:=Paired.exL (k:=k) t (by simpa using h);⟨b,by simpa using h1,h2⟩
theorem Paired.exR:∀ {l:List α} {m:List β} {k:Nat} {b:β},Paired F l m->m[k]?=some b->∃ a,l[k]?=some a/\F a b
 | _,_,_,_,.nil,h=>by simp at h
 | _,_,0,_,.cons r _,h=>by simp at h;subst h;exact ⟨_,rfl,r⟩
 | _,_,k+1,_,.cons _ t,h=>let ⟨b,h1,h2⟩:=Paired.exR (k:=k) t (by simpa using h);⟨b,by simpa using h1,h2⟩
theorem ce {R:α->α->Prop} {l:List α} (p:l.Pairwise R) (hs:∀ a b,R a b->R b a) {i j:Nat} {a b:α} (n:i≠j) (d:l[i]?=some a) (c:l[j]?=some b):R a b:=by
 obtain ⟨h1,e1⟩:=Fb.mp d
 obtain ⟨h2,e⟩:=Fb.mp c
 have q:=List.pairwise_iff_getElem.mp p
 grind
theorem Wf.after (w:Wf K G H σ ρ (Ts++T) g) (e:prs ρ rs=some pfs) (f1:ps.map (λp=>(p.d,p.f))=pfs) (f4:∀ p∈ps,(∃ i,R3.pl i∈rs/\g i=some p)\/p∈Ts) (f5:Paired (λr p=>match r with | .pl i=>g i=some p | .val _ _=>p∈Ts) rs ps) (B:BehindX K H H' ps qs) :
  ∃ g',Wf K G H' σ (L3.back rs pfs (qs.map λq=>(q.d,q.f)) ρ) T g' /\
   ∀ x,Rep K H' x.d x.v x.L->(x.f≠.z->jo x.d=true/\∃ a L',x.v=.ref a/\x.L=a::L'/\a ∉ L'/\H a=none)->(∀ c∈x.L,H c=none\/cI ps c)->(∀ q∈qs,Apart3 x q)->Wf K G H' σ (L3.back rs pfs (qs.map λq=>(q.d,q.f)) ρ) (x::T) g':=by
 subst f1
 have hl:rs.length=ps.length:=by have:=oA e;rwa [Fa] at this
 obtain ⟨g',h1,h2,h3⟩:=fB (K:=K) (H:=H) (H':=H') (T:=ps) (rs:=rs) (ps:=ps) (qs:=qs) w.sl hl B.back (rC e)
 have F:∀ p∈ps,Itm (Ts++T) g p:=λp l=>by
  rcases f4 p l with ⟨i,_,Q⟩ | h
  ·exact .inl ⟨i,Q⟩
  ·exact .inr (E3 _ h)
 have Y:∀ b o,H b=some o->∃ o',H' b=some o':=λb o R=>by
  by_cases h:∀ p∈ps,p.f=.u->p.v≠.ref b
  ·exact ⟨o,B.frame b o R h⟩
  ·have h':∃ p,p∈ps/\p.f=.u/\p.v=.ref b:=by
    refine Classical.byContradiction λn=>h λp l hf J=>n ⟨p,l,hf,J⟩
   obtain ⟨p,l,hf,J⟩:=h'
   obtain ⟨k,hk,ek⟩:=List.mem_iff_getElem.mp l
   obtain ⟨q,e1,b1⟩:=Paired.exL B.back (show ps[k]?=some p by rw[E6 hk,ek])
   exact b1.there hf b J
 have ka:∀ j z,g j=some z->(∀ (k:Nat) (p:It3),rs[k]?=some (R3.pl j)->ps[k]?=some p->p.f=.z)->∀ p∈ps,Apart3 p z:=λj z ej hu p l=>by
  rcases f4 p l with ⟨i,hi,Q⟩ | h
  ·by_cases ij:i=j
   ·subst ij
    have ar:p=z:=FL (Q.symm.trans ej)
    subst ar
    have hz:p.f=.z:=by
     obtain ⟨k,hk,ek⟩:=List.mem_iff_getElem.mp hi
     have W:rs[k]?=some (R3.pl i):=by rw[E6 hk,ek]
     obtain ⟨C,e1,E⟩:=Paired.exL f5 W
     have E:g i=some C:=E
     rw[Q] at E
     cases E
     exact hu k p W e1
    exact ⟨λq=>absurd hz q,λq=>absurd hz q⟩
   ·exact ⟨w.ss i j p z ij Q ej,w.ss j i z p (Ne.symm ij) ej Q⟩
  ·exact (w.st j z ej p (E3 _ h)).symm
 have kt:∀ z∈T,∀ p∈ps,Apart3 p z:=λz hz p l=>by
  rcases f4 p l with ⟨i,hi,Q⟩ | h
  ·exact w.st i p Q z (E4 _ hz)
  ·exact (List.pairwise_append.mp w.tt).2.2 p h z hz
 have keep:∀ z,ItOk K G H z->(∀ p∈ps,Apart3 p z)->ItOk K G H' z:=λz P V=>by
  refine P.keep (M:=λb=>∃ p∈ps,p.f=.u/\p.v=.ref b) (λb o R n=>B.frame b o R λp l hf J=>n ⟨p,l,hf,J⟩) (λb ⟨p,l,hf,J⟩=>?_) (λb R ⟨p,l,hf,J⟩=>?_)
  ·obtain ⟨_,a,L',e1,E,_⟩:=(w.itm (F p l)).own (by rw[hf];intro q;cases q)
   rw[J] at e1
   cases e1
   exact (w.itm (F p l)).rep.inH b (by rw[E];exact EW)
  ·exact (V p l).1 (by rw[hf];intro q;cases q) b J R
 have ae:∀ k p q,ps[k]?=some p->qs[k]?=some q->ItOk K G H' q:=λk p q e1 E=>by
  have b:=Paired.at B.back e1 E
  refine ⟨b.arg.rep,λhf=>?_,λc S=>?_⟩
  ·obtain ⟨m,a,L',v1,v2,v3⟩:=b.arg.own hf
   refine ⟨m,a,L',v1,v2,v3,λhu=>?_⟩
   have pf:p.f=.u:=by
    rcases b.f with h | h
    ·rw[<- h];exact hu
    ·rw[h] at hu;cases hu
   obtain ⟨_,a',a4,e3,_,_,e5⟩:=(w.itm (F p (Fc e1))).own (by rw[pf];intro q;cases q)
   rw[<- b.v,v1] at e3
   cases e3
   exact e5 pf
  ·rcases b.src c S with h | ⟨C,A,h⟩
   ·exact .inl (w.h0none h)
   ·exact (w.itm (F C A)).src c h
 have kq:∀ z,ItOk K G H z->(∀ p∈ps,Apart3 p z)->∀ k p q,ps[k]?=some p->qs[k]?=some q->Apart3 z q:=λz P V k p q e1 E=>by
  have b:=Paired.at B.back e1 E
  refine ⟨λhf a ev hm=>?_,λhf a ev=>?_⟩
  ·rcases b.src a hm with h | ⟨C,A,S⟩
   ·obtain ⟨_,a',L',s,O,_⟩:=P.own hf
    rw[ev] at s;cases s
    obtain ⟨o,I⟩:=(P.rep.inH a (by rw[O];exact EW)).ex
    rw[h] at I;exact nsE I
   ·exact (V C A).2 hf a ev S
  ·have pf:p.f≠.z:=λX=>by
    have:=b.z X
    rw[this] at hf
    exact hf X
   exact (V p (Fc e1)).1 pf a (by rw[<- b.v];exact ev)
 have old:∀ j z,g' j=some z->(g j=some z/\∀ p∈ps,Apart3 p z)\/∃ k p,rs[k]?=some (R3.pl j)/\ps[k]?=some p/\qs[k]?=some z:=λj z D=>by
  rcases h3 j with ⟨e1,hu⟩ | ⟨k,p,q,a1,a2,y,_,a5⟩
  ·rw[e1] at D
   exact .inl ⟨D,ka j z D hu⟩
  ·rw[a5] at D
   cases D
   exact .inr ⟨k,p,a1,a2,y⟩
 have wf:Wf K G H' σ (L3.back rs (ps.map λp=>(p.d,p.f)) (qs.map λq=>(q.d,q.f)) ρ) T g':=by
  refine ⟨by rw[h2];exact w.len,h1,λj z D=>?_,λj z D=>?_,λz hz=>keep z (w.okT z (E4 _ hz)) (kt z hz),λi j a b n U eb=>?_,λj z D t N=>?_,(List.pairwise_append.mp w.tt).2.1,λb o e n=>?_,w.pro,⟨λu hu=>w.fx.frT u (E4 _ hu),λj u h l hf a U=>?_,λb R=>?_,λb o h=>?_,λj u h hl=>?_⟩⟩
  ·rcases old j z D with ⟨e1,_⟩ | ⟨k,p,a1,a2,y⟩
   ·exact w.sv j z e1
   ·have Z:g j=some p:=by
     obtain ⟨C,s,O⟩:=Paired.exL f5 a1
     rw[a2] at s;cases s
     exact O
    rw[(Paired.at B.back a2 y).v]
    exact w.sv j p Z
  ·rcases old j z D with ⟨e1,ap⟩ | ⟨k,p,a1,a2,y⟩
   ·exact keep z (w.okS j z e1) ap
   ·exact ae k p z a2 y
  ·rcases old i a U with ⟨e1,ap⟩ | ⟨k,p,a1,a2,y⟩
   ·rcases old j b eb with ⟨E,_⟩ | ⟨k',C,b1,b2,b3⟩
    ·exact w.ss i j a b n e1 E
    ·exact (kq a (w.okS i a e1) ap k' C b b2 b3).1
   ·rcases old j b eb with ⟨E,ap⟩ | ⟨k',C,b1,b2,b3⟩
    ·exact (kq b (w.okS j b E) ap k p a a2 y).2
    ·have kk:k≠k':=λz=>by
      subst z
      rw[a1] at b1
      cases b1
      exact n rfl
     exact (ce B.apart (λ_ _=>Apart3.symm) kk y b3).1
  ·rcases old j z D with ⟨e1,ap⟩ | ⟨k,p,a1,a2,y⟩
   ·exact w.st j z e1 t (E4 _ N)
   ·exact (kq t (w.okT t (E4 _ N)) (kt t N) k p z a2 y).symm
  ·refine B.frame b o (w.base b o e n) λp l hf J=>?_
   obtain ⟨_,a,L',e1,_,_,e3⟩:=(w.itm (F p l)).own (by rw[hf];intro q;cases q)
   rw[J] at e1
   cases e1
   rcases e3 hf with h | h
   ·rw[e] at h;cases h
   ·exact n h
  ·rcases old j u h with ⟨e1,_⟩ | ⟨k,p,a1,a2,y⟩
   ·exact w.fx.frS j u e1 l hf a U
   ·have b:=Paired.at B.back a2 y
    have Z:g j=some p:=by
     obtain ⟨C,s,O⟩:=Paired.exL f5 a1
     rw[a2] at s;cases s
     exact O
    refine w.fx.frS j p Z l (λX=>?_) a (by rw[<- b.v];exact U)
    have:=b.z X
    rw[this] at hf
    exact hf X
  ·obtain ⟨o,I⟩:=w.fx.bin b R
   exact Y b o I
  ·obtain ⟨o',I⟩:=w.fx.ob b o h
   exact Y b o' I
  ·rcases old j u h with ⟨e1,_⟩ | ⟨k,p,a1,a2,y⟩
   ·exact w.fx.lvS j u e1 hl
   ·have b:=Paired.at B.back a2 y
    have Z:g j=some p:=by
     obtain ⟨C,s,O⟩:=Paired.exL f5 a1
     rw[a2] at s;cases s
     exact O
    rw[b.v]
    refine w.fx.lvS j p Z ?_
    rcases b.f with h | h
    ·rw[<- h];exact hl
    ·rw[h] at hl;cases hl
 refine ⟨g',wf,λx rx ox sx ax=>?_⟩
 have kx:∀ z,ItOk K G H z->(∀ p∈ps,Apart3 p z)->Apart3 z x:=λz P V=>by
  refine ⟨λhf a ev hm=>?_,λhf a ev hm=>?_⟩
  ·rcases sx a hm with h | ⟨C,A,S⟩
   ·obtain ⟨_,a',L',s,O,_⟩:=P.own hf
    rw[ev] at s;cases s
    obtain ⟨o,I⟩:=(P.rep.inH a (by rw[O];exact EW)).ex
    rw[h] at I;exact nsE I
   ·exact (V C A).2 hf a ev S
  ·obtain ⟨_,a',L',s,_,_,q4⟩:=ox hf
   rw[ev] at s;cases s
   obtain ⟨o,I⟩:=(P.rep.inH a hm).ex
   rw[q4] at I;exact nsE I
 refine ⟨wf.len,wf.sl,wf.sv,wf.okS,λz hz=>?_,wf.ss,λj z D t N=>?_,?_,wf.base,wf.pro,⟨λu hu hf a U=>?_,wf.fx.frS,wf.fx.bin,wf.fx.ob,wf.fx.lvS⟩⟩
 ·rcases E5.mp hz with h | hz
  ·rw[h]
   refine ⟨rx,λhf=>?_,λc S=>?_⟩
   ·obtain ⟨m,a,L',v1,v2,v3,v4⟩:=ox hf
    exact ⟨m,a,L',v1,v2,v3,λ_=>.inl (w.h0none v4)⟩
   ·rcases sx c S with h | ⟨C,A,h⟩
    ·exact .inl (w.h0none h)
    ·exact (w.itm (F C A)).src c h
  ·exact wf.okT z hz
 ·rcases E5.mp N with h | N
  ·rw[h]
   rcases old j z D with ⟨e1,ap⟩ | ⟨k,p,a1,a2,y⟩
   ·exact kx z (w.okS j z e1) ap
   ·exact (ax z (Fc y)).symm
  ·exact wf.st j z D t N
 ·exact List.pairwise_cons.mpr ⟨λt N=>(kx t (w.okT t (E4 _ N)) (kt t N)).symm,wf.tt⟩
 ·rcases E5.mp hu with h | hu
  ·subst h
   obtain ⟨_,a',L',s,_,_,q4⟩:=ox hf
   rw[U] at s;cases s
   exact w.ornone q4
  ·exact wf.fx.frT u hu hf a U
set_option tactic.hygienic true in
theorem rQ {i a:Nat} (h:(ρ[i]?).join=none):((L3.lowAt a ρ)[i]?).join=none:=by
 unfold L3.lowAt
 split
 ·grind
 ·rename_i d hd
  rw[cA (fu hd)]
  by_cases b:i=a
  ·subst b;rw[h] at hd;exact nsE hd
  ·rw[if_neg b];exact h
 ·exact h
theorem lN {i:Nat}:∀ {is:List Nat} {ρ:Sto},(ρ[i]?).join=none->((L3.frz is ρ)[i]?).join=none
 | [],ρ,h=>h
 | a::is,ρ,h=>lN (is:=is) (ρ:=L3.lowAt a ρ) (rQ h)
def EX (XA:D->Value->Option Addr->Hp->Prop) (K:FG) (G:Gm) (W:D->Sto->Prop) (σ:St):XK:=λcls da H'=>∃ e ρ' T' g',Wf K G H' σ ρ' T' g'/\XA e cls da H'/\W e ρ'
theorem z6 (h:tE K G0 W0 (lF F ms) σ H Q):tA K G0 W0 ms σ H λvs H1=>spF XA K F vs H1 Q (EX XA K G0 W0 σ):=by
 refine h.use λG W le ρ T g o ρ' w e q=>?_
 refine tA.seq le w e q.err λrs ρ1 e1 vs H1 Ts g1 u a1=>?_
 obtain ⟨g2,b,M⟩:=Wf.frz (is:=dQ rs) u
 cases j:prs (L3.frz (dQ rs) ρ1) rs with
 | none=>rw[j] at e1;exact nsE e1
 | some pfs =>
  rw[j] at e1
  dsimp only at e1
  have hd:∀ i,2<=(pls rs).count i->∀ y,g2 i=some y->y.f=.z:=λi R y t=>by
   have hm:i∈dQ rs:=FC.mpr ⟨List.count_pos_iff.mp (by lia),by simpa using R⟩
   have s1:=b.sl i
   rw[t] at s1
   have I:∃ y0,g1 i=some y0:=by
    cases J:g1 i with
    | some y0=>exact ⟨y0,rfl⟩
    | none =>
     exfalso
     have s2:=u.sl i
     rw[J] at s2
     have:=lN (is:=dQ rs) s2.symm
     rw[this] at s1
     cases s1
   obtain ⟨y0,n⟩:=I
   obtain ⟨Y,c,_,P⟩:=M i y0 n
   rw[t] at c
   cases c
   exact P hm
  obtain ⟨ps,f1,f2,D,f4,C⟩:=Ars.args a1 b hd j
  have hit:∀ p∈ps,Itm (Ts++T) g2 p:=λp k=>by
   rcases f4 p k with ⟨i,_,N⟩ | h
   ·exact .inl ⟨i,N⟩
   ·exact .inr (E3 _ h)
  have d:∀ p∈ps,Arg K H1 p:=λp k=>⟨(b.itm (hit p k)).rep,λhf=>by
   obtain ⟨m,a,L',v1,v2,v3,_⟩:=(b.itm (hit p k)).own hf
   exact ⟨m,a,L',v1,v2,v3⟩⟩
  subst f2
  cases c:F pfs with
  | none=>rw[c] at e1;exact nsE e1
  | some r =>
   obtain ⟨out,fs⟩:=r
   rw[c] at e1
   refine ⟨ps,out,fs,rfl,d,D,by rw[f1];exact c,?_⟩
   cases out with
   | ok p =>
    dsimp only at e1
    split at e1
    ·cases e1
     intro x qs H' B x1 O l
     obtain ⟨g',s,L⟩:=Wf.after b j f1 f4 C B.toBehindX
     have A:=L x B.rep B.own B.src B.apx
     rw[l] at A
     rw[<- x1,<- O] at q
     exact q x.v H' ⟨[x],g',A,.val x⟩
    ·exact nsE e1
   | error er =>
    dsimp only at e1
    split at e1
    ·cases e1
     intro qs H' cls da B l V
     obtain ⟨g',s,_⟩:=Wf.after b j f1 f4 C B
     rw[l] at s
     obtain ⟨ρ5,U,E,S,X⟩:=le.ex H' σ _ T g' er s q
     exact ⟨er,ρ5,U,E,S,V,X⟩
    ·exact nsE e1
end
end L3
end
section
namespace L3
open PySem L2
def dC (ρ:Sto):Nat->List (D×Fl)->Option (List (D×Fl))
 | _,[]=>some []
 | i,(d,.z)::ps=>(dC ρ (i+1) ps).map λr=>(d,.z)::r
 | i,(d,f)::ps=>match (ρ[i]?).join,dC ρ (i+1) ps with
  | some (d',f'),some r=>if f'=f\/f'=.z then some ((d',f')::r) else none
  | _,_=>none
def entry (n:Nat) (ps:List (D×Fl)):Sto:=ps.map some++List.replicate (n - ps.length) none
def fn0 (n:Nat) (b:SM):Fn:=λps=>match b (entry n ps) with
 | some (.ok .nx,ρ')=>(dC ρ' 0 ps).map λfs=>(.ok (.non,.z),fs)
 | some (.ok (.rt d f),ρ')=>(dC ρ' 0 ps).map λfs=>(.ok (d,f),fs)
 | some (.error e,ρ')=>(dC ρ' 0 ps).map λfs=>(.error e,fs)
 | _=>none
def mn (b:Bool) (p:D×Fl):D×Fl:=if b then (p.1,.z) else p
noncomputable def fnM (mask:List Bool) (n:Nat) (b:SM):Fn:=λps=>if ps.length=mask.length then fn0 n b (List.zipWith mn mask ps) else none
section
variable {K:FG} {G:Gm} {W:D->Sto->Prop} {H H':Hp} {σ:St} {ρ ρ':Sto} {T T':List It3} {g:Nat->Option It3} {x y z:It3} {α β:Type}
def gOf (H:Hp) (pr:Nat->Bool) (σ0:St) (ps:List It3):Gm:=⟨H,λb=>∃ p∈ps,p.f=.u/\p.v=.ref b,pr,σ0,H,cI ps,λi=>(ps[i]?).map (·.v)⟩
theorem vP {n:Nat} (a:ps.length<=n) (i:Nat):((entry n ps)[i]?).join=ps[i]?:=by
 unfold entry
 grind
theorem jD {n:Nat} {vs:List V} {i:Nat} (h:vs[i]?=some v):(vs.map some++List.replicate n (none:Option V))[i]?=some (some v):=by grind
theorem pq {n:Nat} (w:ps.length<=n) (g:∀ p∈ps,Arg K H p) (l:ps.Pairwise Apart3) (k:∀ (i:Nat) (p:It3),ps[i]?=some p->p.f≠.z->pr i=true) :
  Wf K (gOf H pr ((ps.map (·.v)).map some++List.replicate (n - (ps.map (·.v)).length) none) ps) H ((ps.map (·.v)).map some++List.replicate (n - (ps.map (·.v)).length) none) (entry n (ps.map λp=>(p.d,p.f))) [] (λi=>ps[i]?):=by
 refine ⟨?_,λi=>?_,λi x e=>?_,λi x e=>?_,λ_ h=>(by cases h),λi j a b n u r=>?_,λ_ _ _ _ h=>(by cases h),.nil,λb o e _=>e,λi _=>rfl,⟨λ_ h=>(by cases h),λi x e hz hf=>?_,λb h=>?_,λb o e=>⟨o,e⟩,λi x e _=>(by show (ps[i]?).map (·.v)=_;rw[e];rfl)⟩⟩
 ·unfold entry;simp
 ·rw[vP (by simpa using w),Ff]
 ·exact jD (by rw[Ff,e];rfl)
 ·have hm:=Fc e
  refine ⟨(g x hm).rep,λhf=>?_,λc s=>.inr ⟨x,hm,s⟩⟩
  obtain ⟨m,a,L',v1,v2,v3⟩:=(g x hm).own hf
  exact ⟨m,a,L',v1,v2,v3,λhu=>.inr ⟨x,hm,hu,v1⟩⟩
 ·exact (ce l (λ_ _=>Apart3.symm) n u r).1
 ·have hz:pr i=false:=hz
  rw[k i x e hf] at hz;cases hz
 ·obtain ⟨p,hm,hf,t⟩:=h
  obtain ⟨_,a,L',v1,v2,_⟩:=(g p hm).own (by rw[hf];intro q;cases q)
  rw[t] at v1;cases v1
  exact ((g p hm).rep.inH b (by rw[v2];exact EW)).ex
def FinsOk (ρ:Sto) (i:Nat) (ps fs:List (D×Fl)):Prop:=fs.length=ps.length/\∀ (k:Nat) (p:D×Fl),ps[k]?=some p->∃ q,fs[k]?=some q/\(p.2=.z->q=p)/\(p.2≠.z->(ρ[i+k]?).join=some q/\(q.2=p.2\/q.2=.z))
theorem FinsOk.cons {i:Nat} {e d:D×Fl} {ps fs:List (D×Fl)} (h:FinsOk ρ (i+1) ps fs) (hz:e.2=.z->d=e) (g:e.2≠.z->(ρ[i]?).join=some d/\(d.2=e.2\/d.2=.z)):FinsOk ρ i (e::ps) (d::fs):=by
 refine ⟨by rw[Fu,Fu,h.1],λk p f=>?_⟩
 cases k with
 | zero=>cases f;exact ⟨d,rfl,hz,g⟩
 | succ k =>
  obtain ⟨q,a,b,c⟩:=h.2 k p f
  grind
theorem jQ:∀ {i:Nat} {ps:List (D×Fl)} {fs:List (D×Fl)},dC ρ i ps=some fs->FinsOk ρ i ps fs
 | i,[],fs,e=>by cases e;exact ⟨rfl,λk p h=>by cases h⟩
 | i,p0::ps,fs,e=>by
  obtain ⟨d,f⟩:=p0
  have key:f≠.z->(match (ρ[i]?).join,dC ρ (i+1) ps with
    | some (d',a),some r=>if a=f\/a=.z then some ((d',a)::r) else none
    | _,_=>none)=some fs->FinsOk ρ i ((d,f)::ps) fs:=λhf e=>by
   cases h:(ρ[i]?).join with
   | none=>rw[h] at e;exact nsE e
   | some p0 =>
    cases h2:dC ρ (i+1) ps with
    | none=>rw[h,h2] at e;exact nsE e
    | some r =>
     rw[h,h2] at e
     obtain ⟨d',a⟩:=p0
     dsimp only at e
     rcases Decidable.em (a=f\/a=.z) with b | b
     ·rw[if_pos b] at e
      cases e
      exact (jQ h2).cons (λz=>absurd z hf) λ_=>⟨h,b⟩
     ·rw[if_neg b] at e;exact nsE e
  cases f with
  | z =>
   obtain ⟨r,h,h'⟩:=E2.mp (show (dC ρ (i+1) ps).map (λr=>(d,Fl.z)::r)=some fs from e)
   subst h'
   exact (jQ h).cons (λ_=>rfl) λn=>absurd rfl n
  | u=>exact key (by intro q;cases q) e
  | l=>exact key (by intro q;cases q) e
theorem j9 {P:Nat->α->β->Prop}:∀ (l:List α) (i:Nat),(∀ (k:Nat) a,l[k]?=some a->∃ b,P (i+k) a b)->∃ m:List β,m.length=l.length/\∀ (k:Nat) a,l[k]?=some a->∃ b,m[k]?=some b/\P (i+k) a b
 | [],i,_=>⟨[],rfl,λk a h=>by simp at h⟩
 | a::l,i,h=>by
  obtain ⟨b,c⟩:=h 0 a rfl
  obtain ⟨m,h1,h2⟩:=j9 l (i+1) λk a e=>by
   have:=h (k+1) a (by simpa using e)
   rwa [show i+(k+1)=i+1+k by lia] at this
  refine ⟨b::m,by simp[h1],λk f e=>?_⟩
  cases k with
  | zero=>simp at e;subst e;exact ⟨b,rfl,c⟩
  | succ k =>
   obtain ⟨d,e1,g⟩:=h2 k f (by simpa using e)
   exact ⟨d,by simpa using e1,by rwa [show i+(k+1)=i+1+k by lia]⟩
theorem Paired.ofGet:∀ {l:List α} {m:List β},l.length=m.length->(∀ (k:Nat) a b,l[k]?=some a->m[k]?=some b->F a b)->Paired F l m
 | [],[],_,_=>.nil
 | [],_::_,h,_=>by cases h
 | _::_,[],h,_=>by cases h
 | a::l,b::m,h,f=>.cons (f 0 a b rfl rfl) (Paired.ofGet (by simpa using h) λk a b e1 c=>f (k+1) a b (by simpa using e1) (by simpa using c))
theorem kh {n:Nat} {pr:Nat->Bool} {σ0:St} {ps:List It3} {fs:List (D×Fl)} (F:∀ p∈ps,Arg K H p) (J:ps.Pairwise Apart3) (Q:∀ (i:Nat) (p:It3),ps[i]?=some p->p.f≠.z->pr i=true) (h0:∀ (i:Nat) (p:It3),ps[i]?=some p->σ0[i]?=some (some p.v))
  (w:Wf K (gOf H pr σ0 ps) H' σ ρ T g) (e:dC ρ 0 (ps.map λp=>(p.d,p.f))=some fs) :
  ∃ qs,BehindX K H H' ps qs/\qs.map (λq=>(q.d,q.f))=fs/\(∀ (k:Nat) (p q:It3),ps[k]?=some p->qs[k]?=some q->(p.f=.z/\q=p)\/(p.f≠.z/\g k=some q)):=by
 obtain ⟨hl,hs⟩:=jQ e
 rw[Fa] at hl
 have frame:∀ b o,H b=some o->(∀ p∈ps,p.f=.u->p.v≠.ref b)->H' b=some o:=λb o x V=>w.base b o x λ⟨p,hm,hf,t⟩=>V p hm hf t
 have there:∀ b o,H b=some o->∃ o',H' b=some o':=λb o x=>w.fx.ob b o x
 have E:∀ (k:Nat) (p:It3),ps[k]?=some p->p.f=.z->Rep K H' p.d p.v p.L:=λk p l hz=>by
  refine (F p (Fc l)).rep.keep (M:=λb=>∃ p∈ps,p.f=.u/\p.v=.ref b) (λb o x V=>frame b o x λp J hf t=>V ⟨p,J,hf,t⟩) (λb ⟨B,hm,hf,t⟩=>?_) λb x ⟨B,hm,hf,t⟩=>?_
  ·obtain ⟨_,a,L',v1,v2,_⟩:=(F B hm).own (by rw[hf];intro q;cases q)
   rw[t] at v1;cases v1
   exact (F B hm).rep.inH b (by rw[v2];exact EW)
  ·obtain ⟨j,N,I⟩:=List.mem_iff_getElem.mp hm
   have A:ps[j]?=some B:=by rw[E6 N,I]
   have jk:j≠k:=λz=>by subst z;rw[l] at A;cases A;rw[hz] at hf;cases hf
   exact (ce J (λ_ _=>Apart3.symm) jk A l).1 (by rw[hf];intro q;cases q) b t x
 have one:∀ (k:Nat) (p:It3),ps[k]?=some p->∃ q,(q.d,q.f)=(fs[k]?).getD (p.d,p.f)/\fs[k]?=some (q.d,q.f)/\Back1 K H H' ps p q/\((p.f=.z/\q=p)\/(p.f≠.z/\g k=some q)):=λk p l=>by
  have hm:=Fc l
  obtain ⟨Z,f1,f2,f3⟩:=hs k (p.d,p.f) (by rw[Ff,l];rfl)
  by_cases hz:p.f=.z
  ·have:=f2 hz
   subst this
   refine ⟨p,by rw[f1];rfl,f1,⟨λ_=>rfl,rfl,.inl rfl,⟨E k p l hz,λh=>absurd hz h⟩,λc U=>.inr ⟨p,hm,U⟩,λh=>?_⟩,.inl ⟨hz,rfl⟩⟩
   rw[hz] at h;cases h
  ·obtain ⟨h1,h2⟩:=f3 hz
   rw[xZ7] at h1
   obtain ⟨y,X,W,O,y4⟩:=w.slot (d:=Z.1) (f:=Z.2) h1
   have t:y.v=p.v:=by
    have:=w.pro k (Q k p l hz)
    rw[y4] at this
    have h0:some (some y.v)=some (some p.v):=this.trans (h0 k p l)
    injection h0 with h0
    injection h0
   have ok:=w.okS k y X
   refine ⟨y,by rw[f1,W,O];rfl,by rw[f1,W,O],⟨λh=>absurd h hz,t,by rw[O];exact h2,⟨ok.rep,λhf=>?_⟩,λc U=>ok.src c U,λhf b x=>?_⟩,.inr ⟨hz,X⟩⟩
   ·obtain ⟨m,a,L',v1,v2,v3,_⟩:=ok.own hf
    exact ⟨m,a,L',v1,v2,v3⟩
   ·obtain ⟨_,a,L',v1,v2,_⟩:=(F p hm).own hz
    rw[x] at v1;cases v1
    obtain ⟨o,ho⟩:=((F p hm).rep.inH b (by rw[v2];exact EW)).ex
    exact there b o ho
 obtain ⟨qs,hq,C⟩:=j9 (P:=λk p q=>fs[k]?=some (q.d,q.f)/\Back1 K H H' ps p q/\((p.f=.z/\q=p)\/(p.f≠.z/\g k=some q))) ps 0 λk p l=>by
  obtain ⟨q,_,a,b,c⟩:=one k p l
  exact ⟨q,by simpa using ⟨a,b,c⟩⟩
 have get:∀ (k:Nat) (p q:It3),ps[k]?=some p->qs[k]?=some q->fs[k]?=some (q.d,q.f)/\Back1 K H H' ps p q/\((p.f=.z/\q=p)\/(p.f≠.z/\g k=some q)):=λk p q s eq=>by
  obtain ⟨q',e1,e2⟩:=C k p s
  rw[eq] at e1
  cases e1
  simpa using e2
 have par:∀ (k:Nat) (q:It3),qs[k]?=some q->∃ p,ps[k]?=some p:=λk q e=>by
  have Y:=(Fb.mp e).1
  exact ⟨ps[k]'(by lia),by simp[show k < ps.length by lia]⟩
 refine ⟨qs,⟨frame,Paired.ofGet hq.symm λk p q s eq=>(get k p q s eq).2.1,?_⟩,?_,λk p q s eq=>(get k p q s eq).2.2⟩
 ·rw[List.pairwise_iff_getElem]
  intro k j Y N lt
  have l:qs[k]?=some qs[k]:=E6 Y
  have I:qs[j]?=some qs[j]:=E6 N
  have side:∀ (k j:Nat) (q r:It3),k≠j->qs[k]?=some q->qs[j]?=some r->NoRoot q r:=λk j q r n eq er=>by
   obtain ⟨p,s⟩:=par k q eq
   obtain ⟨B,G⟩:=par j r er
   obtain ⟨_,b,c⟩:=get k p q s eq
   obtain ⟨_,b',c'⟩:=get j B r G er
   rcases c with ⟨hz,e⟩ | ⟨hz,e⟩
   ·rw[e];exact λh=>absurd hz h
   ·rcases c' with ⟨R,S⟩ | ⟨R,S⟩
    ·rw[S]
     intro hf a ea
     exact (ce J (λ_ _=>Apart3.symm) n s G).1 hz a (by rw[<- b.v];exact ea)
    ·exact w.ss k j q r n e S
  exact ⟨side k j _ _ (Fi lt) l I,side j k _ _ (Nat.ne_of_gt lt) I l⟩
 ·refine List.ext_getElem? λk=>?_
  rw[Ff]
  cases eq:qs[k]? with
  | none =>
   have:qs.length<=k:=List.getElem?_eq_none_iff.mp eq
   rw[List.getElem?_eq_none (by lia)]
   rfl
  | some q =>
   obtain ⟨p,s⟩:=par k q eq
   rw[(get k p q s eq).1]
   rfl
theorem lZ {n:Nat} {pr:Nat->Bool} {σ0:St} {ps:List It3} {fs:List (D×Fl)} (l:∀ p∈ps,Arg K H p) (F:ps.Pairwise Apart3) (j:∀ (i:Nat) (p:It3),ps[i]?=some p->p.f≠.z->pr i=true) (h0:∀ (i:Nat) (p:It3),ps[i]?=some p->σ0[i]?=some (some p.v))
  (w:Wf K (gOf H pr σ0 ps) H' σ ρ (x::T) g) (e:dC ρ 0 (ps.map λp=>(p.d,p.f))=some fs):∃ qs,Behind K H H' ps qs x/\qs.map (λq=>(q.d,q.f))=fs:=by
 obtain ⟨qs,B,f,t⟩:=kh (n:=n) l F j h0 w e
 have ok:=w.okT x EW
 refine ⟨qs,⟨B,ok.rep,λhf=>?_,λc y=>ok.src c y,λq E=>?_⟩,f⟩
 ·obtain ⟨m,a,L',v1,v2,v3,_⟩:=ok.own hf
  exact ⟨m,a,L',v1,v2,v3,w.fx.frT x EW hf a v1⟩
 ·obtain ⟨k,u,C⟩:=List.mem_iff_getElem.mp E
  have eq:qs[k]?=some q:=by rw[E6 u,C]
  obtain ⟨p,r,b⟩:=Paired.exR B.back eq
  rcases t k p q r eq with ⟨hz,e⟩ | ⟨hz,e⟩
  ·rw[e]
   refine ⟨λhf a A hm=>?_,λh=>absurd hz h⟩
   have h1:=w.fx.frT x EW hf a A
   obtain ⟨o,s⟩:=((l p (Fc r)).rep.inH a hm).ex
   have h2:H a=none:=h1
   rw[h2] at s;exact nsE s
  ·exact (w.st k q e x EW).symm
end
end L3
end
section
namespace L3
open PySem L2
def bU:Fl->Fl
 | .u=>.l
 | f=>f
def bf (x:It3):It3:={ x with f:=bU x.f }
def eR:Fl->Fl
 | .l=>.u
 | f=>f
def zS (x:It3):It3:={ x with f:=eR x.f }
def jh (h:Fl->Fl) (i:Nat) (ρ:Sto):Sto:=match (ρ[i]?).join with
 | some (d,f)=>ρ.set i (some (d,h f))
 | none=>ρ
def aG (h:Fl->Fl) (is:List Nat) (ρ:Sto):Sto:=is.foldl (λρ i=>jh h i ρ) ρ
def us (ρ:Sto) (is:List Nat):List Nat:=is.filter λi=>match (ρ[i]?).join with
 | some (_,.u)=>true
 | _=>false
theorem lentF_z:bU f=.z ↔ f=.z:=by cases f <;> simp[bU]
theorem unlF_z:eR f=.z ↔ f=.z:=by cases f <;> simp[eR]
theorem tY (f:Fl):bU f≠.u:=by cases f <;> simp[bU]
theorem Cn (f:Fl):eR f≠.l:=by cases f <;> simp[eR]
section
variable {K:FG} {G G0:Gm} {W W0:D->Sto->Prop} {H H':Hp} {σ:St} {ρ ρ':Sto} {T T':List It3} {g:Nat->Option It3} {x y z:It3} {α β:Type}
theorem rM {i j:Nat}:((jh h i ρ)[j]?).join=if j=i then ((ρ[j]?).join).map (λp=>(p.1,h p.2)) else (ρ[j]?).join:=by
 unfold jh
 grind
theorem vq {i:Nat}:(jh h i ρ).length=ρ.length:=by
 unfold jh
 split
 ·rw[List.length_set]
 ·rfl
theorem ge (a:∀ f,h (h f)=h f):∀ {is:List Nat} {ρ:Sto} {j:Nat},((aG h is ρ)[j]?).join=if j∈is then ((ρ[j]?).join).map (λp=>(p.1,h p.2)) else (ρ[j]?).join
 | [],ρ,j=>by simp[aG]
 | i::is,ρ,j=>by
  have e:aG h (i::is) ρ=aG h is (jh h i ρ):=rfl
  rw[e,ge a,rM]
  by_cases q:j=i
  ·subst q
   by_cases m:j∈is
   ·rw[if_pos m,if_pos rfl,if_pos EW]
    cases (ρ[j]?).join with
    | none=>rfl
    | some p=>simp[a]
   ·rw[if_neg m,if_pos rfl,if_pos EW]
  ·by_cases m:j∈is
   ·rw[if_pos m,if_neg q,if_pos (EY _ m)]
   ·rw[if_neg m,if_neg q,if_neg (λz=>(E5.mp z).elim q m)]
theorem iQ:∀ {is:List Nat} {ρ:Sto},(aG h is ρ).length=ρ.length
 | [],ρ=>rfl
 | i::is,ρ=>by
  have e:aG h (i::is) ρ=aG h is (jh h i ρ):=rfl
  rw[e,iQ,vq]
def dL (G:Gm) (H:Hp) (g:Nat->Option It3) (is:List Nat):Gm :=
 ⟨H,λb=>∃ j y,j ∉ is/\g j=some y/\y.f=.u/\y.v=.ref b,G.pr,G.σ0,G.orig,λc=>G.H0 c=none\/G.src c,λj=>if j∈is then (g j).map (·.v) else G.lv j⟩
structure Fk (x y:It3):Prop where
 d:y.d=x.d
 v:y.v=x.v
 L:y.L=x.L
 z:y.f=.z ↔ x.f=.z
theorem Fk.noRoot (a:Fk x x') (b:Fk y y') (h:NoRoot x y):NoRoot x' y':=λhf c e=>by
 rw[b.L]
 exact h (λq=>hf (a.z.mpr q)) c (by rw[<- a.v];exact e)
theorem Fk.apart (a:Fk x x') (b:Fk y y') (h:Apart3 x y):Apart3 x' y':=⟨a.noRoot b h.1,b.noRoot a h.2⟩
theorem Fk.refl (x:It3):Fk x x:=⟨rfl,rfl,rfl,Iff.rfl⟩
theorem kM (x:It3):Fk x (bf x):=⟨rfl,rfl,rfl,lentF_z⟩
theorem Eu (x:It3):Fk x (zS x):=⟨rfl,rfl,rfl,unlF_z⟩
theorem qe {o:Option It3} {h:Fl->Fl} (e:o.map (λx=>(x.d,x.f))=p):(o.map λx=>{ x with f:=h x.f }).map (λx:It3=>(x.d,x.f))=p.map λp=>(p.1,h p.2):=by
 subst e
 cases o <;> rfl
theorem Wf.enter (w:Wf K G H σ ρ T g) (is:List Nat):Wf K (dL G H g is) H σ (aG bU is ρ) (T.map bf) (λj=>if j∈is then (g j).map bf else g j):=by
 have val:∀ j u,(if j∈is then (g j).map bf else g j)=some u->∃ l,g j=some l/\Fk l u/\((j∈is/\u=bf l)\/(j ∉ is/\u=l)):=λj u h=>by
  by_cases q:j∈is
  ·rw[if_pos q] at h
   obtain ⟨l,e1,t⟩:=E2.mp h
   subst t
   exact ⟨l,e1,kM l,.inl ⟨q,rfl⟩⟩
  ·rw[if_neg q] at h
   exact ⟨u,h,Fk.refl u,.inr ⟨q,rfl⟩⟩
 refine ⟨by rw[iQ];exact w.len,λj=>?_,λj u h=>?_,λj u h=>?_,λu hu=>?_,λi j a b n B p=>?_,λj a h b p=>?_,?_,λb o e _=>e,w.pro,⟨λu hu hf a s=>?_,λj u h C hf a s=>?_,λb p=>?_,w.fx.ob,λj u h hl=>?_⟩⟩
 ·rw[ge (by intro f;cases f <;> rfl)]
  by_cases q:j∈is
  ·rw[if_pos q,if_pos q];exact qe (w.sl j)
  ·rw[if_neg q,if_neg q];exact w.sl j
 ·obtain ⟨l,e,k,_⟩:=val j u h
  rw[k.v];exact w.sv j l e
 ·obtain ⟨l,e,k,c⟩:=val j u h
  have ok:=w.okS j l e
  refine ⟨by rw[k.d,k.v,k.L];exact ok.rep,λhf=>?_,λc r=>.inr (ok.src c (by rw[<- k.L];exact r))⟩
  obtain ⟨m,a,L',v1,v2,v3,_⟩:=ok.own (λq=>hf (k.z.mpr q))
  refine ⟨by rw[k.d];exact m,a,L',by rw[k.v];exact v1,by rw[k.L];exact v2,v3,λhu=>?_⟩
  rcases c with ⟨_,rfl⟩ | ⟨A,rfl⟩
  ·exact absurd hu (tY _)
  ·exact .inr ⟨j,u,A,e,hu,v1⟩
 ·obtain ⟨l,h0,rfl⟩:=Fe.mp hu
  have ok:=w.okT l h0
  refine ⟨ok.rep,λhf=>?_,λc r=>.inr (ok.src c r)⟩
  obtain ⟨m,a,L',v1,v2,v3,_⟩:=ok.own (λq=>hf (lentF_z.mpr q))
  exact ⟨m,a,L',v1,v2,v3,λhu=>absurd hu (tY _)⟩
 ·obtain ⟨a0,e1,k1,_⟩:=val i a B
  obtain ⟨b0,t,k2,_⟩:=val j b p
  exact k1.noRoot k2 (w.ss i j a0 b0 n e1 t)
 ·obtain ⟨a0,e1,k1,_⟩:=val j a h
  obtain ⟨b0,h0,rfl⟩:=Fe.mp p
  exact k1.apart (kM b0) (w.st j a0 e1 b0 h0)
 ·rw[List.pairwise_map]
  exact w.tt.imp λ{a b} h=>(kM a).apart (kM b) h
 ·obtain ⟨l,h0,rfl⟩:=Fe.mp hu
  exact w.fx.frT l h0 (λq=>hf (lentF_z.mpr q)) a s
 ·obtain ⟨l,e,k,_⟩:=val j u h
  exact w.fx.frS j l e C (λq=>hf (k.z.mpr q)) a (by rw[<- k.v];exact s)
 ·obtain ⟨j,y,_,e,hf,x⟩:=p
  obtain ⟨_,a,L',v1,v2,_⟩:=(w.okS j y e).own (by rw[hf];intro q;cases q)
  rw[x] at v1;cases v1
  exact ((w.okS j y e).rep.inH b (by rw[v2];exact EW)).ex
 ·obtain ⟨l,e,k,c⟩:=val j u h
  show (if j∈is then (g j).map (·.v) else G.lv j)=_
  rcases c with ⟨q,rfl⟩ | ⟨q,rfl⟩
  ·rw[if_pos q,e];rfl
  ·rw[if_neg q];exact w.fx.lvS j u e hl
theorem Wf.leave (w:Wf K G H σ ρ T g) (B:∀ i∈is,∀ y,g i=some y->y.f=.u) (I:T'.Sublist T) (p:Wf K (dL G H g is) H' σ' ρ2 (R++T'.map bf) g2) :
  Wf K G H' σ' (aG eR is ρ2) (R++T') (λj=>if j∈is then (g2 j).map zS else g2 j):=by
 have val:∀ j u,(if j∈is then (g2 j).map zS else g2 j)=some u->∃ r,g2 j=some r/\Fk r u/\((j∈is/\u=zS r)\/(j ∉ is/\u=r)):=λj u h=>by
  by_cases q:j∈is
  ·rw[if_pos q] at h
   obtain ⟨r,e1,E⟩:=E2.mp h
   subst E
   exact ⟨r,e1,Eu r,.inl ⟨q,rfl⟩⟩
  ·rw[if_neg q] at h
   exact ⟨u,h,Fk.refl u,.inr ⟨q,rfl⟩⟩
 have may:∀ a,H a=none\/(∃ j y,j ∉ is/\g j=some y/\y.f=.u/\y.v=.ref a)->G.H0 a=none\/G.bw a:=λa h=>by
  rcases h with h | ⟨j,y,_,e,hf,P⟩
  ·exact .inl (w.h0none h)
  ·obtain ⟨_,X,L',v1,_,_,v4⟩:=(w.okS j y e).own (by rw[hf];intro q;cases q)
   rw[P] at v1;cases v1
   exact v4 hf
 have t:∀ c,H c=none\/(G.H0 c=none\/G.src c)->G.H0 c=none\/G.src c:=λc h=>by
  rcases h with h | h
  ·exact .inl (w.h0none h)
  ·exact h
 have N:∀ x∈T',x∈T:=λx V=>I.subset V
 have F:∀ b o,H b=some o->∃ o',H' b=some o':=λb o s=>by
  by_cases q:∃ j y,j ∉ is/\g j=some y/\y.f=.u/\y.v=.ref b
  ·exact p.fx.bin b q
  ·exact ⟨o,p.base b o s q⟩
 refine ⟨by rw[iQ];exact p.len,λj=>?_,λj u h=>?_,λj u h=>?_,λu hu=>?_,λi j a b n C s=>?_,λj a h b s=>?_,?_,λb o e n=>?_,p.pro,⟨λu hu=>?_,λj u h W hf a S=>?_,λb s=>?_,p.fx.ob,λj u h hl=>?_⟩⟩
 ·rw[ge (by intro f;cases f <;> rfl)]
  by_cases q:j∈is
  ·rw[if_pos q,if_pos q];exact qe (p.sl j)
  ·rw[if_neg q,if_neg q];exact p.sl j
 ·obtain ⟨r,e,k,_⟩:=val j u h
  rw[k.v];exact p.sv j r e
 ·obtain ⟨r,e,k,c⟩:=val j u h
  have ok:=p.okS j r e
  refine ⟨by rw[k.d,k.v,k.L];exact ok.rep,λhf=>?_,λc D=>t c (ok.src c (by rw[<- k.L];exact D))⟩
  obtain ⟨m,a,L',v1,v2,v3,v4⟩:=ok.own (λq=>hf (k.z.mpr q))
  refine ⟨by rw[k.d];exact m,a,L',by rw[k.v];exact v1,by rw[k.L];exact v2,v3,λhu=>?_⟩
  rcases c with ⟨q,rfl⟩ | ⟨Y,rfl⟩
  ·cases A:r.f with
   | u=>exact may a (v4 A)
   | l =>
    have hl:=p.fx.lvS j r e A
    have hl:(if j∈is then (g j).map (·.v) else G.lv j)=some r.v:=hl
    rw[if_pos q] at hl
    obtain ⟨y,J,ev⟩:=E2.mp hl
    have M:=B j q y J
    obtain ⟨_,X,O,b1,_,_,U⟩:=(w.okS j y J).own (by rw[M];intro q;cases q)
    rw[ev,v1] at b1;cases b1
    exact U M
   | z=>exact absurd (unlF_z.mpr A) hf
  ·exact may a (v4 hu)
 ·rcases E8.mp hu with hu | hu
  ·have ok:=p.okT u (E3 _ hu)
   refine ⟨ok.rep,λhf=>?_,λc D=>t c (ok.src c D)⟩
   obtain ⟨m,a,L',v1,v2,v3,v4⟩:=ok.own hf
   exact ⟨m,a,L',v1,v2,v3,λh=>may a (v4 h)⟩
  ·have ok:=w.okT u (N u hu)
   exact ⟨(p.okT (bf u) (E4 _ (Fe.mpr ⟨u,hu,rfl⟩))).rep,ok.own,ok.src⟩
 ·obtain ⟨a0,e1,k1,_⟩:=val i a C
  obtain ⟨b0,E,k2,_⟩:=val j b s
  exact k1.noRoot k2 (p.ss i j a0 b0 n e1 E)
 ·obtain ⟨a0,e1,k1,_⟩:=val j a h
  rcases E8.mp s with s | s
  ·exact k1.apart (Fk.refl b) (p.st j a0 e1 b (E3 _ s))
  ·have:=p.st j a0 e1 (bf b) (E4 _ (Fe.mpr ⟨b,s,rfl⟩))
   exact k1.apart (y:=bf b) ⟨rfl,rfl,rfl,lentF_z.symm⟩ this
 ·have h:=List.pairwise_append.mp p.tt
  refine List.pairwise_append.mpr ⟨h.1,w.tt.sublist I,λa C b s=>?_⟩
  exact (Fk.refl a).apart (y:=bf b) ⟨rfl,rfl,rfl,lentF_z.symm⟩ (h.2.2 a C (bf b) (Fe.mpr ⟨b,s,rfl⟩))
 ·have s:=w.base b o e n
  refine p.base b o s λq=>?_
  rcases may b (.inr q) with h | h
  ·rw[e] at h;cases h
  ·exact n h
 ·rcases E8.mp hu with hu | hu
  ·exact p.fx.frT u (E3 _ hu)
  ·exact w.fx.frT u (N u hu)
 ·obtain ⟨r,e,k,_⟩:=val j u h
  exact p.fx.frS j r e W (λq=>hf (k.z.mpr q)) a (by rw[<- k.v];exact S)
 ·obtain ⟨o,Q⟩:=w.fx.bin b s
  exact F b o Q
 ·obtain ⟨r,e,k,c⟩:=val j u h
  rcases c with ⟨q,rfl⟩ | ⟨q,rfl⟩
  ·exact absurd hl (Cn _)
  ·have:=p.fx.lvS j u e hl
   have this:(if j∈is then (g j).map (·.v) else G.lv j)=some u.v:=this
   rw[if_neg q] at this
   exact this
theorem Bb (w:Wf K G H σ ρ T g) (a:∀ i∈is,∀ y,g i=some y->y.f=.u):∀ (H':Hp) (σ':St) (ρ2:Sto) (b:List It3) (g2:Nat->Option It3),Wf K (dL G H g is) H' σ' ρ2 b g2->∃ g3,Wf K G H' σ' (aG eR is ρ2) [] g3 :=
 λH' σ' ρ2 b g2 c=>⟨_,by simpa using Wf.leave (T':=[]) (R:=[]) w a (List.nil_sublist T) (by simpa using c.sub (List.nil_sublist b))⟩
end
end L3
end
section
namespace L3
open PySem L2
section
variable {K:FG} {G G0:Gm} {W W0:D->Sto->Prop} {H H':Hp} {σ:St} {ρ ρ':Sto} {T T':List It3} {g:Nat->Option It3} {x y z:It3} {α β:Type}
def Walk (K:FG) (J:It) (H1:Hp) (ys:List It3) (ds:List D):Prop:=∃ els:List It3,(∀ x∈els,x.f=.z/\Rep K H1 x.d x.v x.L/\∀ c∈x.L,dq ys c) /\
 ∀ (M:Addr->Prop) (H':Hp),(∀ b,M b->MutAt H1 b)->(∀ b o,H1 b=some o->¬ M b->H' b=some o)->(∀ y∈ys,∀ b∈y.L,¬ M b) ->
  (∀ (i:Nat) (d:D),ds[i]?=some d->J.go i H'/\∀ x a,J.yld i H' x a->∃ w,New K H' a (cI els) w/\w.d=d/\w.f=.z/\w.v=x)/\J.stop ds.length H'
abbrev IM:=M3 (List R3×List D)
def EndI (K:FG) (G:Gm) (W:D->Sto->Prop) (σ:St) (T:List It3) (ρ':Sto) (R:It->Hp->Prop):Except D (List R3×List D)->Prop
 | .ok p=>∀ J H1 vs Ts g1 ys,Wf K G H1 σ ρ' (Ts++T) g1->Ars σ p.1 vs Ts->(∀ y∈ys,(∃ i,i∈pls p.1/\g1 i=some y)\/y∈Ts)->Walk K J H1 ys p.2->R J H1
 | .error e=>W e ρ'
def tI (K:FG) (G0:Gm) (W0:D->Sto->Prop) (m:IM):TI:=λσ H R=>∃ G W,Le K G W G0 W0/\∃ ρ T g r ρ',Wf K G H σ ρ T g/\m ρ=some (r,ρ')/\EndI K G W σ T ρ' R r
theorem tI.seq (le:Le K G W G0 W0) (w:Wf K G H σ ρ T g) (e:af m k ρ=some (r,ρ')) (he:∀ x,r=.error x->W x ρ') (h:∀ p ρ1,k p ρ1=some (r,ρ')->EndI K G W σ T ρ1 P (.ok p)):tI K G0 W0 m σ H P:=by
 unfold af at e
 cases q:m ρ with
 | none=>rw[q] at e;exact nsE e
 | some p =>
  obtain ⟨o,ρ1⟩:=p
  rw[q] at e
  cases o with
  | error x=>cases e;exact ⟨G,W,le,ρ,T,g,.error x,ρ',w,q,he x rfl⟩
  | ok ra=>exact ⟨G,W,le,ρ,T,g,.ok ra,ρ1,w,q,h ra ρ1 e⟩
def Bnd (K:FG) (pr:Nat->Bool) (tg:TG) (bnd:D->Sto->Option Sto):Prop:=∀ (G:Gm) (H:Hp) (σ:St) (ρ ρ1:Sto) (T:List It3) (g:Nat->Option It3) (w:It3) (Q:St->Hp->Prop),G.pr=pr->w.f=.z->Wf K G H σ ρ (w::T) g->bnd w.d ρ=some ρ1 ->
 (∀ σ2 g2,Wf K G H σ2 ρ1 T g2->Q σ2 H)->tg w.v σ H Q
def av (i:Nat) (d:D) (ρ:Sto):Option Sto:=if i < ρ.length then some (ρ.set i (some (d,.z))) else none
set_option tactic.hygienic true in
theorem jw {i:Nat} (b:pr i=false):Bnd K pr (ue i) (av i):=λG H σ ρ ρ1 T g w Q a hz wf e q=>by
 unfold av at e
 split at e
 ·rename_i hi
  cases e
  exact q _ _ (wf.store (f:=.z) hi (by rw[a];exact b) (.inr rfl) (by intro h;cases h))
 ·exact nsE e
def zO (K:FG) (pr:Nat->Bool) (tg:TGs) (bnd:List D->Sto->Option Sto):Prop:=∀ (G:Gm) (H:Hp) (σ:St) (ρ ρ1:Sto) (T:List It3) (g:Nat->Option It3) (ws:List It3) (Q:St->Hp->Prop),G.pr=pr->(∀ w∈ws,w.f=.z)->Wf K G H σ ρ (ws++T) g->bnd (ws.map (·.d)) ρ=some ρ1 ->
 (∀ σ2 g2,Wf K G H σ2 ρ1 T g2->Q σ2 H)->tg (ws.map (·.v)) σ H Q
def iW:List D->Sto->Option Sto
 | [],ρ=>some ρ
 | _,_=>none
def bM (b:D->Sto->Option Sto) (bs:List D->Sto->Option Sto):List D->Sto->Option Sto
 | [],_=>none
 | d::ds,ρ=>match b d ρ with
  | some ρ1=>bs ds ρ1
  | none=>none
theorem qL:zO K pr gNil iW:=λG H σ ρ ρ1 T g ws Q _ _ wf e q=>by
 cases ws with
 | nil=>cases e;exact ⟨rfl,q _ _ wf⟩
 | cons w ws=>exact nsE e
theorem jX (h1:Bnd K pr tg b) (h2:zO K pr tgs bs):zO K pr (Cd tg tgs) (bM b bs):=λG H σ ρ ρ1 T g ws Q a hz wf e q=>by
 cases ws with
 | nil=>exact nsE e
 | cons w ws =>
  have e:(match b w.d ρ with | some ρ1=>bs (ws.map (·.d)) ρ1 | none=>none)=some ρ1:=e
  cases c:b w.d ρ with
  | none=>rw[c] at e;exact nsE e
  | some ρ2 =>
   rw[c] at e
   exact ⟨w.v,ws.map (·.v),rfl,h1 G H σ ρ ρ2 (ws++T) g w _ a (hz w EW) wf c λσ2 g2 f=>h2 G H σ2 ρ2 ρ1 T g2 ws Q a (λx h=>hz x (EY _ h)) f e q⟩
def iV (n:Nat) (bs:List D->Sto->Option Sto):D->Sto->Option Sto
 | .tup ds,ρ=>if ds.length=n then bs ds ρ else none
 | _,_=>none
theorem Reps.split:∀ {ds:List D} {vs:List V} {L:List Addr},Reps (Rep K H) ds vs L->∃ ws:List It3,ws.map (·.d)=ds/\ws.map (·.v)=vs/\(∀ w∈ws,w.f=.z/\Rep K H w.d w.v w.L/\∀ c∈w.L,c∈L)
 | _,_,_,.nil=>⟨[],rfl,rfl,λ_ h=>(by cases h)⟩
 | _,_,_,.cons (d:=d) (v:=v) (L:=L) r rs=>by
  obtain ⟨ws,h1,h2,h3⟩:=Reps.split rs
  refine ⟨⟨d,v,L,.z⟩::ws,by simp[h1],by simp[h2],λw hw=>?_⟩
  rcases E5.mp hw with h | h
  ·subst h;exact ⟨rfl,r,λc a=>E3 _ a⟩
  ·exact ⟨(h3 w h).1,(h3 w h).2.1,λc a=>E4 _ ((h3 w h).2.2 c a)⟩
theorem Wf.pushAll:∀ {ws:List It3} {T:List It3},Wf K G H σ ρ T g->(∀ w∈ws,w.f=.z/\Rep K H w.d w.v w.L/\∀ c∈w.L,dD T g c/\(G.H0 c=none\/G.src c))->Wf K G H σ ρ (ws++T) g
 | [],T,w,_=>w
 | x::ws,T,w,h=>by
  have i:=Wf.pushAll (ws:=ws) w λy b=>h y (EY _ b)
  obtain ⟨hz,e,a⟩:=h x EW
  refine i.push (Ks:=λc=>c∈x.L) ⟨Same.refl _,e,λc h=>.inr h,λq=>absurd hz q⟩ λc m=>⟨⟨(a c m).1.1,λy b hf=>?_⟩,(a c m).2⟩
  rcases E8.mp b with q | q
  ·exact absurd (h y (EY _ q)).1 hf
  ·exact (a c m).1.2 y q hf
set_option tactic.hygienic true in
theorem uw {n:Nat} (h2:zO K pr tgs bs):Bnd K pr (gTup K n tgs) (iV n bs):=λG H σ ρ ρ1 T g w Q j hz wf e q=>by
 have r:=(wf.okT w EW).rep
 obtain ⟨d,v,L,f⟩:=w
 cases r with
 | @tup xs a vs _ hs rs =>
  have e:(if xs.length=n then bs xs ρ else none)=some ρ1:=e
  split at e
  ·rename_i hl
   obtain ⟨ws,h1,h3,h⟩:=Reps.split rs
   refine ⟨a,vs,rfl,SqT.of hs,?_,?_⟩
   ·rw[<- h3,Fa,<- hl,<- h1,Fa]
   ·have l:Wf K G H σ ρ (ws++(⟨.tup xs,.ref a,L,f⟩::T)) g:=wf.pushAll λu hu=>⟨(h u hu).1,(h u hu).2.1,λc k=>⟨wf.kid (y:=⟨.tup xs,.ref a,L,f⟩) (.inr EW) ((h u hu).2.2 c k) λhf=>absurd hz hf,(wf.okT _ EW).src c ((h u hu).2.2 c k)⟩⟩
    have m:Wf K G H σ ρ (ws++T) g:=l.sub ((List.Sublist.refl ws).append (List.sublist_cons_self _ _))
    rw[<- h3]
    exact h2 G H σ ρ ρ1 T g ws Q j (λu hu=>(h u hu).1) m (by rw[h1];exact e) q
  ·exact nsE e
 | non=>exact nsE e
 | bl b=>exact nsE e
 | int i=>exact nsE e
 | str s=>exact nsE e
 | lst _ _=>exact nsE e
 | lstF _ _=>exact nsE e
 | dK _ _ _=>exact nsE e
 | dT _ _ _=>exact nsE e
 | exc _ _=>exact nsE e
 | excV _ _ _ _ _ _ _ _=>exact nsE e
noncomputable def df (bnd:D->Sto->Option Sto) (b:SM):List D->SM
 | []=>aQ .nx
 | d::ds=>λρ=>match bnd d ρ with
  | none=>none
  | some ρ1=>af b (λf=>match f with
   | .nx=>df bnd b ds
   | .ct=>df bnd b ds
   | .br=>aQ .nx
   | .rt d f=>aQ (.rt d f)) ρ1
noncomputable def cY (im:IM) (bnd:D->Sto->Option Sto) (b:SM):SM:=af im λp=>λρ=>(df bnd b p.2 (aG bU (us ρ (pls p.1)) ρ)).map λr=>(r.1,aG eR (us ρ (pls p.1)) r.2)
theorem us_u (w:Wf K G H σ ρ T g):∀ i∈us ρ is,∀ y,g i=some y->y.f=.u:=λi hi y a=>by
 have h:=(FC.mp hi).2
 have s:=w.sl i
 rw[a] at s
 have s:some (y.d,y.f)=(ρ[i]?).join:=s
 rw[<- s] at h
 cases hf:y.f with
 | u=>rfl
 | l=>rw[hf] at h;cases h
 | z=>rw[hf] at h;cases h
theorem wu {i:Nat} (w:Wf K G H σ ρ T g) (hi:i∈is) (a:g i=some y) (hf:y.f=.u):i∈us ρ is:=by
 refine FC.mpr ⟨hi,?_⟩
 have s:=w.sl i
 rw[a] at s
 have s:some (y.d,y.f)=(ρ[i]?).join:=s
 rw[<- s,hf]
theorem CC (V:Bnd K G0.pr tg bnd) (h:tS K G0 W0 (cY im bnd b) E σ H):tFor (tI K G0 W0 im) tg (tS K G0 W0 b) E σ H:=by
 refine h.use λG W le ρ T g r ρ' w e q=>?_
 refine tI.seq le w e q.err λp ρ1 e1=>?_
 intro J H1 vs Ts g1 ys A a1 ar hw
 have Q:=us_u (is:=pls p.1) A
 have ae:∀ i y,i∈pls p.1->g1 i=some y->y.f=.u->i∈us ρ1 (pls p.1):=λi y hi ey hf=>wu A hi ey hf
 generalize us ρ1 (pls p.1)=is at e1 Q ae
 have w2:=A.enter is
 obtain ⟨els,n,walk⟩:=hw
 have hM:∀ b,(∃ j y,j ∉ is/\g1 j=some y/\y.f=.u/\y.v=.ref b)->MutAt H1 b:=λb ⟨j,y,_,ey,hf,D⟩=>by
  obtain ⟨_,a,L',v1,v2,_⟩:=(A.okS j y ey).own (by rw[hf];intro q;cases q)
  rw[D] at v1;cases v1
  exact (A.okS j y ey).rep.inH b (by rw[v2];exact EW)
 have Y:∀ y∈ys,∀ b∈y.L,¬ ∃ j y,j ∉ is/\g1 j=some y/\y.f=.u/\y.v=.ref b:=λy t b V ⟨j,y',nj,B,hf,D⟩=>by
  have X:y'.f≠.z:=by rw[hf];intro q;cases q
  rcases ar y t with ⟨i,hi,ei⟩ | t
  ·by_cases ij:i=j
   ·subst ij
    rw[ei] at B;cases B
    exact nj (ae i y hi ei hf)
   ·exact A.ss j i y' y (Ne.symm ij) B ei X b D V
  ·exact (A.st j y' B y (E3 _ t)).1 X b D V
 have Z:∀ y∈ys,Itm (Ts++T) g1 y:=λy t=>by
  rcases ar y t with ⟨i,_,ei⟩ | h
  ·exact .inl ⟨i,ei⟩
  ·exact .inr (E3 _ h)
 have kid:∀ x∈els,∀ c∈x.L,dD ((Ts++T).map bf) (λj=>if j∈is then (g1 j).map bf else g1 j) c/\(H1 c=none\/(G.H0 c=none\/G.src c)):=λx hx c hc=>by
  obtain ⟨nr,sr⟩:=A.kids Z ((n x hx).2.2 c hc)
  refine ⟨⟨λi z U hf D=>?_,λz hz hf D=>?_⟩,.inr sr⟩
  ·have U:(if i∈is then (g1 i).map bf else g1 i)=some z:=U
   by_cases q:i∈is
   ·rw[if_pos q] at U
    obtain ⟨z0,e0,e1⟩:=E2.mp U
    subst e1
    exact nr.1 i z0 e0 (λq=>hf (lentF_z.mpr q)) D
   ·rw[if_neg q] at U
    exact nr.1 i z U hf D
  ·obtain ⟨z0,h0,rfl⟩:=Fe.mp hz
   exact nr.2 z0 h0 (λq=>hf (lentF_z.mpr q)) D
 have w3:Wf K (dL G H1 g1 is) H1 σ (aG bU is ρ1) (els++(Ts++T).map bf) (λj=>if j∈is then (g1 j).map bf else g1 j):=w2.pushAll λx hx=>⟨(n x hx).1,(n x hx).2.1,λc hc=>kid x hx c hc⟩
 cases e2:df bnd b p.2 (aG bU is ρ1) with
 | none=>rw[e2] at e1;exact nsE e1
 | some rr =>
  obtain ⟨r2,ρ3⟩:=rr
  rw[e2] at e1
  have er:r2=r/\aG eR is ρ3=ρ':=by cases e1;exact ⟨rfl,rfl⟩
  obtain ⟨rfl,eρ⟩:=er
  have leave:∀ {σ':St} {H':Hp} {ρ2:Sto} {g2:Nat->Option It3} {R:List It3},Wf K (dL G H1 g1 is) H' σ' ρ2 (R++(els++(Ts++T).map bf)) g2->∃ g3,Wf K G H' σ' (aG eR is ρ2) (R++T) g3:=λ{σ' H' ρ2 g2 R} F =>
   ⟨_,Wf.leave (T:=Ts++T) (T':=T) (R:=R) A Q (Fd Ts T) (F.sub ((List.Sublist.refl R).append (by
    rw[List.map_append]
    exact (Fd (Ts.map bf) (T.map bf)).trans (Fd els _))))⟩
  have ax:Le K (dL G H1 g1 is) (λe ρ2=>W e (aG eR is ρ2)) G W:=⟨rfl,λH' σ' ρ2 T2 g2 e F he=>by
   obtain ⟨g3,w5⟩:=Bb A Q H' σ' ρ2 T2 g2 F
   exact ⟨_,[],g3,w5,he⟩⟩
  have s:Le K (dL G H1 g1 is) (λe ρ2=>W e (aG eR is ρ2)) G0 W0:=ax.trans le
  refine ⟨λk m σ' H'=>k<=p.2.length/\m=p.2.length - k/\∃ ρ2 g2,Wf K (dL G H1 g1 is) H' σ' ρ2 (els++(Ts++T).map bf) g2/\df bnd b (p.2.drop k) ρ2=some (r2,ρ3),⟨_,Nat.zero_le _,rfl,_,_,w3,e2⟩,?_⟩
  rintro k m σ' H' ⟨hk,rfl,ρ2,g2,F,e4⟩
  obtain ⟨az,O⟩:=walk _ H' hM (λb o V hn=>F.base b o V hn) Y
  by_cases C:k < p.2.length
  ·obtain ⟨d,hd⟩:∃ d,p.2[k]?=some d:=⟨_,E6 C⟩
   have P:p.2.drop k=d::p.2.drop (k+1):=by
    rw[List.drop_eq_getElem_cons C]
    rw[E6 C] at hd
    cases hd;rfl
   rw[P] at e4
   obtain ⟨go,yld⟩:=az k d hd
   refine .inr ⟨go,λσ5 H5=>∃ ρ5 g5,Wf K (dL G H1 g1 is) H5 σ5 ρ5 (els++(Ts++T).map bf) g5/\df bnd b (p.2.drop (k+1)) ρ5=some (r2,ρ3),λσ5 H5 ⟨ρ5,g5,w5,l⟩=>⟨p.2.length - (k+1),by lia,C,rfl,ρ5,g5,w5,l⟩,λx N t=>?_⟩
   obtain ⟨u,nu,ud,uf,uv⟩:=yld x N t
   have w5:Wf K (dL G H1 g1 is) N σ' ρ2 (u::(els++(Ts++T).map bf)) g2:=F.push nu λc hc=>F.alls (ys:=els) (λy t=>⟨.inr (E3 _ t),(n y t).1⟩) hc
   have l:(match bnd d ρ2 with
    | none=>none
    | some ρ1=>af b (λf=>match f with
     | .nx=>df bnd b (p.2.drop (k+1))
     | .ct=>df bnd b (p.2.drop (k+1))
     | .br=>aQ .nx
     | .rt d f=>aQ (.rt d f)) ρ1)=some (r2,ρ3):=e4
   cases e6:bnd d ρ2 with
   | none=>rw[e6] at l;exact nsE l
   | some ρ6 =>
    rw[e6] at l
    dsimp only at l
    rw[<- uv]
    refine V (dL G H1 g1 is) N σ' ρ2 ρ6 _ g2 u _ le.pr uf w5 (by rw[ud];exact e6) λσ6 g6 w6=>?_
    unfold af at l
    cases M:b ρ6 with
    | none=>rw[M] at l;exact nsE l
    | some pr7 =>
     obtain ⟨o7,ρ7⟩:=pr7
     rw[M] at l
     cases o7 with
     | error er =>
      cases l
      refine tS.mk (r:=.error er) s w6 M ?_
      show W er (aG eR is _)
      rw[eρ];exact q
     | ok f =>
      cases f with
      | nx=>exact tS.mk (r:=.ok .nx) s w6 M λσ8 H8 g8 S=>⟨ρ7,g8,S,l⟩
      | ct=>exact tS.mk (r:=.ok .ct) s w6 M λσ8 H8 g8 S=>⟨ρ7,g8,S,l⟩
      | br =>
       cases l
       refine tS.mk (r:=.ok .br) s w6 M λσ8 H8 g8 S=>?_
       obtain ⟨g9,I⟩:=leave (R:=[]) S
       rw[eρ] at I
       exact q _ _ _ I
      | rt d' f' =>
       cases l
       refine tS.mk (r:=.ok (.rt d' f')) s w6 M λx8 σ8 H8 g8 S x1 x2=>?_
       obtain ⟨g9,I⟩:=leave (R:=[x8]) S
       rw[eρ] at I
       exact q x8 _ _ _ I x1 x2
  ·have ek:k=p.2.length:=by lia
   subst ek
   rw[List.drop_length] at e4
   cases e4
   obtain ⟨g9,I⟩:=leave (R:=[]) F
   rw[eρ] at I
   exact .inl ⟨O,q _ _ _ I⟩
end
end L3
end
section
namespace L3
open PySem L2
def qH (ix:List (Option Nat)) (ρ:Sto):Sto:=ix.map λo=>match o with
 | some i=>(ρ[i]?).join
 | none=>none
def uncap:List (Option Nat)->Sto->Sto->Option Sto
 | [],_,ρ=>some ρ
 | none::ix,τ,ρ=>uncap ix τ.tail ρ
 | some i::ix,τ,ρ=>match (ρ[i]?).join,τ.head? with
  | some (_,f),some (some (d',f'))=>if f'=f\/f'=.z then uncap ix τ.tail (ρ.set i (some (d',f'))) else none
  | _,_=>none
noncomputable def bL (bnd:D->Sto->Option Sto) (c:M3 Bool) (elt:EM):List D->M3 (List D)
 | []=>aQ []
 | d::ds=>λτ=>match bnd d τ with
  | none=>none
  | some τ1=>af c (λb=>if b then af elt (λr=>af (cX r) λp=>af (bL bnd c elt ds) λl=>aQ (p.1::l)) else bL bnd c elt ds) τ1
def cy (im:IM) (bnd:D->Sto->Option Sto) (c:M3 Bool) (elt:EM) (ix:List (Option Nat)):EM:=af im λp=>λρ =>
 match bL bnd c elt p.2 (qH ix (aG bU (us ρ (pls p.1)) ρ)) with
 | some (.ok ds,τ)=>if p.2.length < 16777216 then (uncap ix τ (aG bU (us ρ (pls p.1)) ρ)).map λρ2=>(.ok (.val (.lst ds) .u),aG eR (us ρ (pls p.1)) ρ2) else none
 | _=>none
section
variable {K:FG} {G G0:Gm} {W W0:D->Sto->Prop} {H H':Hp} {σ τ:St} {ρ ρ':Sto} {T T':List It3} {g:Nat->Option It3} {x y z:It3} {α β:Type} {ix:List (Option Nat)}
def Inj (ix:List (Option Nat)):Prop:=∀ (j k i:Nat),ix[j]?=some (some i)->ix[k]?=some (some i)->j=k
def Bp (ix:List (Option Nat)) (g:Nat->Option It3) (j:Nat):Option It3:=(ix[j]?).join.bind g
def rF (ix:List (Option Nat)) (n:Nat) (g:Nat->Option It3):List It3:=(List.range n).filterMap λi=>if some i∈ix then none else g i
def zk (G:Gm) (ix:List (Option Nat)) (σ:St):Gm:=⟨G.H0,G.bw,λj=>((ix[j]?).join).isSome,cap ix σ,λ_=>none,G.src,λj=>(ix[j]?).join.bind G.lv⟩
theorem dF {j:Nat} (h:Bp ix g j=some x):∃ i,ix[j]?=some (some i)/\g i=some x:=by
 unfold Bp at h
 cases e:ix[j]? with
 | none=>rw[e] at h;exact nsE h
 | some o =>
  rw[e] at h
  cases o with
  | none=>exact nsE h
  | some i=>exact ⟨i,rfl,h⟩
set_option tactic.hygienic true in
theorem lB {n:Nat} (h:x∈rF ix n g):∃ i,some i ∉ ix/\g i=some x:=by
 obtain ⟨i,_,e⟩:=List.mem_filterMap.mp h
 split at e
 ·exact nsE e
 ·rename_i a;exact ⟨i,a,e⟩
theorem xP {n i:Nat} (hi:i < n) (a:some i ∉ ix) (e:g i=some x):x∈rF ix n g:=List.mem_filterMap.mpr ⟨i,List.mem_range.mpr hi,by rw[if_neg a];exact e⟩
theorem Wf.cap (w:Wf K G H σ ρ T g) (r:Inj ix):Wf K (zk G ix σ) H (cap ix σ) (qH ix ρ) (rF ix ρ.length g++T) (Bp ix g):=by
 have ne:∀ {i j:Nat},ix[j]?=some (some i)->∀ k,some k ∉ ix->i≠k:=λe k l q=>l (by rw[<- q];exact Fc e)
 refine ⟨by unfold L2.cap qH;rw[Fa,Fa],λj=>?_,λj x h=>?_,λj x h=>?_,λx s=>?_,λj k x y n s m=>?_,λj x h y m=>?_,?_,w.base,λ_ _=>rfl,⟨λ_ _ _ _ _=>rfl,λ_ _ _ _ _ _ _=>rfl,w.fx.bin,λb o e=>(by cases e),λj x h hl=>?_⟩⟩
 ·unfold Bp qH
  rw[Ff]
  cases e:ix[j]? with
  | none=>rfl
  | some o =>
   cases o with
   | none=>rfl
   | some i=>exact w.sl i
 ·obtain ⟨i,e1,c⟩:=dF h
  unfold L2.cap
  rw[Ff,e1]
  show some ((σ[i]?).getD none)=_
  rw[w.sv i x c];rfl
 ·obtain ⟨i,_,c⟩:=dF h
  have ok:=w.okS i x c
  exact ⟨ok.rep,ok.own,ok.src⟩
 ·rcases E8.mp s with h | h
  ·obtain ⟨i,_,e⟩:=lB h
   have ok:=w.okS i x e
   exact ⟨ok.rep,ok.own,ok.src⟩
  ·have ok:=w.okT x h
   exact ⟨ok.rep,ok.own,ok.src⟩
 ·obtain ⟨i,e1,c⟩:=dF s
  obtain ⟨u,v,z⟩:=dF m
  exact w.ss i u x y (λq=>n (r j k i e1 (q ▸ v))) c z
 ·obtain ⟨i,e1,c⟩:=dF h
  rcases E8.mp m with q | q
  ·obtain ⟨k,l,e⟩:=lB q
   have:=ne e1 k l
   exact ⟨w.ss i k x y this c e,w.ss k i y x (Ne.symm this) e c⟩
  ·exact w.st i x c y q
 ·refine List.pairwise_append.mpr ⟨?_,w.tt,λa t b p=>?_⟩
  ·unfold rF
   rw[List.pairwise_filterMap]
   refine List.pairwise_lt_range.imp λ{i k} lt a t b p=>?_
   have d:(if some i∈ix then none else g i)=some a:=t
   have f:(if some k∈ix then none else g k)=some b:=p
   split at d
   ·cases d
   ·split at f
    ·cases f
    ·exact ⟨w.ss i k a b (Fi lt) d f,w.ss k i b a (Nat.ne_of_gt lt) f d⟩
  ·obtain ⟨k,l,e⟩:=lB t
   exact w.st k a e b p
 ·obtain ⟨i,e1,c⟩:=dF h
  show (ix[j]?).join.bind G.lv=_
  rw[e1]
  exact w.fx.lvS i x c hl
theorem Wf.perm (w:Wf K G H σ ρ T g) (p:T.Perm T'):Wf K G H σ ρ T' g :=
 ⟨w.len,w.sl,w.sv,w.okS,λx a=>w.okT x (p.mem_iff.mpr a),w.ss,λi x e y b=>w.st i x e y (p.mem_iff.mpr b),(p.pairwise_iff λh=>Apart3.symm h).mp w.tt,w.base,w.pro,w.fx.sub λx a=>p.mem_iff.mpr a⟩
set_option tactic.hygienic true in
theorem iE:∀ {ix:List (Option Nat)} {τ ρ ρ2:Sto},uncap ix τ ρ=some ρ2->Inj ix->ρ2.length=ρ.length/\(∀ i,some i ∉ ix->(ρ2[i]?).join=(ρ[i]?).join) /\
  ∀ (j i:Nat),ix[j]?=some (some i)->∃ p q,(ρ[i]?).join=some p/\(τ[j]?).join=some q/\(ρ2[i]?).join=some q/\(q.2=p.2\/q.2=.z)
 | [],τ,ρ,ρ2,e,_=>by cases e;exact ⟨rfl,λ_ _=>rfl,λj i h=>by simp at h⟩
 | none::ix,τ,ρ,ρ2,e,hij=>by
  unfold uncap at e
  obtain ⟨h1,h2,h3⟩:=iE e λj k i a b=>by
   have:=hij (j+1) (k+1) i (by simpa using a) (by simpa using b)
   lia
  refine ⟨h1,λi hi=>h2 i λq=>hi (EY _ q),λj i h=>?_⟩
  cases j with
  | zero=>simp at h
  | succ j =>
   obtain ⟨p,q,a,b,c⟩:=h3 j i (by simpa using h)
   exact ⟨p,q,a,by rw[List.getElem?_tail] at b;exact b,c⟩
 | some i0::ix,τ,ρ,ρ2,e,hij=>by
  unfold uncap at e
  cases e1:(ρ[i0]?).join with
  | none=>rw[e1] at e;exact nsE e
  | some p =>
   obtain ⟨d,f⟩:=p
   cases n:τ.head? with
   | none=>rw[e1,n] at e;exact nsE e
   | some o =>
    cases o with
    | none=>rw[e1,n] at e;exact nsE e
    | some q =>
     obtain ⟨d',s⟩:=q
     rw[e1,n] at e
     dsimp only at e
     split at e
     ·rename_i hf
      have g:=fu e1
      have l:some i0 ∉ ix:=λm=>by
       obtain ⟨k,u,t⟩:=List.mem_iff_getElem.mp m
       have:=hij 0 (k+1) i0 rfl (by simp[u,t])
       lia
      obtain ⟨h1,h2,h3⟩:=iE e λj k i a b=>by
       have:=hij (j+1) (k+1) i (by simpa using a) (by simpa using b)
       lia
      refine ⟨by rw[h1,List.length_set],λi hi=>?_,λj i h=>?_⟩
      ·rw[h2 i λq=>hi (EY _ q),cA g,if_neg (λq=>hi (by rw[q];exact EW))]
      ·cases j with
       | zero =>
        simp at h
        subst h
        refine ⟨(d,f),(d',s),e1,?_,?_,hf⟩
        ·rw[List.head?_eq_getElem?] at n;rw[n];rfl
        ·rw[h2 i0 l,cA g,if_pos rfl]
       | succ j =>
        have r:ix[j]?=some (some i):=by simpa using h
        obtain ⟨p,q,a,b,c⟩:=h3 j i r
        have ii:i≠i0:=λz=>l (by rw[<- z];exact Fc r)
        rw[cA g,if_neg ii] at a
        exact ⟨p,q,a,by rw[List.getElem?_tail] at b;exact b,c⟩
     ·exact nsE e
theorem Wf.uncap (w:Wf K G H σ ρ T g) (hH:∀ b o,H b=some o->G.H0 b=some o) (U:Inj ix) (e:L3.uncap ix τρ ρ=some ρ2) (hR:∀ x∈R,x.f=.z) (l:Wf K (zk G ix σ) H' τ' τρ (R++(rF ix ρ.length g++T)) gC) :
  ∃ g2,Wf K G H' σ ρ2 (R++T) g2:=by
 obtain ⟨hl,h2,h3⟩:=iE e U
 let inv (i:Nat):Option Nat:=(List.range ix.length).find? λj=>decide (ix[j]?=some (some i))
 have B:∀ i j,inv i=some j->ix[j]?=some (some i):=λi j h=>by simpa using List.find?_some h
 have A:∀ i,inv i=none->some i ∉ ix:=λi h m=>by
  obtain ⟨k,X,ek⟩:=List.mem_iff_getElem.mp m
  have:=List.find?_eq_none.mp h k (List.mem_range.mpr X)
  simp[X,ek] at this
 let g2 (i:Nat):Option It3:=match inv i with | some j=>gC j | none=>g i
 have val:∀ i u,g2 i=some u->(∃ j p q,ix[j]?=some (some i)/\gC j=some u/\(ρ[i]?).join=some p/\(τρ[j]?).join=some q/\(q.2=p.2\/q.2=.z))\/(some i ∉ ix/\g i=some u):=λi u h=>by
  grind
 have out:∀ i u,some i ∉ ix->g i=some u->u∈rF ix ρ.length g:=λi u C e=>by
  have s:=w.sl i
  rw[e] at s
  exact xP (fu s.symm) C e
 have back:∀ i j u,ix[j]?=some (some i)->gC j=some u->σ[i]?=some (some u.v):=λi j u t r=>by
  have a:=l.sv j u r
  have b:=l.pro j (by show ((ix[j]?).join).isSome=true;rw[t];rfl)
  rw[a] at b
  have b:some (some u.v)=(L2.cap ix σ)[j]?:=b
  unfold L2.cap at b
  rw[Ff,t] at b
  have b:some (some u.v)=some ((σ[i]?).getD none):=b
  cases q:σ[i]? with
  | none=>rw[q] at b;cases b
  | some o=>rw[q] at b;cases b;rfl
 have I:∀ i j u p q,ix[j]?=some (some i)->gC j=some u->(ρ[i]?).join=some p->(τρ[j]?).join=some q->(q.2=p.2\/q.2=.z)->∃ y,g i=some y/\y.v=u.v/\(u.f=y.f\/u.f=.z):=λi j u p q t r J eq hf=>by
  obtain ⟨y,M,O,N,y4⟩:=w.slot (d:=p.1) (f:=p.2) J
  have b:=back i j u t r
  rw[y4] at b
  have s:=l.sl j
  rw[r,eq] at s
  have s:some (u.d,u.f)=some q:=s
  refine ⟨y,M,by injection b with b;injection b,?_⟩
  rw[N,show u.f=q.2 by injection s with s;rw[<- s]]
  exact hf
 refine ⟨g2,⟨by rw[hl];exact w.len,λi=>?_,λi u h=>?_,λi u h=>?_,λu hu=>?_,λi k a b n ha E=>?_,λi a h b E=>?_,l.tt.sublist ((List.Sublist.refl R).append (Fd _ T)),l.base,w.pro,⟨λu hu hf=>?_,λi u h Z hf a Y=>?_,l.fx.bin,λb o E=>?_,λi u h hl=>?_⟩⟩⟩
 ·show (match inv i with | some j=>gC j | none=>g i).map _=_
  cases W:inv i with
  | none=>rw[h2 i (A i W)];exact w.sl i
  | some j =>
   obtain ⟨p,q,a,b,c,_⟩:=h3 j i (B i j W)
   rw[c,<- b];exact l.sl j
 ·rcases val i u h with ⟨j,p,q,t,r,_⟩ | ⟨C,e⟩
  ·exact back i j u t r
  ·exact w.sv i u e
 ·rcases val i u h with ⟨j,p,q,t,r,_⟩ | ⟨C,e⟩
  ·have ok:=l.okS j u r
   exact ⟨ok.rep,ok.own,ok.src⟩
  ·have ok:=l.okT u (E4 _ (E3 _ (out i u C e)))
   exact ⟨ok.rep,ok.own,ok.src⟩
 ·have ok:=l.okT u (by
   rcases E8.mp hu with q | q
   ·exact E3 _ q
   ·exact E4 _ (E4 _ q))
  exact ⟨ok.rep,ok.own,ok.src⟩
 ·rcases val i a ha with ⟨j,p,q,t,r,_⟩ | ⟨C,e⟩
  ·rcases val k b E with ⟨V,p',q',F,D,_⟩ | ⟨L,P⟩
   ·exact l.ss j V a b (λz=>n (by subst z;rw[t] at F;injection F with z;injection z)) r D
   ·exact (l.st j a r b (E4 _ (E3 _ (out k b L P)))).1
  ·rcases val k b E with ⟨V,p',q',F,D,_⟩ | ⟨L,P⟩
   ·exact (l.st V b D a (E4 _ (E3 _ (out i a C e)))).2
   ·exact w.ss i k a b n e P
 ·have Q:b∈R++(rF ix ρ.length g++T):=by
   rcases E8.mp E with q | q
   ·exact E3 _ q
   ·exact E4 _ (E4 _ q)
  rcases val i a h with ⟨j,p,q,t,r,_⟩ | ⟨C,e⟩
  ·exact l.st j a r b Q
  ·rcases E8.mp E with q | q
   ·exact ((List.pairwise_append.mp l.tt).2.2 b q a (E3 _ (out i a C e))).symm
   ·exact w.st i a e b q
 ·rcases E8.mp hu with q | q
  ·exact absurd (hR u q) hf
  ·exact w.fx.frT u q hf
 ·rcases val i u h with ⟨j,p,q,t,r,J,eq,S⟩ | ⟨C,e⟩
  ·obtain ⟨y,M,O,N⟩:=I i j u p q t r J eq S
   refine w.fx.frS i y M Z (λz=>hf ?_) a (by rw[O];exact Y)
   rcases N with h | h
   ·rw[h];exact z
   ·exact h
  ·exact w.fx.frS i u e Z hf a Y
 ·obtain ⟨o',ho⟩:=w.fx.ob b o E
  have h0:=hH b o' ho
  by_cases q:G.bw b
  ·exact l.fx.bin b q
  ·exact ⟨o',l.base b o' h0 q⟩
 ·rcases val i u h with ⟨j,p,q,t,r,J,eq,S⟩ | ⟨C,e⟩
  ·obtain ⟨y,M,O,N⟩:=I i j u p q t r J eq S
   rw[<- O]
   refine w.fx.lvS i y M ?_
   rcases N with h | h
   ·rw[<- h];exact hl
   ·rw[h] at hl;cases hl
  ·exact w.fx.lvS i u e hl
theorem vT {J:It} {H1:Hp} {ys els:List It3} {ds:List D} {bnd:D->Sto->Option Sto} {c:M3 Bool} {elt:EM} {tg:TG} {tc:TT} {te:TE} {Gc:Gm} {a:List It3} {j:List D} {τρ τρ':Sto} {gC:Nat->Option It3} {Z:List V->Hp->Prop} {M:Addr->Prop}
  (hz:(16777216:Nat)=sizeLine) (G:∀ x∈els,x∈a/\x.f=.z)
  (U:∀ H',(∀ b o,H1 b=some o->¬ Gc.bw b->H' b=some o)->(∀ (i:Nat) (d:D),ds[i]?=some d->J.go i H'/\∀ x g,J.yld i H' x g->∃ w,New K H' g (cI els) w/\w.d=d/\w.f=.z/\w.v=x)/\J.stop ds.length H')
  (h0:Gc.H0=H1) (hb:Bnd K Gc.pr tg bnd) (W:∀ σ H Q,tT K Gc (λ_ _=>False) c σ H Q->tc σ H Q) (ar:∀ σ H Q,tE K Gc (λ_ _=>False) elt σ H Q->te σ H Q)
  (hlen:ds.length < 16777216) (w:Wf K Gc H1 τ τρ a gC) (e:bL bnd c elt ds τρ=some (.ok j,τρ'))
  (hZ:∀ (us:List It3) (τ':St) (H':Hp) (g':Nat->Option It3),(∀ x∈us,x.f=.z)->us.map (·.d)=j->Wf K Gc H' τ' τρ' (us++a) g'->Z (us.map (·.v)) H'):qN J tg tc te Z τ H1:=by
 refine ⟨λi m vs τ' H'=>i<=ds.length/\m=ds.length - i/\vs.length<=i/\∃ (us:List It3) (ρ2:Sto) (g2:Nat->Option It3) (r:List D),(∀ x∈us,x.f=.z)/\us.map (·.v)=vs/\Wf K Gc H' τ' ρ2 (us++a) g2/\bL bnd c elt (ds.drop i) ρ2=some (.ok r,τρ')/\us.map (·.d)++r=j,⟨_,Nat.zero_le _,rfl,Fg _,[],τρ,gC,j,λ_ h=>(by cases h),rfl,w,e,rfl⟩,?_⟩
 rintro i m vs τ1 H2 ⟨hi,rfl,ax,us,ρ2,g2,r,B,q,N,L,k⟩
 refine ⟨by lia,?_⟩
 obtain ⟨ae,s⟩:=U H2 λb o Y hn=>N.base b o (by rw[h0];exact Y) hn
 by_cases n:i < ds.length
 ·obtain ⟨d,hd⟩:∃ d,ds[i]?=some d:=⟨_,E6 n⟩
  have t:ds.drop i=d::ds.drop (i+1):=by
   rw[List.drop_eq_getElem_cons n]
   rw[E6 n] at hd
   cases hd;rfl
  rw[t] at L
  obtain ⟨go,yld⟩:=ae i d hd
  refine .inr ⟨go,λA τ5 R=>A.length<=i+1/\∃ (us:List It3) (ρ5:Sto) (T:Nat->Option It3) (r:List D),(∀ x∈us,x.f=.z)/\us.map (·.v)=A/\Wf K Gc R τ5 ρ5 (us++a) T/\bL bnd c elt (ds.drop (i+1)) ρ5=some (.ok r,τρ')/\us.map (·.d)++r=j,
   λA τ5 R ⟨X,h5⟩=>⟨ds.length - (i+1),by lia,n,rfl,X,h5⟩,λx g F=>?_⟩
  obtain ⟨u,nu,ud,uf,uv⟩:=yld x g F
  have w3:Wf K Gc g τ1 ρ2 (u::(us++a)) g2:=N.push nu λc hc=>N.alls (ys:=els) (λy F=>⟨.inr (E4 _ (G y F).1),(G y F).2⟩) hc
  have I:(match bnd d ρ2 with
   | none=>none
   | some τ1=>af c (λb=>if b then af elt (λr=>af (cX r) λp=>af (bL bnd c elt (ds.drop (i+1))) λl=>aQ (p.1::l)) else bL bnd c elt (ds.drop (i+1))) τ1)=some (.ok r,τρ'):=L
  cases P:bnd d ρ2 with
  | none=>rw[P] at I;exact nsE I
  | some ρ3 =>
   rw[P] at I
   dsimp only at I
   rw[<- uv]
   refine hb Gc g τ1 ρ2 ρ3 _ g2 u _ rfl uf w3 (by rw[ud];exact P) λτ4 g4 w4=>?_
   refine W _ _ _ (tT.seq (Le.refl K Gc _) w4 I (λx hx=>by cases hx) λb ρ5 O R T w5=>?_)
   cases b with
   | false =>
    simp only[FA,if_false] at O ⊢
    exact ⟨by lia,us,ρ5,T,r,B,q,w5,O,k⟩
   | true =>
    simp only[if_true] at O ⊢
    refine ar _ _ _ (tE.seq (Le.refl K Gc _) w5 O (λx hx=>by cases hx) λra ρ6 e6 v H6 ⟨Ts,g6,w6,a6⟩=>?_)
    obtain ⟨p,ρ7,g7,E,C,w7,f1,f2,_,f3⟩:=a6.take w6 e6
    have w8:=Wf.lowT (Ts:=[E]) w7
    unfold af at C
    cases S:bL bnd c elt (ds.drop (i+1)) ρ7 with
    | none=>rw[S] at C;exact nsE C
    | some pr =>
     obtain ⟨o,ρ8⟩:=pr
     rw[S] at C
     cases o with
     | error x=>cases C
     | ok l =>
      cases C
      refine ⟨by rw[Ft];simp;lia,us++[cP E],ρ7,g7,l,λy F=>?_,by rw[List.map_append,q,<- f3];rfl,?_,S,?_⟩
      ·rcases E8.mp F with h | h
       ·exact B y h
       ·rw[Fz.mp h];rfl
      ·exact w8.perm (by
        show ([cP E]++(us++a)).Perm (us++[cP E]++a)
        rw[<- List.append_assoc]
        exact (List.perm_append_comm).append_right a)
      ·rw[List.map_append,List.append_assoc]
       show us.map (·.d)++((cP E).d::l)=j
       rw[show (cP E).d=p.1 from f1]
       exact k
 ·have ei:i=ds.length:=by lia
  subst ei
  rw[List.drop_length] at L
  cases L
  rw[List.append_nil] at k
  subst q
  exact .inl ⟨s,hZ us τ1 H2 g2 B k N⟩
end
end L3
end
section
namespace L3
open PySem L2
section
variable {K:FG} {G G0:Gm} {W W0:D->Sto->Prop} {H H':Hp} {σ τ:St} {ρ ρ':Sto} {T T':List It3} {g:Nat->Option It3} {x y z:It3} {α β:Type} {ix:List (Option Nat)}
def bo (ix:List (Option Nat)):Gm:=⟨λ_=>none,λ_=>False,λj=>((ix[j]?).join).isSome,[],λ_=>none,λ_=>False,λ_=>none⟩
abbrev noX:D->Sto->Prop:=λ_ _=>False
theorem tZ (h:G1.pr=(bo ix).pr) (le:Le K G W G1 noX):Le K G W (bo ix) noX:=⟨le.pr.trans h,λH σ ρ T g e w q=>by
 obtain ⟨_,_,_,_,f⟩:=le.ex H σ ρ T g e w q
 exact f.elim⟩
theorem zZ (h:G1.pr=(bo ix).pr) (q:tE K G1 noX m σ H Q):tE K (bo ix) noX m σ H Q:=by
 obtain ⟨G,W,le,r⟩:=q
 exact ⟨G,W,tZ h le,r⟩
theorem zT (h:G1.pr=(bo ix).pr) (q:tT K G1 noX m σ H Q):tT K (bo ix) noX m σ H Q:=by
 obtain ⟨G,W,le,r⟩:=q
 exact ⟨G,W,tZ h le,r⟩
def eO:M3 Bool:=aQ true
theorem Cs (h:tT K G0 W0 eO σ H Q):tYes σ H Q:=by
 refine h.use λG W le ρ T g o ρ' w e q=>?_
 cases e
 exact q _ _ w
set_option tactic.hygienic true in
theorem jV:∀ {ds a:List D} {τρ τρ':Sto},bL bnd c elt ds τρ=some (.ok a,τρ')->a.length<=ds.length
 | [],a,τρ,τρ',e=>by cases e;exact Fg _
 | d::ds,a,τρ,τρ',e=>by
  unfold bL at e
  split at e
  ·exact nsE e
  ·rename_i τ1 _
   unfold af at e
   split at e
   ·exact nsE e
   ·cases e
   ·rename_i b τ2 _
    cases b with
    | false =>
     simp only[FA,if_false] at e
     have:=jV e
     simp;lia
    | true =>
     simp only[if_true] at e
     split at e
     ·exact nsE e
     ·cases e
     ·split at e
      ·exact nsE e
      ·cases e
      ·split at e
       ·exact nsE e
       ·cases e
       ·rename_i l τ5 f
        cases e
        have:=jV f
        simp;lia
set_option tactic.hygienic true in
theorem qF (hz:(16777216:Nat)=sizeLine) (F:Inj ix) (X:Bnd K (bo ix).pr tg bnd) (le:Le K G W G0 W0) (w:Wf K G H σ ρ T g) (e:cy im bnd c elt ix ρ=some (o,ρ')) (he:∀ x,o=.error x->W x ρ') (hZ:∀ (us:List It3) (H':Hp) (g':Nat->Option It3) (Ts:List It3) (ds:List D),o=.ok (.val (.lst ds) .u)->(∀ x∈us,x.f=.z)->us.map (·.d)=ds->us.length<=16777216->Wf K G H' σ ρ' (us++T) g'->Z (us.map (·.v)) H') :
  tI K G0 W0 im σ H λJ H1=>qN J tg (tT K (bo ix) noX c) (tE K (bo ix) noX elt) Z (cap ix σ) H1:=by
 refine tI.seq le w e he λp ρ1 e1=>?_
 intro J H1 vs Ts g1 ys m a1 P hw
 have N:=us_u (is:=pls p.1) m
 have I:∀ i y,i∈pls p.1->g1 i=some y->y.f=.u->i∈us ρ1 (pls p.1):=λi y hi U hf=>wu m hi U hf
 generalize us ρ1 (pls p.1)=is at e1 N I
 have w2:=m.enter is
 obtain ⟨els,k,walk⟩:=hw
 have hM:∀ b,(∃ j y,j ∉ is/\g1 j=some y/\y.f=.u/\y.v=.ref b)->MutAt H1 b:=λb ⟨j,y,_,U,hf,n⟩=>by
  obtain ⟨_,a,L',v1,v2,_⟩:=(m.okS j y U).own (by rw[hf];intro q;cases q)
  rw[n] at v1;cases v1
  exact (m.okS j y U).rep.inH b (by rw[v2];exact EW)
 have A:∀ y∈ys,∀ b∈y.L,¬ ∃ j y,j ∉ is/\g1 j=some y/\y.f=.u/\y.v=.ref b:=λy B b X ⟨j,Y,nj,l,hf,n⟩=>by
  have t:Y.f≠.z:=by rw[hf];intro q;cases q
  rcases P y B with ⟨i,hi,O⟩ | B
  ·by_cases ij:i=j
   ·subst ij
    rw[O] at l;cases l
    exact nj (I i y hi O hf)
   ·exact m.ss j i Y y (Ne.symm ij) l O t b n X
  ·exact (m.st j Y l y (E3 _ B)).1 t b n X
 have C:∀ y∈ys,Itm (Ts++T) g1 y:=λy B=>by
  rcases P y B with ⟨i,_,O⟩ | h
  ·exact .inl ⟨i,O⟩
  ·exact .inr (E3 _ h)
 have kid:∀ x∈els,∀ c∈x.L,dD ((Ts++T).map bf) (λj=>if j∈is then (g1 j).map bf else g1 j) c/\(H1 c=none\/(G.H0 c=none\/G.src c)):=λx r c hc=>by
  obtain ⟨nr,sr⟩:=m.kids C ((k x r).2.2 c hc)
  refine ⟨⟨λi z s hf n=>?_,λz hz hf n=>?_⟩,.inr sr⟩
  ·have s:(if i∈is then (g1 i).map bf else g1 i)=some z:=s
   by_cases q:i∈is
   ·rw[if_pos q] at s
    obtain ⟨z0,e0,e1⟩:=E2.mp s
    subst e1
    exact nr.1 i z0 e0 (λq=>hf (lentF_z.mpr q)) n
   ·rw[if_neg q] at s
    exact nr.1 i z s hf n
  ·obtain ⟨z0,h0,rfl⟩:=Fe.mp hz
   exact nr.2 z0 h0 (λq=>hf (lentF_z.mpr q)) n
 have w3:Wf K (dL G H1 g1 is) H1 σ (aG bU is ρ1) (els++(Ts++T).map bf) (λj=>if j∈is then (g1 j).map bf else g1 j):=w2.pushAll λx r=>⟨(k x r).1,(k x r).2.1,λc hc=>kid x r c hc⟩
 have w4:=w3.cap F
 cases V:bL bnd c elt p.2 (qH ix (aG bU is ρ1)) with
 | none=>rw[V] at e1;exact nsE e1
 | some rr =>
  obtain ⟨o2,τρ⟩:=rr
  rw[V] at e1
  cases o2 with
  | error x=>exact nsE e1
  | ok ds =>
   dsimp only at e1
   split at e1
   ·rename_i hlen
    cases e3:uncap ix τρ (aG bU is ρ1) with
    | none=>rw[e3] at e1;exact nsE e1
    | some ρ3 =>
     rw[e3] at e1
     have eo:o=.ok (.val (.lst ds) .u)/\ρ'=aG eR is ρ3:=by cases e1;exact ⟨rfl,rfl⟩
     obtain ⟨eo,eρ⟩:=eo
     refine vT (K:=K) (Gc:=zk (dL G H1 g1 is) ix σ) (els:=els) (M:=λ_=>False) (ys:=ys) hz (λx r=>⟨E4 _ (E3 _ r),(k x r).1⟩) (λH' hk=>walk _ H' hM hk A) rfl X (λσ' H Q q=>zT (G1:=zk (dL G H1 g1 is) ix σ) rfl q) (λσ' H Q q=>zZ (G1:=zk (dL G H1 g1 is) ix σ) rfl q) hlen w4 V λus τ' H' g' S E w5=>?_
     obtain ⟨g6,w6⟩:=Wf.uncap w3 (λb o h=>h) F e3 S w5
     have w7:=Wf.leave (T:=Ts++T) (T':=T) (R:=us) m N (Fd Ts T) (w6.sub ((List.Sublist.refl us).append (by
      rw[List.map_append]
      exact (Fd (Ts.map bf) (T.map bf)).trans (Fd els _))))
     have hle:us.length<=16777216:=by
      have h1:us.length=ds.length:=by rw[<- E,Fa]
      have h2:=jV V
      lia
     rw[<- eρ] at w7
     exact hZ us H' _ Ts ds eo S E hle w7
   ·exact nsE e1
theorem nF {us:List It3} (w:Wf K G H σ ρ (us++T) g) (j:∀ x∈us,x.f=.z) (b:H p=none) :
  Wf K G (upd H p (.lst (us.map (·.v)))) σ ρ (⟨.lst (us.map (·.d)),.ref p,p::(us.map (·.L)).flatten,.u⟩::T) g:=by
 have hi:∀ y∈us,Itm (us++T) g y/\y.f=.z:=λy i=>⟨.inr (E3 _ i),j y i⟩
 have np:p ∉ (us.map (·.L)).flatten:=λa=>by
  obtain ⟨y,hm,a⟩:=eI a
  obtain ⟨o,k⟩:=((w.itm (hi y hm).1).rep.inH p a).ex
  rw[b] at k;exact nsE k
 have n:New K H (upd H p (.lst (us.map (·.v)))) (cI us) ⟨.lst (us.map (·.d)),.ref p,p::(us.map (·.L)).flatten,.u⟩:=⟨bc b,.lst aA ((kC λy i=>(w.itm (hi y i).1).rep).same (bc b)),λc a=>by
  rcases E5.mp a with e | a
  ·rw[e];exact .inl b
  ·exact .inr (eI a),λ_=>⟨rfl,p,_,rfl,rfl,np,b⟩⟩
 exact (w.push n λc h=>w.alls hi h).sub (List.Sublist.cons_cons _ (Fd us T))
theorem z5 (hz:(16777216:Nat)=sizeLine) (b:Inj ix) (k:Bnd K (bo ix).pr tg bnd) (h:tE K G0 W0 (cy im bnd c elt ix) σ H Q) :
  BR (tI K G0 W0 im) tg (tT K (bo ix) noX c) (tE K (bo ix) noX elt) ix σ H Q:=by
 refine h.use λG W le ρ T g o ρ' w e q=>?_
 refine qF hz b k le w e q.err λus H' g' Ts ds m f a hl i=>?_
 subst m a
 intro p l
 have j:=nF i f l
 exact q (.ref p) _ ⟨[_],g',j,Ar.val (⟨.lst (us.map (·.d)),.ref p,p::(us.map (·.L)).flatten,.u⟩:It3)⟩
set_option tactic.hygienic true in
theorem qV {i:Nat} (hz:(16777216:Nat)=sizeLine) (k:Inj ix) (s:Bnd K (bo ix).pr tg bnd) (v:G0.pr i=false) (h:tS K G0 W0 (aS i (cy im bnd c elt ix)) E σ H) :
  BV i (tI K G0 W0 im) tg (tT K (bo ix) noX c) (tE K (bo ix) noX elt) ix E σ H:=by
 refine h.use λG W le ρ T g r ρ' w e q=>?_
 unfold aS af at e
 cases e1:cy im bnd c elt ix ρ with
 | none=>rw[e1] at e;exact nsE e
 | some pr =>
  obtain ⟨o,ρ1⟩:=pr
  rw[e1] at e
  have a:∀ x,o=.error x->W x ρ1:=λx t=>by subst t;cases e;exact q
  refine qF hz k s le w e1 a λus H' g' Ts ds y l j hl m=>?_
  subst y j
  intro p b
  have n:=nF m l b
  have e:(if i < ρ1.length then some ((.ok .nx,ρ1.set i (some (D.lst (us.map (·.d)),Fl.u))):Except D Flw×Sto) else none)=some (r,ρ'):=e
  split at e
  ·rename_i hi
   cases e
   exact q _ _ _ (n.store (f:=.u) hi (by rw[le.pr];exact v) (.inl rfl) (by intro h;cases h))
  ·exact nsE e
end
end L3
end
section
namespace L3
open PySem L2
section
variable {K:FG} {G G0:Gm} {W W0:D->Sto->Prop} {H H':Hp} {σ:St} {ρ ρ':Sto} {T T':List It3} {g:Nat->Option It3} {x y z:It3} {α β:Type}
theorem Wf.mutate {i:Nat} (w:Wf K G H σ ρ T g) (B:g i=some y) (hu:y.f=.u) (ev:y.v=.ref a) (hm:jo d'=true) (rep:Rep K (upd H a o') d' (.ref a) (a::C)) (na:a ∉ C) (Q:∀ c∈C,dD T g c/\(G.H0 c=none\/G.src c)):Wf K G (upd H a o') σ (ρ.set i (some (d',.u))) T (λj=>if j=i then some ⟨d',.ref a,a::C,.u⟩ else g j):=by
 have l:y.f≠.z:=by rw[hu];intro q;cases q
 have O:=w.okS i y B
 obtain ⟨_,a',L',v1,v2,v3,v4⟩:=O.own l
 rw[ev] at v1;cases v1
 have hi:i < ρ.length:=by
  have:=w.sl i
  rw[B] at this
  exact fu this.symm
 have ma:MutAt H a:=O.rep.inH a (by rw[v2];exact EW)
 have val:∀ j u,(if j=i then some (⟨d',.ref a,a::C,.u⟩:It3) else g j)=some u->(j=i/\u=⟨d',.ref a,a::C,.u⟩)\/(j≠i/\g j=some u):=λj u h=>by
  by_cases q:j=i
  ·rw[if_pos q] at h;cases h;exact .inl ⟨q,rfl⟩
  ·rw[if_neg q] at h;exact .inr ⟨q,h⟩
 have keep:∀ u,ItOk K G H u->a ∉ u.L->ItOk K G (upd H a o') u:=λu ou hn=>ou.keep (M:=λb=>b=a) (λb o r n=>by rw[ak n];exact r) (λb e=>by rw[e];exact ma) λb r e=>hn (by rw[<- e];exact r)
 have V:∀ j u,j≠i->g j=some u->a ∉ u.L:=λj u n e=>w.ss i j y u (Ne.symm n) B e l a ev
 have P:∀ u∈T,a ∉ u.L:=λu s=>(w.st i y B u s).1 l a ev
 have J:∀ b o,H b=some o->∃ W,upd H a o' b=some W:=λb o r=>by
  by_cases q:b=a
  ·rw[q,aA];exact ⟨_,rfl⟩
  ·rw[ak q];exact ⟨o,r⟩
 refine ⟨by rw[List.length_set];exact w.len,λj=>?_,λj u h=>?_,λj u h=>?_,λu s=>keep u (w.okT u s) (P u s),λj k p q n N Y=>?_,λj u h t F=>?_,w.tt,λb o e n=>?_,w.pro,⟨w.fx.frT,λj u h N hf b R=>?_,λb r=>?_,λb o r=>?_,λj u h hl=>?_⟩⟩
 ·rw[cA hi]
  by_cases q:j=i
  ·rw[if_pos q,if_pos q];rfl
  ·rw[if_neg q,if_neg q];exact w.sl j
 ·rcases val j u h with ⟨rfl,rfl⟩ | ⟨n,h⟩
  ·rw[w.sv j y B,ev]
  ·exact w.sv j u h
 ·rcases val j u h with ⟨rfl,rfl⟩ | ⟨n,h⟩
  ·refine ⟨rep,λ_=>⟨hm,a,C,rfl,rfl,na,λ_=>v4 hu⟩,λc d=>?_⟩
   rcases E5.mp d with e | d
   ·rw[e];exact O.src a (by rw[v2];exact EW)
   ·exact (Q c d).2
  ·exact keep u (w.okS j u h) (V j u n h)
 ·rcases val j p N with ⟨D,ep⟩ | ⟨n1,m⟩
  ·rcases val k q Y with ⟨Z,eq⟩ | ⟨X,A⟩
   ·exact absurd (D.trans Z.symm) n
   ·rw[ep]
    intro _ c x
    cases x
    exact V k q X A
  ·rcases val k q Y with ⟨Z,eq⟩ | ⟨X,A⟩
   ·rw[eq]
    intro hf c x d
    rcases E5.mp d with e | d
    ·obtain ⟨_,b,L2,I,U,_⟩:=(w.okS j p m).own hf
     rw[x] at I;cases I
     exact V j p n1 m (by rw[<- e,U];exact EW)
    ·exact (Q c d).1.1 j p m hf x
   ·exact w.ss j k p q n m A
 ·rcases val j u h with ⟨D,E⟩ | ⟨n,h'⟩
  ·rw[E]
   refine ⟨λ_ c x=>by cases x;exact P t F,λhf c x d=>?_⟩
   rcases E5.mp d with e | d
   ·obtain ⟨_,b,L2,I,U,_⟩:=(w.okT t F).own hf
    rw[x] at I;cases I
    exact P t F (by rw[<- e,U];exact EW)
   ·exact (Q c d).1.2 t F hf x
  ·exact w.st j u h' t F
 ·have:b≠a:=λz=>by
   subst z
   rcases v4 hu with h | h
   ·rw[e] at h;cases h
   ·exact n h
  rw[ak this];exact w.base b o e n
 ·rcases val j u h with ⟨D,E⟩ | ⟨n,h'⟩
  ·subst D
   rw[E] at R
   cases R
   exact w.fx.frS j y B N l a ev
  ·exact w.fx.frS j u h' N hf b R
 ·obtain ⟨o,S⟩:=w.fx.bin b r
  exact J b o S
 ·obtain ⟨o2,S⟩:=w.fx.ob b o r
  exact J b o2 S
 ·rcases val j u h with ⟨D,E⟩ | ⟨n,h'⟩
  ·rw[E] at hl;cases hl
  ·exact w.fx.lvS j u h' hl
def MutD (K:FG) (r:V->List V->Hp->VK->Prop) (f:D->List D->Option (D×D)):Prop:=∀ (a:Addr) (d:D) (b:List Addr) (as:List It3) (H:Hp) (Q:VK) (p:D×D),Rep K H d (.ref a) (a::b)->jo d=true->a ∉ b->(∀ x∈as,Rep K H x.d x.v x.L)->(∀ x∈as,a ∉ x.L)->f d (as.map (·.d))=some p ->
 (∀ (o':HO) (e:List Addr) (w:It3),Rep K (upd H a o') p.1 (.ref a) (a::e)->jo p.1=true->(∀ c∈e,c∈b\/cI as c)->w.f=.z->w.d=p.2->Rep K (upd H a o') w.d w.v w.L->(∀ c∈w.L,c∈b\/cI as c)->Q w.v (upd H a o'))->r (.ref a) (as.map (·.v)) H Q
def chk (ok:D->Bool) (i:Nat):M3 Unit:=λρ=>match (ρ[i]?).join with
 | some (d,_)=>if ok d then some (.ok (),ρ) else none
 | none=>none
theorem pz {i:Nat} (e:af (ac i) k ρ=some (r,ρ')):∃ p,(ρ[i]?).join=some p/\k (.pl i) ρ=some (r,ρ'):=by
 unfold af ac at e
 cases q:(ρ[i]?).join with
 | none=>rw[q] at e;exact nsE e
 | some p=>rw[q] at e;exact ⟨p,rfl,e⟩
theorem zf {i:Nat} (e:af (chk ok i) k ρ=some (r,ρ')):(∀ p,(ρ[i]?).join=some p->ok p.1=true)/\k () ρ=some (r,ρ'):=by
 unfold af chk at e
 grind
def mm (ok:D->Bool) (f:D->List D->Option (D×D)) (i:Nat) (ms:M3 (List R3)):EM:=af (ac i) λ_=>af (chk ok i) λ_=>af ms λrs=>af (gives rs) λds=>λρ=>match (ρ[i]?).join with
 | some (d,.u)=>match f d ds with
  | some p=>some (.ok (.val p.2 .z),ρ.set i (some (p.1,.u)))
  | none=>none
 | _=>none
theorem Wf.changed {i:Nat} {as us:List It3} (W:MutD K r f) (w:Wf K G H σ ρ (us++T) g) (e:(ρ[i]?).join=some (d,.u)) (R:σ[i]?=some (some v)) (D:∀ y∈as,Itm (us++T) g y/\y.f=.z) (P:f d (as.map (·.d))=some p) (q:∀ v H',Got K G σ (ρ.set i (some (p.1,.u))) T (.val p.2 .z) v H'->Q v H'):r v (as.map (·.v)) H Q:=by
 obtain ⟨y,C,I,M,o⟩:=w.slot e
 rw[R] at o
 injection o with o
 injection o with o
 have n:y.f≠.z:=by rw[M];intro q;cases q
 have E:=w.okS i y C
 obtain ⟨m,a,F,v1,v2,v3,_⟩:=E.own n
 have ra:=E.rep
 rw[v1,v2,I] at ra
 rw[I] at m
 rw[o,v1]
 have na:∀ x∈as,a ∉ x.L:=λx t b=>by
  have:=(w.kid (D x t).1 b λhf=>absurd (D x t).2 hf).1 i y C n
  exact this v1
 refine W a d F as H Q p ra m v3 (λx t=>(w.itm (D x t).1).rep) na P λo' O u Z V s1 J U Y B=>?_
 have k:∀ c,(c∈F\/cI as c)->dD (us++T) g c/\(G.H0 c=none\/G.src c):=λc b=>by
  rcases b with b | b
  ·have A:c∈y.L:=by rw[v2];exact EY _ b
   exact ⟨w.kid (.inl ⟨i,C⟩) A λ_ l=>by rw[v1] at l;cases l;exact v3 b,E.src c A⟩
  ·exact w.alls D b
 have N:∀ c,(c∈F\/cI as c)->c≠a:=λc b z=>(k c b).1.1 i y C n (by rw[z];exact v1)
 have X:=w.mutate (o':=o') C M v1 V Z (λh=>N a (s1 a h) rfl) λc b=>k c (s1 c b)
 have S:=X.pushAll (ws:=[u]) λx t=>by
  rw[Fz.mp t]
  refine ⟨J,Y,λc b=>?_⟩
  have s:=k c (B c b)
  refine ⟨⟨λj z l hf hz=>?_,s.1.2⟩,s.2⟩
  have l:(if j=i then some (⟨p.1,.ref a,a::O,.u⟩:It3) else g j)=some z:=l
  by_cases q:j=i
  ·rw[if_pos q] at l
   cases l
   cases hz
   exact N a (B a b) rfl
  ·rw[if_neg q] at l
   exact s.1.1 j z l hf hz
 rw[<- U,<- J] at q
 exact q u.v _ ⟨[u],_,S.sub ((List.Sublist.refl [u]).append (Fd us T)),.val u⟩
theorem CJ {i:Nat} (B:MutD K r f) (hok:∀ d v L H,ok d=true->Rep K H d v L->tyV K Ty v H) (h:tE K G0 W0 (mm ok f i ms) σ H Q):tBM K Ty r (uK i) (tA K G0 W0 ms) σ H Q:=by
 refine h.use λG W le ρ T g o ρ' w e q=>?_
 obtain ⟨m,k,e⟩:=pz e
 obtain ⟨A,e⟩:=zf e
 obtain ⟨F,f0⟩:=m
 obtain ⟨y,C,s,I,j⟩:=w.slot k
 refine ⟨y.v,j,hok F y.v y.L H (A _ k) (by rw[<- s];exact (w.okS i y C).rep),?_⟩
 refine tA.seq le w e q.err λrs ρ1 e1 vs H1 Ts g1 E a1=>?_
 obtain ⟨ds,ρ2,g2,a,_,t,_,ys,D,f1,f2⟩:=a1.gives E e1
 subst f1 f2
 cases c:(ρ2[i]?).join with
 | none=>rw[c] at a;exact nsE a
 | some p3 =>
  obtain ⟨x,n⟩:=p3
  rw[c] at a
  cases n with
  | u =>
   dsimp only at a
   cases b:f x (ys.map (·.d)) with
   | none=>rw[b] at a;exact nsE a
   | some p =>
    rw[b] at a
    cases a
    exact t.changed B c j D b q
  | l=>exact nsE a
  | z=>exact nsE a
def lj (t:V->V->V->Hp->(Hp->Prop)->Prop):V->List V->Hp->VK->Prop:=λx vs H Q=>∃ k v,vs=[k,v]/\t x k v H λH'=>Q .non H'
def n9 (f:D->List D->Option (D×D)) (i:Nat) (mk b:EM):SM:=af b λa=>af (ac i) λ_=>af mk λc=>af (gives [c,a]) λds=>λρ=>match (ρ[i]?).join with
 | some (d,.u)=>match f d ds with
  | some p=>some (.ok .nx,ρ.set i (some (p.1,.u)))
  | none=>none
 | _=>none
theorem Cu {i:Nat} (J:MutD K (lj t) f) (h:tS K G0 W0 (n9 f i mk mv) E σ H):wD (tE K G0 W0 mv) (gSub (uK i) (tE K G0 W0 mk) t) E σ H:=by
 refine h.use λG W le ρ T g r ρ' w e q=>?_
 refine tE.seq le w e q.err λs ρ1 e1 v H1 ⟨Ts,g1,m,a1⟩=>?_
 obtain ⟨n,I,e1⟩:=pz e1
 obtain ⟨d0,f0⟩:=n
 obtain ⟨y,Y,U,Z,k⟩:=m.slot I
 refine ⟨y.v,k,?_⟩
 ·refine tE.seq le m e1 q.err λB ρ2 R C H2 ⟨Us,g2,x,a2⟩=>?_
  have P:Ars σ [B,s] [C,v] (([]++Ts)++Us):=.cons a2 (.cons a1 .nil)
  have N:Wf K G H2 σ ρ2 ((([]++Ts)++Us)++T) g2:=x.perm (by
   rw[List.nil_append,<- List.append_assoc]
   exact (List.perm_append_comm).append_right T)
  obtain ⟨ds,ρ3,g3,a,_,M,_,ys,L,f1,f2⟩:=P.gives N R
  subst f1
  cases c:(ρ3[i]?).join with
  | none=>rw[c] at a;exact nsE a
  | some p3 =>
   obtain ⟨A,o⟩:=p3
   rw[c] at a
   cases o with
   | u =>
    dsimp only at a
    cases j:f A (ys.map (·.d)) with
    | none=>rw[j] at a;exact nsE a
    | some p =>
     rw[j] at a
     cases a
     have:=M.changed (Q:=λ_ H'=>E.nx σ H') J c k L j λS H' ⟨D,X,F,V⟩=>q _ _ _ (F.sub (Fd D T))
     rw[f2] at this
     obtain ⟨k',S,b,O⟩:=this
     cases b
     exact O
   | l=>exact nsE a
   | z=>exact nsE a
end
end L3
end
section
namespace L3
open PySem L2
structure RE (X:Cx) (G0:Gm) (W0:D->Sto->Prop) (e:Expr) (m:EM):Prop where
 h:PE X e (tE X.K G0 W0 m)
structure RT (X:Cx) (G0:Gm) (W0:D->Sto->Prop) (e:Expr) (m:M3 Bool):Prop where
 h:PT X e (tT X.K G0 W0 m)
structure RW (X:Cx) (G0:Gm) (W0:D->Sto->Prop) (e:Expr) (m:M3 Bool):Prop where
 h:PW X e (tT X.K G0 W0 m)
structure RA (X:Cx) (G0:Gm) (W0:D->Sto->Prop) (es:List Expr) (m:M3 (List R3)):Prop where
 h:PA X es (tA X.K G0 W0 m)
structure RS (X:Cx) (G0:Gm) (W0:D->Sto->Prop) (s:Stmt) (m:SM):Prop where
 h:PS X s (tS X.K G0 W0 m)
structure RSs (X:Cx) (G0:Gm) (W0:D->Sto->Prop) (s:List Stmt) (m:SM):Prop where
 h:PSs X s (tS X.K G0 W0 m)
structure RI (X:Cx) (G0:Gm) (W0:D->Sto->Prop) (tg iter:Expr) (m:IM):Prop where
 h:PI X tg iter (tI X.K G0 W0 m)
structure RG (X:Cx) (pr:Nat->Bool) (target:Expr) (bnd:D->Sto->Option Sto):Prop where
 h:∃ tg,PG X target tg/\Bnd X.K pr tg bnd
structure RGs (X:Cx) (pr:Nat->Bool) (targets:List Expr) (bnd:List D->Sto->Option Sto):Prop where
 h:∃ tg,PGs X targets tg/\zO X.K pr tg bnd
theorem PE.imp (h:PE X e t) (f:∀ σ H Q,t' σ H Q->t σ H Q):PE X e t':=λpins s σ H Q I q=>h pins s σ H Q I (f σ H Q q)
theorem PT.imp (h:PT X e t) (f:∀ σ H Q,t' σ H Q->t σ H Q):PT X e t':=λpins s σ H Q I q=>h pins s σ H Q I (f σ H Q q)
theorem PW.imp (h:PW X e t) (f:∀ σ H Q,t' σ H Q->t σ H Q):PW X e t':=λwh pins s σ H Q I q=>h wh pins s σ H Q I (f σ H Q q)
theorem PA.imp (h:PA X e t) (f:∀ σ H Q,t' σ H Q->t σ H Q):PA X e t':=λpos pins s σ H Q I q=>h pos pins s σ H Q I (f σ H Q q)
theorem PS.imp (h:PS X e t) (f:∀ D σ H,t' D σ H->t D σ H):PS X e t':=λpins s σ H D I q=>h pins s σ H D I (f D σ H q)
theorem PSs.imp (h:PSs X e t) (f:∀ D σ H,t' D σ H->t D σ H):PSs X e t':=λpins s σ H D I q=>h pins s σ H D I (f D σ H q)
theorem PI.imp (h:PI X tg e t) (f:∀ σ H R,t' σ H R->t σ H R):PI X tg e t':=λpins s σ H R I q=>h pins s σ H R I (f σ H R q)
theorem szl:(16777216:Nat)=sizeLine:=by rw[sizeLine_eq]
section
variable {X:Cx} {G0:Gm} {W0:D->Sto->Prop} {a b c e:Expr} {es:List Expr} {pos:Pos} {ma mb mc m:EM} {ms:M3 (List R3)} {t u:M3 Bool} {rest:List Expr}
theorem oi (i:Nat) (b:X.N[i]?=some x) (c:Vis X.env.scope x) (hd:(x == ("__debug__":Str))=false) (a:(x == ("__classdict__":Str))=false):RE X G0 W0 (.Name x pos) (ac i):=⟨PE.imp (lw b c hd a) λ_ _ _ h=>CG h⟩
theorem Dh:RE X G0 W0 (.Constant (.int i) j pos) (mC (.int i)):=⟨PE.imp oB λ_ _ _ h=>fR (λ_=>.int i) h⟩
theorem re_bl:RE X G0 W0 (.Constant (.bool i) j pos) (mC (.bl i)):=⟨PE.imp pe_bl λ_ _ _ h=>fR (λ_=>.bl i) h⟩
theorem De:RE X G0 W0 (.Constant .none j pos) (mC .non):=⟨PE.imp Dz λ_ _ _ h=>fR (λ_=>.non) h⟩
theorem Db:RE X G0 W0 (.Constant (.str i) j pos) (mC (.str i)):=⟨PE.imp xM λ_ _ _ h=>fR (λ_=>.str i) h⟩
theorem pQ {i:Int} (a:Gl X x) (hm:X.mg x=some (.int i tk)) (hd:(x == ("__debug__":Str))=false):RE X G0 W0 (.Name x pos) (mC (.int i)):=⟨PE.imp (tK (v:=V.int i) a hm ⟨_,rfl⟩ hd) λ_ _ _ h=>fR (λ_=>.int i) h⟩
theorem jF (c:OpR X (binaryOp op) r) (hd:OpD X.K r f) (e:RE X G0 W0 a ma) (d:RE X G0 W0 b mb):RE X G0 W0 (.BinOp a op b pos) (ai f ma mb):=⟨PE.imp (pe_op c e.h d.h) λ_ _ _ h=>nP hd h⟩
theorem re_un (b:UnR X (unaryOp op) r) (hd:UnD X.K r f) (c:RE X G0 W0 a ma):RE X G0 W0 (.UnaryOp op a pos) (mUn f ma):=⟨PE.imp (pe_un b c.h) λ_ _ _ h=>sN hd h⟩
theorem xj (c:OpR X (compareOp op) r) (hd:OpD X.K r f) (e:RE X G0 W0 a ma) (d:RE X G0 W0 b mb) (hm:behindInMarks op b=false):RE X G0 W0 (.Compare a [op] [b] pos) (ai f ma mb):=⟨PE.imp (AL c e.h d.h hm) λ_ _ _ h=>nP hd h⟩
theorem re_ix (c:IxR X r) (hd:OpD X.K r f) (e:RE X G0 W0 a ma) (d:RE X G0 W0 b mb) (hs:uB b):RE X G0 W0 (.Subscript a b pos) (ai f ma mb):=⟨PE.imp (pe_ix c e.h d.h hs) λ_ _ _ h=>nP hd h⟩
theorem Dk (d:RE X G0 W0 a ma) (c:RE X G0 W0 (.BoolOp .And (b::rest) pos) mb):RE X G0 W0 (.BoolOp .And (a::b::rest) pos) (dU ma mb):=⟨PE.imp (DF d.h c.h) λ_ _ _ h=>CL h⟩
theorem Dc (h:RE X G0 W0 a ma):RE X G0 W0 (.BoolOp op [a] pos) ma:=⟨Dx h.h⟩
theorem Dd (b:RE X G0 W0 a ma):RE X G0 W0 (.UnaryOp .Not a pos) (qj ma):=⟨PE.imp (Dy b.h) λ_ _ _ h=>CI h⟩
def cO (f b:D->D->Option (D×Fl)) (ma mb mc:EM):EM:=af ma λra=>af mb λrb=>af (der ra) λda=>af (der rb) λdb=>af (aT ((f da db).bind λp=>asB p.1)) λk=>if k then af mc λrc=>af (der rb) λdb=>af (der rc) λa=>aT ((b db a).map λp=>R3.val p.1 p.2) else aQ (.val (.bl false) .z)
theorem CY (b:RE X G0 W0 a ma) (he:∀ whole,isTrue a X.env whole=(do let v <- whole;standAt a.pos;holding [v] (truthy v))):RT X G0 W0 a (cB ma):=⟨PT.imp (Dp b.h he) λ_ _ _ h=>tT_b h⟩
theorem rt_w (h:RW X G0 W0 a t):RT X G0 W0 a t:=⟨h.h.pt⟩
theorem CV (b:RT X G0 W0 a t):RW X G0 W0 (.BoolOp .Or [a] pos) t:=⟨Do b.h⟩
theorem rw_or (d:RT X G0 W0 a t) (c:RW X G0 W0 (.BoolOp .Or (b::rest) pos) u):RW X G0 W0 (.BoolOp .Or (a::b::rest) pos) (cOr t u):=⟨PW.imp (pw_or d.h c.h) λ_ _ _ h=>tT_or h⟩
theorem CZ (b:RT X G0 W0 a t):RT X G0 W0 (.UnaryOp .Not a pos) (cC t):=⟨PT.imp (ot b.h) λ_ _ _ h=>Ct h⟩
theorem xr:RA X G0 W0 [] ag:=⟨PA.imp lx λ_ _ _ h=>CM h⟩
theorem tq (b:RE X G0 W0 e m) (a:RA X G0 W0 es ms) (hs:starEach (e::es) X.env=(false,eval e X.env)::starEach es X.env):RA X G0 W0 (e::es) (aa m ms):=⟨PA.imp (fj b.h a.h hs) λ_ _ _ h=>z7 h⟩
theorem Da (h:RA X G0 W0 es ms):RE X G0 W0 (.Tuple es x1 pos) (bQ ms):=⟨PE.imp (xL h.h) λ_ _ _ h=>CH szl h⟩
theorem Df (h:RA X G0 W0 es ms):RE X G0 W0 (.List es pos) (bT ms):=⟨PE.imp (DA h.h) λ_ _ _ h=>CK szl h⟩
theorem c0 {id:String} (d:bN X (.builtin id) r) (hd:cH X.K r f) (c:Gl X x) (hm:X.mg x=none) (j:bootBuiltins x=some (.builtin id)) (i:RA X G0 W0 (e::es) ms) (g:x≠"__name__") (b:(x == ("__debug__":Str))=false) (he:starEach (e::es) X.env=(false,eval e X.env)::starEach es X.env) (a:(backTo pos (starEach es X.env)).any (·.1)=false):RE X G0 W0 (.Call (.Name x p) (e::es) [] pos) (am f ms):=⟨PE.imp (je d c hm j i.h g b he a) λ_ _ _ h=>kW hd h⟩
theorem mR (d:bN X (.type T) r) (hd:cH X.K r f) (c:Gl X x) (hm:X.mg x=none) (j:bootBuiltins x=some (.type T)) (i:RA X G0 W0 (e::es) ms) (g:x≠"__name__") (b:(x == ("__debug__":Str))=false) (he:starEach (e::es) X.env=(false,eval e X.env)::starEach es X.env) (a:(backTo pos (starEach es X.env)).any (·.1)=false):RE X G0 W0 (.Call (.Name x p) (e::es) [] pos) (am f ms):=⟨PE.imp (mS d c hm j i.h g b he a) λ_ _ _ h=>kW hd h⟩
variable {st:Stmt} {sts:List Stmt} {sm sn:SM}
theorem Ao:RSs X G0 W0 [] cE:=⟨PSs.imp AE λ_ _ _ h=>CA h⟩
theorem wW (h1:RS X G0 W0 st sm) (h2:RSs X G0 W0 sts sn):RSs X G0 W0 (st::sts) (aE sm sn):=⟨PSs.imp (xE h1.h h2.h) λ_ _ _ h=>Cw h⟩
theorem An (h1:RS X G0 W0 st sm):RSs X G0 W0 [st] sm:=⟨tH h1.h⟩
theorem Ap (he:RE X G0 W0 e m) (hs:swapsWith e none pos.line X.env=pure false):RS X G0 W0 (.Expr e pos) (fF m):=⟨PS.imp (AF he.h hs) λ_ _ _ h=>zU h⟩
theorem C4 (np:Nat) (a:∀ i,np<=i->G0.pr i=false) (he:RE X G0 W0 e m):RS X G0 W0 (.Return (some e) pos) (aW np m):=⟨PS.imp (Dr he.h) λ_ _ _ h=>Cy a h⟩
theorem rs_if (d:RT X G0 W0 c t) (b:RSs X G0 W0 x sm) (a:RSs X G0 W0 y sn):RS X G0 W0 (.If c x y pos) (sIf t sm sn):=⟨PS.imp (ps_if d.h b.h a.h) λ_ _ _ h=>tS_if h⟩
theorem C3 (i:Nat) (c:X.N.Nodup) (hi:X.N[i]?=some x) (a:Loc X.env.scope x) (he:RE X G0 W0 e m) (hs:swapsWith e (some (.Name x pos')) pos.line X.env=pure false) (hf:X.fn x=true\/X.env.scope.names.lookup x=some .local) (b:G0.pr i=false):RS X G0 W0 (.Assign [.Name x pos'] e pos) (aS i m):=⟨PS.imp (Dq c hi a he.h hs hf) λ_ _ _ h=>Cv b h⟩
theorem wY (b:PassesOwn (model X.prog X.w) X.A X.env X.xe) (d:RT X G0 W0 c t) (a:RSs X G0 W0 body sm):RS X G0 W0 (.While c body [] pos) (fc t sm):=⟨PS.imp (xF b d.h a.h) λ_ _ _ h=>wz h⟩
theorem C6 (d:PassesOwn (model X.prog X.w) X.A X.env X.xe) (c:X.calm=true) (hi:RI X G0 W0 tg iter im) (b:RG X G0.pr tg bnd) (a:RSs X G0 W0 body sm) (hs:∀ x,foldedSetIterable iter X.env x=pure x):RS X G0 W0 (.For tg iter body [] pos) (cY im bnd sm):=by
 obtain ⟨g,h1,h2⟩:=b.h
 exact ⟨PS.imp (Dt d c hi.h h1 a.h hs) λ_ _ _ h=>CC h2 h⟩
theorem sZ (i:Nat) (b:X.N.Nodup) (hi:X.N[i]?=some x) (c:Loc X.env.scope x) (hf:X.fn x=true\/X.env.scope.names.lookup x=some .local) (a:pr i=false):RG X pr (.Name x pos) (av i):=⟨_,kE b hi c hf,jw a⟩
theorem Ax:RGs X pr [] iW:=⟨_,tJ,qL⟩
theorem xg (h1:RG X pr e bn) (h2:RGs X pr es bs) (hs:(assignEach (e::es) X.env).map (·.2)=assign e X.env::(assignEach es X.env).map (·.2)):RGs X pr (e::es) (bM bn bs):=by
 obtain ⟨g,a1,a2⟩:=h1.h
 obtain ⟨a,b1,b2⟩:=h2.h
 exact ⟨_,lu a1 b1 hs,jX a2 b2⟩
theorem C9 {k n:Nat} (b:X.calm=true) (h:RGs X pr es bs) (c:(assignEach es X.env).length=n) (a:(assignEach es X.env).findIdx? (·.1)=none):RG X pr (.Tuple es k pos) (iV n bs):=by
 obtain ⟨d,b1,b2⟩:=h.h
 exact ⟨_,xK b b1 c a,uw b2⟩
theorem Az (NY:List Str) (ix:List (Option Nat)) (d:X.calm=true) (hi:RI X G0 W0 tg iter im) (e:∀ s H C fp,PTs (aN X NY scope s H C fp) ifs (tT X.K (bo ix) noX cm)) (he:∀ s H C fp,RE (aN X NY scope s H C fp) (bo ix) noX elt em) (f:gr scope X.N X.env.scope NY ix=true) (c:Inj ix) (hs:∀ x,foldedSetIterable iter X.env x=pure x) (b:∃ a,Bnd X.K (bo ix).pr a bnd/\∀ s H C fp,PG (aN X NY scope s H C fp) tg a):RE X G0 W0 (.ListComp elt [⟨tg,iter,ifs,0⟩] scope pos) (cy im bnd cm em ix):=by
 obtain ⟨a,b1,b2⟩:=b
 exact ⟨PE.imp (AK NY ix d hi.h b2 e (λs H C fp=>(he s H C fp).h) f hs) λ_ _ _ h=>z5 szl c b1 h⟩
end
end L3
end
section
namespace L3
open PySem L2
noncomputable def au (F:Fn) (ms:M3 (List R3)):EM:=af ms λrs=>λρ=>match prs (frz (dQ rs) ρ) rs with
 | none=>none
 | some ps=>match F ps with
  | none=>none
  | some (.ok p,qs)=>if qs.length=ps.length then some (.ok (.val p.1 p.2),back rs ps qs (frz (dQ rs) ρ)) else none
  | some (.error _,_)=>none
def qX (K:FG) (F:Fn):Sp:=λvs H Q _=>∃ (ps:List It3) (p:D×Fl) (fs:List (D×Fl)),vs=ps.map (·.v)/\(∀ p∈ps,Arg K H p)/\ps.Pairwise Apart3/\F (ps.map λp=>(p.d,p.f))=some (.ok p,fs) /\
 ∀ x qs H',Behind K H H' ps qs x->x.d=p.1->x.f=p.2->qs.map (λq=>(q.d,q.f))=fs->Q x.v H'
section
variable {K:FG} {G G0:Gm} {W W0:D->Sto->Prop} {H H':Hp} {σ:St} {ρ ρ':Sto} {T T':List It3} {g:Nat->Option It3} {x y z:It3} {α β:Type}
theorem pD (h:tE K G0 W0 (au F ms) σ H Q):tA K G0 W0 ms σ H λvs H1=>qX K F vs H1 Q E0:=by
 refine h.use λG W le ρ T g o ρ' w e q=>?_
 refine tA.seq le w e q.err λrs ρ1 e1 vs H1 Ts g1 s a1=>?_
 obtain ⟨g2,c,A⟩:=Wf.frz (is:=dQ rs) s
 cases j:prs (L3.frz (dQ rs) ρ1) rs with
 | none=>rw[j] at e1;exact nsE e1
 | some pfs =>
  rw[j] at e1
  dsimp only at e1
  have hd:∀ i,2<=(pls rs).count i->∀ y,g2 i=some y->y.f=.z:=λi I y n=>by
   have hm:i∈dQ rs:=FC.mpr ⟨List.count_pos_iff.mp (by lia),by simpa using I⟩
   have s1:=c.sl i
   rw[n] at s1
   have J:∃ y0,g1 i=some y0:=by
    cases N:g1 i with
    | some y0=>exact ⟨y0,rfl⟩
    | none =>
     exfalso
     have s2:=s.sl i
     rw[N] at s2
     have:=lN (is:=dQ rs) s2.symm
     rw[this] at s1
     cases s1
   obtain ⟨y0,l⟩:=J
   obtain ⟨P,b,_,E⟩:=A i y0 l
   rw[n] at b
   cases b
   exact E hm
  obtain ⟨ps,f1,f2,u,f4,O⟩:=Ars.args a1 c hd j
  have hit:∀ p∈ps,Itm (Ts++T) g2 p:=λp k=>by
   rcases f4 p k with ⟨i,_,C⟩ | h
   ·exact .inl ⟨i,C⟩
   ·exact .inr (E3 _ h)
  have d:∀ p∈ps,Arg K H1 p:=λp k=>⟨(c.itm (hit p k)).rep,λhf=>by
   obtain ⟨m,a,L',v1,v2,v3,_⟩:=(c.itm (hit p k)).own hf
   exact ⟨m,a,L',v1,v2,v3⟩⟩
  subst f2
  cases b:F pfs with
  | none=>rw[b] at e1;exact nsE e1
  | some r =>
   obtain ⟨out,fs⟩:=r
   rw[b] at e1
   cases out with
   | ok p =>
    dsimp only at e1
    split at e1
    ·cases e1
     refine ⟨ps,p,fs,rfl,d,u,by rw[f1];exact b,?_⟩
     intro x qs H' B x1 D L
     obtain ⟨g',R,M⟩:=Wf.after c j f1 f4 O B.toBehindX
     have t:=M x B.rep B.own B.src B.apx
     rw[L] at t
     rw[<- x1,<- D] at q
     exact q x.v H' ⟨[x],g',t,.val x⟩
    ·exact nsE e1
   | error er=>exact nsE e1
def cf (b:Bool) (p:It3):It3:=if b then cP p else p
theorem jH:∀ {mask:List Bool} {ps:List It3},(List.zipWith cf mask ps).map (λp=>(p.d,p.f))=List.zipWith mn mask (ps.map λp=>(p.d,p.f))
 | [],_=>rfl
 | _::_,[]=>rfl
 | b::mask,p::ps=>by
  simp only[List.zipWith_cons_cons,Fm,jH]
  cases b <;> rfl
theorem m8 {i:Nat} (h:(List.zipWith cf mask ps)[i]?=some q):∃ b p,mask[i]?=some b/\ps[i]?=some p/\q=cf b p:=by grind
theorem jl {i:Nat} (hl:ps.length=mask.length) (h:ps[i]?=some p):∃ b,mask[i]?=some b/\(List.zipWith cf mask ps)[i]?=some (cf b p):=by
 have hi:i < mask.length:=by have:=(Fb.mp h).1;omega
 simp_all
theorem bd (b:Bool) (p:It3):(cf b p).d=p.d/\(cf b p).v=p.v/\(cf b p).L=p.L/\((cf b p).f=p.f\/(cf b p).f=.z):=by
 cases b
 ·exact ⟨rfl,rfl,rfl,.inl rfl⟩
 ·exact ⟨rfl,rfl,rfl,.inr rfl⟩
theorem NoRoot.low (h:NoRoot a b) (g:a'.v=a.v) (hf:a'.f=a.f\/a'.f=.z) (d:b'.L=b.L):NoRoot a' b':=λq c e=>by
 rw[d]
 rcases hf with f | f
 ·exact h (by rw[<- f];exact q) c (by rw[<- g];exact e)
 ·exact absurd f q
def prM (mask:List Bool) (i:Nat):Bool:=match mask[i]? with
 | some b=>!b
 | none=>false
theorem tU {f:α->β} {l:List α} {i:Nat} {a:α} (h:l[i]?=some a):(l.map f)[i]?=some (f a):=by rw[Ff,h];rfl
set_option tactic.hygienic true in
theorem oU {n:Nat} (hn:mask.length<=n) (h:qX K (fnM mask n m) vs H Q E) :
  ∃ G:Gm,G.pr=prM mask/\tS K G noX m { nx:=λ_ H'=>Q .non H',rt:=Q } (vs.map some++List.replicate (n - vs.length) none) H:=by
 obtain ⟨ps,p,fs,rfl,ha,hp,l,q⟩:=h
 unfold fnM at l
 rw[Fa] at l
 split at l
 ·rename_i hl
  rw[<- jH] at l
  generalize w:List.zipWith cf mask ps=g at l
  have Y:g.length=ps.length:=by rw[<- w,List.length_zipWith];lia
  have R:g.map (·.v)=ps.map (·.v):=by
   refine List.ext_getElem? λi=>?_
   rw[Ff,Ff]
   cases e:ps[i]? with
   | none=>rw[List.getElem?_eq_none (by have:=List.getElem?_eq_none_iff.mp e;lia)]
   | some u =>
    obtain ⟨b,_,t⟩:=jl (mask:=mask) hl e
    rw[w] at t
    rw[t]
    show some (cf b u).v=some u.v
    rw[(bd b u).2.1]
  have up:∀ (i:Nat) (u:It3),g[i]?=some u->∃ b s,mask[i]?=some b/\ps[i]?=some s/\u=cf b s:=λi u e=>by rw[<- w] at e;exact m8 e
  have A:∀ u∈g,∃ b s,s∈ps/\u=cf b s:=λu hu=>by
   obtain ⟨i,hi,e⟩:=List.mem_iff_getElem.mp hu
   obtain ⟨b,s,_,t,y⟩:=up i u (by rw[E6 hi,e])
   exact ⟨b,s,Fc t,y⟩
  have N:∀ u∈g,Arg K H u:=λu hu=>by
   obtain ⟨b,s,h0,rfl⟩:=A u hu
   obtain ⟨e1,t,y,V⟩:=bd b s
   refine ⟨by rw[e1,t,y];exact (ha s h0).rep,λhf=>?_⟩
   rw[e1,t,y]
   refine (ha s h0).own λz=>hf ?_
   rcases V with f | f
   ·rw[f];exact z
   ·exact f
  have I:g.Pairwise Apart3:=by
   rw[List.pairwise_iff_getElem]
   intro i j hi hj lt
   obtain ⟨b,s,_,t,y⟩:=up i _ (E6 hi)
   obtain ⟨C,U,_,T,ae⟩:=up j _ (E6 hj)
   have ap:=ce hp (λ_ _=>Apart3.symm) (Fi lt) t T
   rw[y,ae]
   obtain ⟨_,a2,a3,S⟩:=bd b s
   obtain ⟨_,b2,b3,b4⟩:=bd C U
   exact ⟨ap.1.low a2 S b3,ap.2.low b2 b4 a3⟩
  have M:∀ (i:Nat) (u:It3),g[i]?=some u->u.f≠.z->prM mask i=true:=λi u e hf=>by
   obtain ⟨b,s,e1,t,y⟩:=up i u e
   unfold prM
   rw[e1]
   cases b with
   | false=>rfl
   | true=>rw[y] at hf;exact absurd rfl hf
  have alls:∀ c,cI g c->cI ps c:=λc ⟨u,hu,P⟩=>by
   obtain ⟨b,s,h0,rfl⟩:=A u hu
   exact ⟨s,h0,by rw[<- (bd b s).2.2.1];exact P⟩
  have lift:∀ {H':Hp} {qs:List It3},BehindX K H H' g qs->BehindX K H H' ps qs:=λ{H' qs} B=>by
   refine ⟨λb o hb hn=>B.frame b o hb λu hu hf R=>?_,Paired.ofGet ?_ λk u v eu ev=>?_,B.apart⟩
   ·obtain ⟨C,s,h0,rfl⟩:=A u hu
    obtain ⟨_,t,_,V⟩:=bd C s
    rcases V with f | f
    ·exact hn s h0 (by rw[<- f];exact hf) (by rw[<- t];exact R)
    ·rw[f] at hf;cases hf
   ·rw[<- Y];exact Paired.length B.back
   ·obtain ⟨b,_,t⟩:=jl (mask:=mask) hl eu
    rw[w] at t
    have b1:=Paired.at B.back t ev
    obtain ⟨a1,a2,a3,S⟩:=bd b u
    refine ⟨λhz=>?_,by rw[b1.v,a2],?_,b1.arg,λc P=>(b1.src c P).imp id (alls c),λhf C O=>?_⟩
    ·have:cf b u=u:=by
      cases b
      ·rfl
      ·obtain ⟨d,v,L,f⟩:=u
       have hz:f=.z:=hz
       subst hz;rfl
     rw[<- this]
     exact b1.z (by rw[this];exact hz)
    ·rcases b1.f with h | h
     ·rcases S with f | f
      ·exact .inl (h.trans f)
      ·exact .inr (h.trans f)
     ·exact .inr h
    ·rcases S with f | f
     ·exact b1.there (by rw[f];exact hf) C (by rw[a2];exact O)
     ·-- lowered: as it was
      obtain ⟨_,a,L',v1,v2,_⟩:=(ha u (Fc eu)).own (by rw[hf];intro q;cases q)
      rw[O] at v1;cases v1
      have W:=b1.z f
      have r:=b1.arg.rep
      rw[W,a1,a2,a3] at r
      exact (r.inH C (by rw[v2];exact EW)).ex
  have X:g.length<=n:=by lia
  have wf:=pq (K:=K) (H:=H) (n:=n) (pr:=prM mask) X N I M
  rw[R] at wf
  refine ⟨gOf H (prM mask) ((ps.map (·.v)).map some++List.replicate (n - (ps.map (·.v)).length) none) g,rfl,?_⟩
  have h0:∀ (i:Nat) (u:It3),g[i]?=some u->((ps.map (·.v)).map some++List.replicate (n - (ps.map (·.v)).length) none)[i]?=some (some u.v):=λi u e=>jD (by rw[<- R];exact tU e)
  unfold fn0 at l
  cases e:m (entry n (g.map λp=>(p.d,p.f))) with
  | none=>rw[e] at l;exact nsE l
  | some rr =>
   obtain ⟨r,ρ2⟩:=rr
   rw[e] at l
   refine tS.mk (r:=r) (Le.refl K _ _) wf e ?_
   have fin:∀ {x:It3} {σ':St} {H':Hp} {g':Nat->Option It3} {d:D} {f:Fl},Wf K (gOf H (prM mask) ((ps.map (·.v)).map some++List.replicate (n - (ps.map (·.v)).length) none) g) H' σ' ρ2 [x] g'->x.d=d->x.f=f ->
     ((dC ρ2 0 (g.map λp=>(p.d,p.f))).map λfs=>((.ok (d,f),fs):Except D (D×Fl)×List (D×Fl)))=some (.ok p,fs)->Q x.v H':=λ{x σ' H' g' d f} J xd xf l=>by
    cases F:dC ρ2 0 (g.map λp=>(p.d,p.f)) with
    | none=>rw[F] at l;exact nsE l
    | some fs' =>
     rw[F] at l
     cases l
     obtain ⟨qs,B,W⟩:=lZ (n:=n) N I M h0 J F
     have BX:=lift B.toBehindX
     exact q x qs H' ⟨BX,B.rep,B.own,λc P=>(B.src c P).imp id (alls c),B.apx⟩ xd xf W
   cases r with
   | error er=>
    dsimp only at l
    cases F:dC ρ2 0 (g.map λp=>(p.d,p.f)) with
    | none=>rw[F] at l;exact nsE l
    | some fs'=>rw[F] at l;cases l
   | ok fl =>
    cases fl with
    | nx =>
     intro σ' H' g' J
     obtain ⟨Ts,g2,w2,a2⟩:=J.const .non
     obtain ⟨x,rfl,x1,Z,x3⟩:=a2.val_inv
     have:=fin w2 x1 Z l
     rw[x3] at this
     exact this
    | br=>exact nsE l
    | ct=>exact nsE l
    | rt d f =>
     intro x σ' H' g' J x1 Z
     exact fin J x1 Z l
 ·exact nsE l
end
abbrev aY (P:Program) (w:World) (K:FG) (mg:Str->Option Value) (base:Heap) (x:Str) (k:Nat) (ps:List Str) (F:Fn):Prop:=Callee P w K mg base x k ps (qX K F)
theorem bq {k:Nat} {nn:Nat} (D:Def K mg x st) (S:FnScope N ps (ad st)) (c:mask.length=ps.length) (b:N.length=nn) (g:∀ (kV doc pm:Value) (an:Option Addr) (a ct:Value) (us:List Value),us.length=ps.length->bindArgs (PySem.W.fnOf x x (aH st) (aw st) (ad st) .none kV doc pm an a ct) ⟨us,[]⟩=pure (ps.zip us)) (body:∀ (a:Value) (A:Around) (outer:List Env) (s:Shared) (H:Hp) (E:XK) (f:Addr) (G:Gm),Room k (A.deeper (PyProof.Rows.envOfC x (ad st) s.heap.objs.size f a))->G.pr=prM mask->RSs (dn CX0 P w K mg base N x (ad st) f a A outer s H E).nox G noX (aw st) m) :
  aY P w K mg base x (k+1) ps (fnM mask nn m):=by
 refine D.callee g λf fd F=>F.ok S (λvs H Q E h=>?_) λa A outer s H vs Q E i h=>?_
 ·obtain ⟨d,p,fs,rfl,_,_,j,_⟩:=h
  unfold fnM at j
  grind
 ·have hle:mask.length<=nn:=by
   rw[c,<- b]
   have:=congrArg List.length S.pre
   rw[Fv] at this
   omega
  obtain ⟨G,e,l⟩:=oU hle h
  subst b
  exact ⟨_,(body a A outer s H E f G i e).h,l⟩
theorem AA {k:Nat} (c:aY X.prog X.w X.K X.mg X.base x k ps F) (f:Room k X.A) (g:RA X G0 W0 (e::es) ms) (d:Gl X x) (b:(x == ("__debug__":Str))=false) (he:starEach (e::es) X.env=(false,eval e X.env)::starEach es X.env) (a:(backTo pos (starEach es X.env)).any (·.1)=false):RE X G0 W0 (.Call (.Name x p) (e::es) [] pos) (au F ms) :=
 ⟨PE.imp (pe_fn c f g.h d b he a) λ_ _ _ h=>pD h⟩
end L3
end
section
namespace L3
open PySem L2
def orD (f g:D->D->Option (D×Fl)) (a b:D):Option (D×Fl):=match f a b with
 | some p=>some p
 | none=>g a b
section
variable {K:FG} {H:Hp} {Ks:Addr->Prop} {d:D} {v:V} {L:List Addr} {X:Cx}
theorem cF (r:Rep K H d v []):New K H H Ks ⟨d,v,[],.z⟩:=⟨Same.refl _,r,λ_ h=>(by cases h),λh=>absurd rfl h⟩
theorem p7 (r:Rep K H d v L) (h:∀ c∈L,Ks c):New K H H Ks ⟨d,v,L,.z⟩:=⟨Same.refl _,r,λc a=>.inr (h c a),λh=>absurd rfl h⟩
theorem vi (a:H p=none) (r:Reps (Rep K H) ds vs L) (h:∀ c∈L,Ks c):New K H (upd H p (.lst vs)) Ks ⟨.lst ds,.ref p,p::L,.u⟩:=by
 have np:p ∉ L:=λb=>by obtain ⟨o,d⟩:=(r.inH p b).ex;rw[a] at d;exact nsE d
 refine ⟨bc a,.lst aA (r.same (bc a)),λc b=>?_,λ_=>⟨rfl,p,L,rfl,rfl,np,a⟩⟩
 grind
theorem xV (a:H p=none) (r:Reps (Rep K H) ds vs L) (h:∀ c∈L,Ks c):New K H (upd H p (.tup vs)) Ks ⟨.tup ds,.ref p,L,.z⟩ :=
 ⟨bc a,.tup aA (r.same (bc a)),λc b=>.inr (h c b),λh=>absurd rfl h⟩
theorem jM (a:y∈ys) (h:Arg K H y) (hm:jo y.d=false):∀ c∈y.L,dq ys c:=λc b=>⟨y,a,b,λhf=>by
 have:=(h.own hf).1
 rw[hm] at this;cases this⟩
theorem oP (g:y∈ys) (h:Arg K H y) (f:y.v=.ref a) (b:y.L=a::L):∀ c∈L,dq ys c:=λc d=>⟨y,g,by rw[b];exact EY _ d,λhf e=>by
 obtain ⟨_,i,L',v1,v2,v3⟩:=h.own hf
 rw[f] at v1;cases v1
 rw[b] at v2;cases v2
 rw[f] at e;cases e
 exact v3 d⟩
theorem OpD.or (h:OpD K r f) (h':OpD K r' g):OpD K (λx y H Q=>r x y H Q\/r' x y H Q) (orD f g):=λa b H Q p ra rb e q=>by
 unfold orD at e
 cases c:f a.d b.d with
 | some p'=>rw[c] at e;cases e;exact .inl (h a b H Q _ ra rb c q)
 | none=>rw[c] at e;exact .inr (h' a b H Q p ra rb e q)
def cR (C:Int->Int->Bool) (g:Int->Int->D):D->D->Option (D×Fl)
 | .int i,.int j=>if C i j then some (g i j,.z) else none
 | _,_=>none
set_option tactic.hygienic true in
theorem jr (f:∀ i j,Cb i j=true->C i j) (c:∀ i j H,Rep K H (gd i j) (g i j) []):OpD K (rI C g) (cR Cb gd):=λa b H Q p ra rb e q=>by
 obtain ⟨da,r,o,n⟩:=a
 obtain ⟨db,h,l,m⟩:=b
 obtain ⟨ra,k⟩:=ra
 obtain ⟨rb,ob⟩:=rb
 dsimp only at ra rb
 cases da <;> try (exact nsE e)
 rename_i i
 obtain ⟨rfl,rfl⟩:=ra.view
 cases db <;> try (exact nsE e)
 rename_i j
 obtain ⟨rfl,rfl⟩:=rb.view
 have e:(if Cb i j then some (gd i j,Fl.z) else none)=some p:=e
 split at e
 ·rename_i d
  cases e
  exact ⟨i,j,rfl,rfl,f i j d,q ⟨gd i j,g i j,[],.z⟩ H (cF (c i j H)) rfl rfl⟩
 ·exact nsE e
theorem rI_of:rI0 g=rI (λ_ _=>True) g:=by
 funext x y H Q
 unfold rI0 rI
 grind
theorem jq (a:∀ i j H,Rep K H (gd i j) (g i j) []):OpD K (rI0 g) (cR (λ_ _=>true) gd):=by
 rw[rI_of]
 exact jr (λ_ _ _=>trivial) a
abbrev uC:Int->Int->Bool:=λ_ _=>true
abbrev addI:=cR uC λi j=>.int (i+j)
abbrev eS:=cR uC λi j=>.int (i - j)
abbrev dy:=cR (λi j=>decide ((-(2 ^ 64) < i/\i < 2 ^ 64)\/(-(2 ^ 64) < j/\j < 2 ^ 64))) λi j=>.int (i * j)
abbrev rK:=cR (λ_ j=>decide (0 < j)) λi j=>.int (i % j)
abbrev rD:=cR (λi j=>decide (0<=j/\j<=1000000/\i.natAbs < 2 ^ 64)) λi j=>.int (i ^ j.toNat)
abbrev ltI:=cR uC λi j=>.bl (decide (i < j))
abbrev leI:=cR uC λi j=>.bl (decide (i<=j))
theorem od_addI:OpD K (rI0 λi j=>.int (i+j)) addI:=jq λi j _=>.int _
theorem AR:OpD K (rI0 λi j=>.int (i - j)) eS:=jq λi j _=>.int _
theorem AU:OpD K (rI CMul λi j=>.int (i * j)) dy:=jr (λi j h=>by simpa[CMul,wq,zM] using h) λi j _=>.int _
theorem AV:OpD K (rI (λ_ j=>0 < j) λi j=>.int (i % j)) rK:=jr (λi j h=>by simpa[CMul,wq,zM] using h) λi j _=>.int _
theorem AS:OpD K (rI zM λi j=>.int (i ^ j.toNat)) rD:=jr (λi j h=>by simpa[CMul,wq,zM] using h) λi j _=>.int _
theorem B2:OpD K (rI0 λi j=>.bl (decide (i < j))) ltI:=jq λi j _=>.bl _
theorem B3:OpD K (rI0 λi j=>.bl (decide (i<=j))) leI:=jq λi j _=>.bl _
def sf:D->D->Option (D×Fl)
 | .tup xs,.tup ys=>if xs.length+ys.length<=16777216 then some (.tup (xs++ys),.z) else none
 | _,_=>none
def sh:D->D->Option (D×Fl)
 | .lst xs,.lst ys=>if xs.length+ys.length<=16777216 then some (.lst (xs++ys),.u) else none
 | _,_=>none
def sg:D->D->Option (D×Fl)
 | .str xs,.str ys=>if xs.length+ys.length<=16777216 then some (.str (xs++ys),.z) else none
 | _,_=>none
theorem Reps.len (r:Reps (Rep K H) ds vs L):ds.length=vs.length:=by
 induction r with
 | nil=>rfl
 | cons _ _ ih=>simp[ih]
theorem Reps.append (r:Reps (Rep K H) ds vs L) (b:Reps (Rep K H) ds' vs' L'):Reps (Rep K H) (ds++ds') (vs++vs') (L++L'):=by
 induction r with
 | nil=>exact b
 | cons a _ ih=>rw[List.append_assoc];exact .cons a ih
theorem Reps.nil_iff (r:Reps (Rep K H) ds vs L):ds=[] ↔ vs=[]:=by cases r <;> simp
def om (K:FG):R2:=λx y H Q=>∃ a b ys,x=.ref a/\y=.ref b/\SqT K H a []/\SqT K H b ys/\Q (.ref b) H
theorem xS:OpR X (binaryOp .Add) (om X.K):=by
 intro pins s σ H x y v u Q I t z h
 obtain ⟨a,b,ys,rfl,rfl,r,p,q⟩:=h
 cases t
 cases z
 obtain ⟨its,w,o,_⟩:=I.tuple r
 obtain ⟨i,A,p2,_⟩:=I.tuple p
 have e:its=[]:=w.nil_iff.mpr rfl
 subst e
 obtain ⟨⟨cls,dd,data,sl⟩,l,k,n,hd⟩:=id o
 obtain ⟨⟨j,f,data2,g⟩,d,c,m,hd2⟩:=id p2
 simp only at k hd c hd2
 subst k hd c hd2
 exact concat_meets ⟨_,l,rfl⟩ ⟨_,d,rfl⟩ noFill_tuple_add seq_tuple_add PySem.F.slot_tuple_add PySem.F.entry_tuple_add (PySem.F.args_tuple_add_2 _ _)
   (PyProof.Rows.tuple_addW0 a b _ _ n m dd f sl g (by simp)) ⟨l,d,⟨.ref b,H,I,rfl,q⟩⟩
set_option tactic.hygienic true in
theorem od_catT:OpD K (λx y H Q=>tz K x y H Q\/om K x y H Q) sf:=λa b H Q p ra rb e q=>by
 obtain ⟨da,w,k,t⟩:=a
 obtain ⟨db,A,l,s⟩:=b
 obtain ⟨ra,r⟩:=ra
 obtain ⟨rb,ob⟩:=rb
 dsimp only at ra rb
 cases da <;> try (exact nsE e)
 rename_i xs
 obtain ⟨i,vs,rfl,g,rs⟩:=ra.view
 cases db <;> try (exact nsE e)
 rename_i ys
 obtain ⟨j,ws,rfl,f,d⟩:=rb.view
 have e:(if xs.length+ys.length<=16777216 then some (D.tup (xs++ys),Fl.z) else none)=some p:=e
 split at e
 ·rename_i hl
  cases e
  by_cases o:vs=[]
  ·have n:=rs.nil_iff.mpr o
   subst o n
   refine .inr ⟨i,j,ws,rfl,rfl,SqT.of g,SqT.of f,?_⟩
   exact q ⟨.tup ys,.ref j,l,.z⟩ H (p7 (.tup f d) (jM (y:=⟨.tup ys,.ref j,l,s⟩) (EY _ (Fz.mpr rfl)) ⟨.tup f d,ob⟩ rfl)) rfl rfl
  ·refine .inl ⟨i,j,vs,ws,rfl,rfl,SqT.of g,SqT.of f,o,by rw[<- rs.len,<- d.len,<- szl];exact hl,λhw=>?_,λhw p v=>?_⟩
   ·have m:=d.nil_iff.mpr hw
    subst m
    refine q ⟨.tup (xs++[]),.ref i,k,.z⟩ H (p7 (by rw[List.append_nil];exact .tup g rs) (jM (y:=⟨.tup xs,.ref i,k,t⟩) EW ⟨.tup g rs,r⟩ rfl)) rfl rfl
   ·refine q ⟨.tup (xs++ys),.ref p,k++l,.z⟩ _ (xV v (rs.append d) λc u=>?_) rfl rfl
    rcases E8.mp u with h | h
    ·exact jM (y:=⟨.tup xs,.ref i,k,t⟩) EW ⟨.tup g rs,r⟩ rfl c h
    ·exact jM (y:=⟨.tup ys,.ref j,l,s⟩) (EY _ (Fz.mpr rfl)) ⟨.tup f d,ob⟩ rfl c h
 ·exact nsE e
set_option tactic.hygienic true in
theorem AY:OpD K AB sh:=λa b H Q p ra rb e q=>by
 obtain ⟨da,v,i,r⟩:=a
 obtain ⟨db,t,g,o⟩:=b
 obtain ⟨ra,n⟩:=ra
 obtain ⟨rb,ob⟩:=rb
 dsimp only at ra rb
 cases da <;> try (exact nsE e)
 rename_i xs
 obtain ⟨j,vs,i,rfl,rfl,l,rs⟩:=ra.view
 cases db <;> try (exact nsE e)
 rename_i ys
 obtain ⟨f,ws,g,rfl,rfl,k,d⟩:=rb.view
 have e:(if xs.length+ys.length<=16777216 then some (D.lst (xs++ys),Fl.u) else none)=some p:=e
 split at e
 ·rename_i hl
  cases e
  refine ⟨j,f,vs,ws,rfl,rfl,l,k,by rw[<- rs.len,<- d.len,<- szl];exact hl,λp s=>?_⟩
  refine q ⟨.lst (xs++ys),.ref p,p::(i++g),.u⟩ _ (vi s (rs.append d) λc m=>?_) rfl rfl
  rcases E8.mp m with h | h
  ·exact oP (y:=⟨.lst xs,.ref j,j::i,r⟩) EW ⟨.lst l rs,n⟩ rfl rfl c h
  ·exact oP (y:=⟨.lst ys,.ref f,f::g,o⟩) (EY _ (Fz.mpr rfl)) ⟨.lst k d,ob⟩ rfl rfl c h
 ·exact nsE e
set_option tactic.hygienic true in
theorem od_catS:OpD K (λx y H Q=>∃ i j,x=.str i/\y=.str j/\i.length+j.length<=sizeLine/\Q (.str (i++j)) H) sg:=λa b H Q p ra rb e q=>by
 obtain ⟨da,k,l,h⟩:=a
 obtain ⟨db,c,f,g⟩:=b
 obtain ⟨ra,d⟩:=ra
 obtain ⟨rb,ob⟩:=rb
 dsimp only at ra rb
 cases da <;> try (exact nsE e)
 rename_i i
 obtain ⟨rfl,rfl⟩:=ra.view
 cases db <;> try (exact nsE e)
 rename_i j
 obtain ⟨rfl,rfl⟩:=rb.view
 have e:(if i.length+j.length<=16777216 then some (D.str (i++j),Fl.z) else none)=some p:=e
 split at e
 ·rename_i hl
  cases e
  exact ⟨i,j,rfl,rfl,by rw[<- szl];exact hl,q ⟨.str (i++j),.str (i++j),[],.z⟩ H (cF (.str _)) rfl rfl⟩
 ·exact nsE e
abbrev bg:=orD addI (orD sg (orD sf sh))
theorem DP:OpD K (λx y H Q=>rI0 (λi j=>.int (i+j)) x y H Q\/((∃ i j,x=.str i/\y=.str j/\i.length+j.length<=sizeLine/\Q (.str (i++j)) H)\/((tz K x y H Q\/om K x y H Q)\/AB x y H Q))) bg:=od_addI.or (od_catS.or (od_catT.or AY))
theorem AO:OpR X (binaryOp .Add) (λx y H Q=>rI0 (λi j=>.int (i+j)) x y H Q\/((∃ i j,x=.str i/\y=.str j/\i.length+j.length<=sizeLine/\Q (.str (i++j)) H)\/((tz X.K x y H Q\/om X.K x y H Q)\/AB x y H Q))):=op_add.or (op_add_str.or ((op_catT.or xS).or DL))
def eqS:D->D->Option Bool
 | .non,.non=>some true | .non,.int _=>some false | .int _,.non=>some false | .non,.bl _=>some false | .bl _,.non=>some false | .non,.str _=>some false | .str _,.non=>some false
 | .int i,.int j=>some (decide (i=j)) | .bl i,.bl j=>some (decide (i=j)) | .str i,.str j=>some (decide (i=j))
 | .int _,.str _=>some false | .str _,.int _=>some false | .bl _,.str _=>some false | .str _,.bl _=>some false
 | _,_=>none
theorem yY (ra:Rep K H a u L) (rb:Rep K H b v L') (e:eqS a b=some k):CT u v=true/\k=decide (u=v):=by
 cases a <;> cases b <;> first | exact nsE e | (obtain ⟨rfl,rfl⟩:=ra.view;obtain ⟨rfl,rfl⟩:=rb.view;cases e;exact ⟨rfl,by simp⟩)
def kc:D->Bool
 | .non=>true
 | _=>false
def isN:D->D->Option (D×Fl)
 | a,.non=>some (.bl (kc a),.z)
 | _,_=>none
def lA:D->D->Option (D×Fl)
 | a,.non=>some (.bl (!kc a),.z)
 | _,_=>none
theorem Rep.non_iff (ra:Rep K H a u L):kc a=decide (u=.non):=by cases ra <;> simp[kc]
theorem AT:OpD K (λx y H Q=>y=.non/\Q (.bl (!decide (x=.non))) H) lA:=λa b H Q p ra rb e q=>by
 obtain ⟨db,c,f,d⟩:=b
 obtain ⟨rb,ob⟩:=rb
 dsimp only at rb
 cases db <;> try (exact nsE e)
 obtain ⟨rfl,rfl⟩:=rb.view
 unfold lA at e
 cases e
 refine ⟨rfl,?_⟩
 rw[<- ra.rep.non_iff]
 exact q ⟨_,_,[],.z⟩ H (cF (.bl _)) rfl rfl
def oF:D->Option (D×Fl)
 | .int i=>some (.int (-i),.z)
 | _=>none
theorem Cp:UnD K (rU λi=>.int (-i)) oF:=λa H Q p ra e q=>by
 obtain ⟨da,d,c,b⟩:=a
 obtain ⟨ra,f⟩:=ra
 dsimp only at ra
 cases da <;> try (exact nsE e)
 obtain ⟨rfl,rfl⟩:=ra.view
 cases e
 exact ⟨_,rfl,q ⟨_,_,[],.z⟩ H (cF (.int _)) rfl rfl⟩
theorem Reps.at:∀ {ds:List D} {vs:List V} {L:List Addr} {i:Nat} {d:D},Reps (Rep K H) ds vs L->ds[i]?=some d->∃ v L',vs[i]?=some v/\Rep K H d v L'/\∀ c∈L',c∈L
 | _,_,_,_,_,.nil,h=>by simp at h
 | _,_,_,0,_,.cons r _,h=>by simp at h;subst h;exact ⟨_,_,rfl,r,λc a=>E3 _ a⟩
 | _,_,_,i+1,_,.cons _ t,h=>by
  obtain ⟨v,L',h1,h2,h3⟩:=Reps.at (i:=i) t (by simpa using h)
  exact ⟨v,L',by simpa using h1,h2,λc a=>E4 _ (h3 c a)⟩
theorem Reps.atI {i:Int} (r:Reps (Rep K H) ds vs L) (h:atI ds i=some d):∃ v L',atI vs i=some v/\Rep K H d v L'/\∀ c∈L',c∈L:=by
 unfold L2.atI at h ⊢
 rw[<- r.len]
 cases e:ixN ds.length i with
 | none=>rw[e] at h;exact nsE h
 | some j=>rw[e] at h;exact r.at h
def ixD:D->D->Option (D×Fl)
 | .lst xs,.int i=>(atI xs i).map λd=>(d,.z)
 | .fls xs,.int i=>(atI xs i).map λd=>(d,.z)
 | .tup xs,.int i=>(atI xs i).map λd=>(d,.z)
 | _,_=>none
set_option tactic.hygienic true in
theorem od_ix:OpD K (λx y H Q=>xx K x y H Q\/xw K x y H Q) ixD:=λa b H Q p ra rb e q=>by
 obtain ⟨da,m,k,l⟩:=a
 obtain ⟨db,n,r,s⟩:=b
 obtain ⟨rb,ob⟩:=rb
 have g:=ra
 obtain ⟨ra,o⟩:=ra
 dsimp only at ra rb
 cases da <;> try (exact nsE e)
 all_goals (cases db <;> try (exact nsE e))
 all_goals (rename_i xs i;obtain ⟨rfl,rfl⟩:=rb.view)
 ·obtain ⟨f,vs,rfl,h,rs⟩:=ra.view
  obtain ⟨d,h1,h2⟩:=E2.mp (show (atI xs i).map (λd=>(d,Fl.z))=some p from e)
  subst h2
  obtain ⟨v,L',g1,g2,g3⟩:=rs.atI h1
  refine .inr ⟨f,vs,i,v,rfl,rfl,SqT.of h,g1,q ⟨d,v,L',.z⟩ H (p7 g2 λc j=>?_) rfl rfl⟩
  exact jM (y:=⟨.tup xs,.ref f,k,l⟩) EW g rfl c (g3 c j)
 ·obtain ⟨f,vs,k,rfl,rfl,h,rs⟩:=ra.view
  obtain ⟨d,h1,h2⟩:=E2.mp (show (atI xs i).map (λd=>(d,Fl.z))=some p from e)
  subst h2
  obtain ⟨v,L',g1,g2,g3⟩:=rs.atI h1
  refine .inl ⟨f,vs,i,v,rfl,rfl,SqL.of h,g1,q ⟨d,v,L',.z⟩ H (p7 g2 λc j=>?_) rfl rfl⟩
  exact oP (y:=⟨.lst xs,.ref f,f::k,l⟩) EW g rfl rfl c (g3 c j)
 ·obtain ⟨f,vs,rfl,h,rs⟩:=ra.view
  obtain ⟨d,h1,h2⟩:=E2.mp (show (atI xs i).map (λd=>(d,Fl.z))=some p from e)
  subst h2
  obtain ⟨v,L',g1,g2,g3⟩:=rs.atI h1
  refine .inl ⟨f,vs,i,v,rfl,rfl,h.sq,g1,q ⟨d,v,L',.z⟩ H (p7 g2 λc j=>?_) rfl rfl⟩
  exact jM (y:=⟨.fls xs,.ref f,k,l⟩) EW g rfl c (g3 c j)
theorem ix_ok:IxR X (λx y H Q=>xx X.K x y H Q\/xw X.K x y H Q):=ix_list.or Eh
end
end L3
end
section
namespace L3
open PySem L2
def orC (f g:List D->Option (D×Fl)) (a:List D):Option (D×Fl):=match f a with
 | some p=>some p
 | none=>g a
section
variable {K:FG} {H:Hp} {Ks:Addr->Prop} {d:D} {v:V} {L:List Addr} {X:Cx}
def c1 (f:D->Option (D×Fl)):List D->Option (D×Fl)
 | [d]=>f d
 | _=>none
def c2 (f:D->D->Option (D×Fl)):List D->Option (D×Fl)
 | [d,d']=>f d d'
 | _=>none
theorem gw {ys:List It3} (e:c1 f (ys.map (·.d))=some p):∃ y,ys=[y]/\f y.d=some p:=by
 match ys,e with
 | [],e=>exact nsE e
 | [y],e=>exact ⟨y,rfl,e⟩
 | _::_::_,e=>exact nsE e
theorem lY {ys:List It3} (e:c2 f (ys.map (·.d))=some p):∃ y z,ys=[y,z]/\f y.d z.d=some p:=by
 match ys,e with
 | [],e=>exact nsE e
 | [_],e=>exact nsE e
 | [y,z],e=>exact ⟨y,z,rfl,e⟩
 | _::_::_::_,e=>exact nsE e
def qp:D->Option (D×Fl)
 | .lst xs=>some (.int xs.length,.z)
 | .fls xs=>some (.int xs.length,.z)
 | .tup xs=>some (.int xs.length,.z)
 | _=>none
abbrev bV:=c1 qp
set_option tactic.hygienic true in
theorem EG:cH K (λxs H Q=>∃ p ys,xs=[.ref p]/\(SqL K H p ys\/SqT K H p ys)/\Q (.int ys.length) H) bV:=λys H Q p ra e q=>by
 obtain ⟨y,rfl,d⟩:=gw e
 clear e
 have e:=d
 clear d
 have c:=(ra y EW).rep
 obtain ⟨da,h,f,g⟩:=y
 dsimp only at c e
 cases da <;> try (exact nsE e)
 ·rename_i xs
  obtain ⟨b,vs,rfl,a,rs⟩:=c.view
  cases e
  exact ⟨b,vs,rfl,.inr (SqT.of a),by rw[<- rs.len];exact q ⟨_,_,[],.z⟩ H (cF (.int _)) rfl rfl⟩
 ·rename_i xs
  obtain ⟨b,vs,f,rfl,rfl,a,rs⟩:=c.view
  cases e
  exact ⟨b,vs,rfl,.inl (SqL.of a),by rw[<- rs.len];exact q ⟨_,_,[],.z⟩ H (cF (.int _)) rfl rfl⟩
 ·rename_i xs
  obtain ⟨b,vs,rfl,a,rs⟩:=c.view
  cases e
  exact ⟨b,vs,rfl,.inl a.sq,by rw[<- rs.len];exact q ⟨_,_,[],.z⟩ H (cF (.int _)) rfl rfl⟩
def uI:D->Option (D×Fl)
 | .lst xs=>some (.tup xs,.z)
 | .tup xs=>some (.tup xs,.z)
 | _=>none
abbrev kT:=c1 uI
set_option tactic.hygienic true in
theorem EC:cH K (λxs H Q=>∃ p ys,xs=[.ref p]/\((SqL K H p ys/\∀ l,H l=none->Q (.ref l) (upd H l (.tup ys)))\/(SqT K H p ys/\Q (.ref p) H))) kT:=λys H Q p ra e q=>by
 obtain ⟨y,rfl,g⟩:=gw e
 clear e
 have e:=g
 clear g
 have f:=ra y EW
 have d:=f.rep
 obtain ⟨da,i,b,h⟩:=y
 dsimp only at d e
 cases da <;> try (exact nsE e)
 ·rename_i xs
  obtain ⟨a,vs,rfl,c,rs⟩:=d.view
  cases e
  exact ⟨a,vs,rfl,.inr ⟨SqT.of c,q ⟨.tup xs,.ref a,b,.z⟩ H (p7 (.tup c rs) (jM (y:=⟨.tup xs,.ref a,b,h⟩) EW f rfl)) rfl rfl⟩⟩
 ·rename_i xs
  obtain ⟨a,vs,b,rfl,rfl,c,rs⟩:=d.view
  cases e
  exact ⟨a,vs,rfl,.inl ⟨SqL.of c,λl hl=>q ⟨.tup xs,.ref l,b,.z⟩ _ (xV hl rs (oP (y:=⟨.lst xs,.ref a,a::b,h⟩) EW f rfl rfl)) rfl rfl⟩⟩
def vv:D->Option (D×Fl)
 | .lst xs=>some (.lst xs,.u)
 | .tup xs=>some (.lst xs,.u)
 | _=>none
abbrev qk:=c1 vv
set_option tactic.hygienic true in
theorem ED:cH K (λxs H Q=>∃ p ys,xs=[.ref p]/\(SqL K H p ys\/SqT K H p ys)/\∀ l,H l=none->Q (.ref l) (upd H l (.lst ys))) qk:=λys H Q p ra e q=>by
 obtain ⟨y,rfl,g⟩:=gw e
 clear e
 have e:=g
 clear g
 have d:=ra y EW
 have c:=d.rep
 obtain ⟨da,i,b,h⟩:=y
 dsimp only at c e
 cases da <;> try (exact nsE e)
 ·rename_i xs
  obtain ⟨a,vs,rfl,f,rs⟩:=c.view
  cases e
  exact ⟨a,vs,rfl,.inr (SqT.of f),λl hl=>q ⟨.lst xs,.ref l,l::b,.u⟩ _ (vi hl rs (jM (y:=⟨.tup xs,.ref a,b,h⟩) EW d rfl)) rfl rfl⟩
 ·rename_i xs
  obtain ⟨a,vs,b,rfl,rfl,f,rs⟩:=c.view
  cases e
  exact ⟨a,vs,rfl,.inl (SqL.of f),λl hl=>q ⟨.lst xs,.ref l,l::b,.u⟩ _ (vi hl rs (oP (y:=⟨.lst xs,.ref a,a::b,h⟩) EW d rfl rfl)) rfl rfl⟩
def zE:D->Option (D×Fl)
 | .int i=>some (.int (if i < 0 then -i else i),.z)
 | _=>none
abbrev absD:=c1 zE
theorem Rep.int_inv {i:Int} (r:Rep K H (.int i) v L):v=.int i:=by cases r;rfl
theorem EI:cH K (λxs H Q=>∃ i,xs=[.int i]/\Q (.int (if i < 0 then -i else i)) H) absD:=λys H Q p ra e q=>by
 obtain ⟨y,rfl,a⟩:=gw e
 clear e
 have e:=a
 clear a
 have b:=(ra y EW).rep
 obtain ⟨da,d,f,c⟩:=y
 dsimp only at b e
 cases b <;> try (exact nsE e)
 cases e
 exact ⟨_,rfl,q ⟨_,_,[],.z⟩ H (cF (.int _)) rfl rfl⟩
def jp (C:Int->Int->Bool) (g:Int->Int->D):D->D->Option (D×Fl)
 | .int i,.int j=>if C i j then some (g i j,.z) else none
 | _,_=>none
set_option tactic.hygienic true in
theorem jP (e:jp C g a b=some p):∃ i j,a=.int i/\b=.int j/\C i j=true/\p=(g i j,.z):=by
 cases a <;> cases b <;> try (exact nsE e)
 rename_i i j
 have e:(if C i j then some (g i j,Fl.z) else none)=some p:=e
 split at e
 ·rename_i h;cases e;exact ⟨i,j,rfl,rfl,h,rfl⟩
 ·exact nsE e
abbrev B6:=c2 (jp uC λi j=>.int (if j > i then j else i))
abbrev B5:=c2 (jp uC λi j=>.int (if j < i then j else i))
abbrev y8:=c2 (jp (λ_ j=>decide (0 < j/\j < 1073741824)) λi j=>.tup [.int (i / j),.int (i % j)])
theorem BE:cH K (λxs H Q=>∃ i j,xs=[.int i,.int j]/\Q (.int (if j > i then j else i)) H) B6:=λys H Q p ra e q=>by
 obtain ⟨y,z,rfl,b⟩:=lY e
 clear e
 have e:=b
 clear b
 obtain ⟨i,j,d,f,_,rfl⟩:=jP e
 have c:=(ra y EW).rep
 have a:=(ra z (EY _ EW)).rep
 rw[d] at c
 rw[f] at a
 refine ⟨i,j,?_,q ⟨_,_,[],.z⟩ H (cF (.int _)) rfl rfl⟩
 show [y.v,z.v]=_
 rw[c.int_inv,a.int_inv]
theorem BD:cH K (λxs H Q=>∃ i j,xs=[.int i,.int j]/\Q (.int (if j < i then j else i)) H) B5:=λys H Q p ra e q=>by
 obtain ⟨y,z,rfl,b⟩:=lY e
 clear e
 have e:=b
 clear b
 obtain ⟨i,j,d,f,_,rfl⟩:=jP e
 have c:=(ra y EW).rep
 have a:=(ra z (EY _ EW)).rep
 rw[d] at c
 rw[f] at a
 refine ⟨i,j,?_,q ⟨_,_,[],.z⟩ H (cF (.int _)) rfl rfl⟩
 show [y.v,z.v]=_
 rw[c.int_inv,a.int_inv]
theorem vU:cH K (λxs H Q=>∃ i j,xs=[.int i,.int j]/\wq i j/\∀ p,H p=none->Q (.ref p) (upd H p (.tup [.int (i / j),.int (i % j)]))) y8:=λys H Q p ra e q=>by
 obtain ⟨y,z,rfl,d⟩:=lY e
 clear e
 have e:=d
 clear d
 obtain ⟨i,j,g,h,a,rfl⟩:=jP e
 have f:=(ra y EW).rep
 have b:=(ra z (EY _ EW)).rep
 rw[g] at f
 rw[h] at b
 refine ⟨i,j,?_,by simpa[wq] using a,λp k=>q ⟨_,.ref p,[],.z⟩ _ (xV k (L:=[]) (.cons (L:=[]) (.int _) (.cons (L:=[]) (.int _) .nil)) λc a=>by cases a) rfl rfl⟩
 show [y.v,z.v]=_
 rw[f.int_inv,b.int_inv]
def fM:List D->Option (List Bool)
 | []=>some []
 | .bl b::ds=>(fM ds).map (b::·)
 | _=>none
set_option tactic.hygienic true in
theorem jx:∀ {ds:List D} {bs:List Bool},fM ds=some bs->ds=bs.map D.bl
 | [],bs,e=>by cases e;rfl
 | d::ds,bs,e=>by
  cases d <;> try (exact nsE e)
  rename_i b
  obtain ⟨r,h1,h2⟩:=E2.mp (show (fM ds).map (b::·)=some bs from e)
  subst h2
  rw[jx h1];rfl
theorem Reps.bls:∀ {bs:List Bool} {vs:List V} {L:List Addr},Reps (Rep K H) (bs.map D.bl) vs L->vs=bs.map V.bl
 | [],_,_,.nil=>rfl
 | b::bs,_,_,.cons r rs=>by
  rw[Reps.bls rs]
  cases r;rfl
def allQ:D->Option (D×Fl)
 | .lst xs=>(fM xs).map λbs=>(.bl (bs.all id),.z)
 | _=>none
abbrev wo:=c1 allQ
set_option tactic.hygienic true in
theorem EH:cH K (λxs H Q=>∃ (a:Addr) (bs:List Bool),xs=[.ref a]/\SqL K H a (bs.map V.bl)/\Q (.bl (bs.all id)) H) wo:=λys H Q p ra e q=>by
 obtain ⟨y,rfl,c⟩:=gw e
 clear e
 have e:=c
 clear c
 have b:=(ra y EW).rep
 obtain ⟨da,i,d,h⟩:=y
 dsimp only at b e
 cases da <;> try (exact nsE e)
 rename_i xs
 obtain ⟨g,vs,d,rfl,rfl,f,rs⟩:=b.view
 obtain ⟨bs,h1,h2⟩:=E2.mp (show (fM xs).map (λbs=>(D.bl (bs.all id),Fl.z))=some p from e)
 subst h2
 have:=jx h1
 subst this
 have:=rs.bls
 subst this
 exact ⟨g,bs,rfl,SqL.of f,q ⟨_,_,[],.z⟩ H (cF (.bl _)) rfl rfl⟩
def eF (xs:List D) (lo hi:Option Int):List D:=(xs.drop (HT.sIx xs.length 0 lo)).take (HT.sIx xs.length xs.length hi - HT.sIx xs.length 0 lo)
end
end L3
end
section
namespace L3
open PySem L2
def sV:D->Option (List D)
 | .lst xs=>some xs
 | .fls xs=>some xs
 | .tup xs=>some xs
 | _=>none
def cg (m:EM):IM:=af m λr=>af (der r) λd=>aT ((sV d).map λds=>([r],ds))
def iSeq (K:FG) (tl:TE):TI:=λσ H R=>tl σ H λx H1=>(∃ a,x=.ref a/\(∃ xs,SqL K H1 a xs)/\R (Itl K a) H1)\/∃ a,x=.ref a/\(∃ xs,SqT K H1 a xs)/\R (Itt K a) H1
theorem Dv (hl:PE X l tl):PI X tg l (iSeq X.K tl):=by
 intro pins s σ H R I h
 exact thn (hl pins s σ H _ I h) λv s1 ⟨x,H1,c,g,j⟩=>by
   rcases j with ⟨a,e,⟨xs,f⟩,q⟩ | ⟨a,e,⟨xs,f⟩,q⟩
   ·subst e
    cases g
    obtain ⟨its,i,p,hz⟩:=c.list f
    refine wpAny_pyIter_list p.isList ?_
    refine ⟨s1.heap.objs.size,[s1.heap.objs.size],_,_,H1,rfl,c.kept (t':=s1.toks) λb o e=>EZ _ e,uG a _,⟨_,E9 _ rfl,rfl,rfl⟩,λb d=>?_,q⟩
    have e:b=s1.heap.objs.size:=by simpa using d
    subst e
    exact c.fpOk (Fg _) (c.hok.fresh (Fg _))
   ·subst e
    cases g
    obtain ⟨its,i,p,hz⟩:=c.tuple f
    refine wpAny_pyIter_tuple (show s1.heap.IsTuple a its.toArray from p) ?_
    refine ⟨s1.heap.objs.size,[s1.heap.objs.size],_,_,H1,rfl,c.kept (t':=s1.toks) λb o e=>EZ _ e,qO a _,⟨_,E9 _ rfl,rfl,rfl⟩,λb d=>?_,q⟩
    have e:b=s1.heap.objs.size:=by simpa using d
    subst e
    exact c.fpOk (Fg _) (c.hok.fresh (Fg _))
section
variable {K:FG} {G G0:Gm} {W W0:D->Sto->Prop} {H H':Hp} {σ:St} {ρ ρ':Sto} {T T':List It3} {g:Nat->Option It3} {x y z:It3} {α β:Type} {X:Cx}
theorem Ar.item2 (w:Wf K G H σ ρ (Ts++T) g) (a:Ar σ r v Ts) (e:der r ρ=some (.ok d,ρ)):∃ y,y.d=d/\y.v=v/\((∃ i,i∈pls [r]/\g i=some y)\/y∈Ts):=by
 cases a with
 | @pl i v h =>
  have k:der (.pl i) ρ=((ρ[i]?).join).map λp=>(.ok p.1,ρ):=rfl
  rw[k] at e
  cases q:(ρ[i]?).join with
  | none=>rw[q] at e;exact nsE e
  | some p =>
   rw[q] at e
   obtain ⟨y,e1,j,l,b⟩:=w.slot (d:=p.1) (f:=p.2) q
   have c:p.1=d:=by cases e;rfl
   rw[h] at b
   injection b with b
   injection b with b
   exact ⟨y,j.trans c,b.symm,.inl ⟨i,EW,e1⟩⟩
 | val x=>cases e;exact ⟨x,rfl,rfl,.inr (by simp)⟩
theorem nO (k:Reps (Rep K H1) ds vs l) (p:∀ c∈l,dq [y] c) (s:∀ c∈l,c∈y.L) (g:∀ (M:Addr->Prop) (H':Hp),(∀ b,M b->MutAt H1 b)->(∀ b o,H1 b=some o->¬ M b->H' b=some o)->(∀ b∈y.L,¬ M b)->(∀ (i:Nat) (v:V),vs[i]?=some v->J.go i H'/\∀ x a,J.yld i H' x a->a=H'/\x=v)/\J.stop vs.length H'):Walk K J H1 [y] ds:=by
 obtain ⟨ws,h1,h2,h3⟩:=Reps.split k
 refine ⟨ws,λx h=>⟨(h3 x h).1,(h3 x h).2.1,λc f=>p c ((h3 x h).2.2 c f)⟩,λM H' hm e j=>?_⟩
 obtain ⟨go,stop⟩:=g M H' hm e (j y EW)
 refine ⟨λi d hd=>?_,by rw[k.len];exact stop⟩
 have hi:∃ u,ws[i]?=some u/\u.d=d:=by
  grind
 obtain ⟨u,m,r⟩:=hi
 have n:vs[i]?=some u.v:=by rw[<- h2,Ff,m];rfl
 obtain ⟨g1,g2⟩:=go i u.v n
 refine ⟨g1,λx a t=>?_⟩
 obtain ⟨e1,w⟩:=g2 x a t
 subst e1 w
 have hu:=Fc m
 refine ⟨u,⟨Same.refl _,(h3 u hu).2.1.keep e hm λb q=>j y EW b (s b ((h3 u hu).2.2 b q)),λc f=>.inr ⟨u,hu,f⟩,λhf=>absurd (h3 u hu).1 hf⟩,r,(h3 u hu).1,rfl⟩
theorem mz {y:It3} {a:Addr} {ds:List D} {vs:List V} (h:∀ H',SqL K H' a vs->True) (hs:∀ (M:Addr->Prop) (H':Hp),(∀ b,M b->MutAt H b)->(∀ b o,H b=some o->¬ M b->H' b=some o)->(∀ b∈y.L,¬ M b)->SqL K H' a vs) :
  ∀ (M:Addr->Prop) (H':Hp),(∀ b,M b->MutAt H b)->(∀ b o,H b=some o->¬ M b->H' b=some o)->(∀ b∈y.L,¬ M b)->(∀ (i:Nat) (v:V),vs[i]?=some v->(Itl K a).go i H'/\∀ x c,(Itl K a).yld i H' x c->c=H'/\x=v)/\(Itl K a).stop vs.length H':=λM H' hm f e=>by
 have sq:SqL K H' a vs:=hs M H' hm f e
 refine ⟨λi v d=>⟨⟨vs,v,sq,d⟩,λx c ⟨e1,g⟩=>⟨e1,?_⟩⟩,⟨vs,sq,Fg _⟩⟩
 have:=g vs sq
 rw[d] at this
 injection this with this
 exact this.symm
theorem CF (h:tI K G0 W0 (cg m) σ H R):iSeq K (tE K G0 W0 m) σ H R:=by
 obtain ⟨G,W,le,ρ,T,g,o,ρ',w,e,q⟩:=h
 have n:∀ x,o=.error x->W x ρ':=λx U=>by subst U;exact q
 refine tE.seq le w e n λra ρ1 e1 v H1 ⟨Ts,g1,A,a1⟩=>?_
 obtain ⟨d,d1,t⟩:=aM e1
 obtain ⟨p,F,rfl,rfl⟩:=bF t
 obtain ⟨ds,j,O⟩:=E2.mp F
 subst O
 obtain ⟨y,P,L,I⟩:=a1.item2 A d1
 have Q:Itm (Ts++T) g1 y:=by
  rcases I with ⟨i,_,N⟩ | h
  ·exact .inl ⟨i,N⟩
  ·exact .inr (E3 _ h)
 have E:=(A.itm Q).arg
 have B:∀ J,Walk K J H1 [y] ds->R J H1:=λJ hw=>q J H1 [v] Ts g1 [y] A (by simpa using Ars.cons a1 .nil) (λz hz=>by rw[Fz.mp hz];exact I) hw
 clear e1 t F q
 subst P L
 have f:=E
 obtain ⟨da,V,r,C⟩:=y
 obtain ⟨s,X⟩:=E
 dsimp only at s j
 cases da with
 | tup xs =>
  obtain ⟨a,vs,rfl,b,rs⟩:=s.view
  cases j
  refine .inr ⟨a,rfl,⟨_,SqT.of b⟩,B _ (nO rs (jM (y:=⟨.tup ds,.ref a,r,C⟩) EW f rfl) (λc l=>l) λM H' hm k u=>?_)⟩
  have sq:SqT K H' a vs:=SqT.of (k a _ b λz=>(hm a z).notup b)
  refine ⟨λi v D=>⟨⟨vs,v,sq,D⟩,λx S ⟨e1,t⟩=>⟨e1,?_⟩⟩,⟨vs,sq,Fg _⟩⟩
  have:=t vs sq
  rw[D] at this
  injection this with this
  exact this.symm
 | lst xs =>
  obtain ⟨a,vs,r,rfl,rfl,b,rs⟩:=s.view
  cases j
  refine .inl ⟨a,rfl,⟨_,SqL.of b⟩,B _ (nO rs (oP (y:=⟨.lst ds,.ref a,a::r,C⟩) EW f rfl rfl) (λc l=>EY _ l) (mz (ds:=ds) (λ_ _=>trivial) λM H' hm k u=>SqL.of (k a _ b (u a EW))))⟩
 | fls xs =>
  obtain ⟨a,vs,rfl,b,rs⟩:=s.view
  cases j
  refine .inl ⟨a,rfl,⟨_,b.sq⟩,B _ (nO rs (jM (y:=⟨.fls ds,.ref a,r,C⟩) EW f rfl) (λc l=>l) (mz (ds:=ds) (λ_ _=>trivial) λM H' hm k u=>(b.keep k hm).sq))⟩
 | _=>exact nsE j
theorem C8 (h:RE X G0 W0 l m):RI X G0 W0 tg l (cg m):=⟨PI.imp (Dv h.h) λ_ _ _ h=>CF h⟩
def bh (lo:Int) (n:Nat):List D:=(List.range n).map λ(k:Nat)=>D.int (lo+(k:Int))
theorem pv {lo:Int} {n:Nat}:Walk K (Itr lo n) H1 ys (bh lo n):=by
 refine ⟨[],λx g=>(by cases g),λM H' _ _ _=>⟨λi d hd=>?_,?_⟩⟩
 ·unfold bh at hd
  rw[Ff] at hd
  obtain ⟨k,a,b⟩:=E2.mp hd
  obtain ⟨c,e⟩:=Fb.mp a
  rw[List.getElem_range] at e
  subst e
  rw[List.length_range] at c
  refine ⟨c,λx f ⟨e1,h⟩=>?_⟩
  subst e1
  exact ⟨⟨d,x,[],.z⟩,cF (by rw[<- b,h];exact .int _),rfl,rfl,rfl⟩
 ·show n<=(bh lo n).length
  unfold bh
  simp
def fJ (j:Int):Bool:=decide (-(2 ^ 62)<=j/\j < 2 ^ 62)
def fO:List D->Option (List D)
 | [.int j]=>if fJ j then some (bh 0 j.toNat) else none
 | _=>none
def iM:List D->Option (List D)
 | [.int i,.int j]=>if fJ i && fJ j then some (bh i (j - i).toNat) else none
 | _=>none
def bH (f:List D->Option (List D)) (ms:M3 (List R3)):IM:=af ms λrs=>af (cG rs) λds=>aT ((f ds).map λxs=>([],xs))
set_option tactic.hygienic true in
theorem zX (h:tI K G0 W0 (bH fO ms) σ H R):Ca (tA K G0 W0 ms) σ H R:=by
 obtain ⟨G,W,le,ρ,T,g,o,ρ',w,e,q⟩:=h
 have b:∀ x,o=.error x->W x ρ':=λx k=>by subst k;exact q
 refine tA.seq le w e b λrs ρ1 e1 vs H1 Ts g1 i a1=>?_
 obtain ⟨ds,d1,s⟩:=bD e1
 obtain ⟨p,n,rfl,rfl⟩:=bF s
 obtain ⟨xs,a,m⟩:=E2.mp n
 subst m
 obtain ⟨ys,f,f1,f2⟩:=a1.items i (λx k=>E3 _ k) d1
 subst f1 f2
 match ys,a,f,a1 with
 | [],a,_,_=>exact nsE a
 | y::z::r,a,_,_=>cases hd:y.d <;> (rw[Fm,Fm,hd] at a;exact nsE a)
 | [y],a,f,a1 =>
  have l:=(i.itm (f y EW)).rep
  cases hd:y.d <;> (rw[Fm,hd] at a;try (exact nsE a))
  rename_i j
  rw[hd] at l
  have a:(if fJ j then some (bh 0 j.toNat) else none)=some xs:=a
  split at a
  ·rename_i c
   cases a
   have c:=of_decide_eq_true c
   refine ⟨j,by show [y.v]=_;rw[l.int_inv],c.1,c.2,?_⟩
   exact q _ H1 [] [] g1 [] (i.sub (Fd Ts T)) .nil (λ_ h=>by cases h) pv
  ·exact nsE a
set_option tactic.hygienic true in
theorem zW (h:tI K G0 W0 (bH iM ms) σ H R):B9 (tA K G0 W0 ms) σ H R:=by
 obtain ⟨G,W,le,ρ,T,g,o,ρ',w,e,q⟩:=h
 have b:∀ x,o=.error x->W x ρ':=λx m=>by subst m;exact q
 refine tA.seq le w e b λrs ρ1 e1 vs H1 Ts g1 k a1=>?_
 obtain ⟨ds,d1,C⟩:=bD e1
 obtain ⟨p,B,rfl,rfl⟩:=bF C
 obtain ⟨xs,t,A⟩:=E2.mp B
 subst A
 obtain ⟨ys,c,f1,f2⟩:=a1.items k (λx m=>E3 _ m) d1
 subst f1 f2
 have inv:∀ {ds:List D},iM ds=some xs->∃ i j,ds=[.int i,.int j]/\fJ i=true/\fJ j=true/\xs=bh i (j - i).toNat:=λ{ds} h=>by
  unfold iM at h
  split at h
  ·rename_i i j
   split at h
   ·rename_i l
    cases h
    simp only[Bool.and_eq_true] at l
    exact ⟨i,j,rfl,l.1,l.2,rfl⟩
   ·exact nsE h
  ·exact nsE h
 obtain ⟨i,j,a,hi,f,rfl⟩:=inv t
 match ys,a,c,a1 with
 | [],a,_,_=>cases a
 | [y],a,_,_=>exact absurd (congrArg List.length a) (by simp)
 | y::z::u::r,a,_,_=>exact absurd (congrArg List.length a) (by simp)
 | [y,z],a,c,a1 =>
  have s:=(k.itm (c y EW)).rep
  have n:=(k.itm (c z (EY _ EW))).rep
  have h1:y.d=.int i:=by injection a
  have h2:z.d=.int j:=by injection a with _ h;injection h
  rw[h1] at s
  rw[h2] at n
  have hi:=of_decide_eq_true hi
  have f:=of_decide_eq_true f
  refine ⟨i,j,by show [y.v,z.v]=_;rw[s.int_inv,n.int_inv],⟨hi.1,hi.2,f.1,f.2⟩,?_⟩
  exact q _ H1 [] [] g1 [] (k.sub (Fd Ts T)) .nil (λ_ h=>by cases h) pv
theorem Av (c:Gl X "range") (hm:X.mg "range"=none) (b:RA X G0 W0 [a] ms) (hs:starEach [a] X.env=[(false,eval a X.env)]):RI X G0 W0 tg (.Call (.Name "range" p) [a] [] pos) (bH fO ms):=⟨PI.imp (u9 c hm b.h hs) λ_ _ _ h=>zX h⟩
theorem Au (e:Gl X "range") (hm:X.mg "range"=none) (d:RA X G0 W0 [a,b] ms) (hs:starEach [a,b] X.env=[(false,eval a X.env),(false,eval b X.env)]) (c:starEach [b] X.env=[(false,eval b X.env)]):RI X G0 W0 tg (.Call (.Name "range" p) [a,b] [] pos) (bH iM ms):=⟨PI.imp (u8 e hm d.h hs c) λ_ _ _ h=>zW h⟩
end
end L3
end
section
namespace L3
open PySem L2
section
variable {K:FG} {G G0:Gm} {W W0:D->Sto->Prop} {H H':Hp} {σ:St} {ρ ρ':Sto} {T T':List It3} {g:Nat->Option It3} {x y z:It3} {α β:Type} {X:Cx} {L:List Addr}
def la (bnd:D->Sto->Option Sto) (m:EM):SM:=af m λr=>af (cX r) λp=>λρ=>(bnd p.1 ρ).map λρ1=>(.ok .nx,ρ1)
theorem CD (j:Bnd K G0.pr tg bnd) (h:tS K G0 W0 (la bnd m) E σ H):wD (tE K G0 W0 m) tg E σ H:=by
 refine h.use λG W le ρ T g r ρ' w e q=>?_
 refine tE.seq le w e q.err λra ρ1 e1 v H1 ⟨Ts,g1,f,a1⟩=>?_
 obtain ⟨p,ρ2,g2,x,n,i,f1,_,_,a⟩:=a1.take f e1
 have l:=Wf.lowT (Ts:=[x]) i
 obtain ⟨ρ3,b,c⟩:=E2.mp n
 cases c
 rw[<- a]
 exact j G H1 σ ρ2 _ T g2 (cP x) _ le.pr rfl l (by show bnd x.d ρ2=_;rw[f1];exact b) λσ2 g3 k=>q _ _ _ k
theorem C7 (c:RG X G0.pr tg bnd) (he:RE X G0 W0 e m) (hs:swapsWithSole [tg] e pos.line X.env=pure false) (hw:swappedStores [tg] e X.env=pure none) (h1:(assignEach [tg] X.env).map (·.2)=[assign tg X.env]):RS X G0 W0 (.Assign [tg] e pos) (la bnd m):=by
 obtain ⟨g,a,b⟩:=c.h
 exact ⟨PS.imp (xH he.h a hs hw h1) λ_ _ _ h=>CD b h⟩
theorem re {i:Nat} {y:Str} (g:X.N.Nodup) (f:X.N[i]?=some y) (k:Loc X.env.scope y) (NY:List Str) (ix:List (Option Nat)) (e:X.calm=true) (hi:RI X G0 W0 tg iter im) (j:∀ s H C fp,PTs (aN X NY scope s H C fp) ifs (tT X.K (bo ix) noX cm)) (he:∀ s H C fp,RE (aN X NY scope s H C fp) (bo ix) noX elt em) (l:gr scope X.N X.env.scope NY ix=true) (d:Inj ix) (b:swapsWith (.ListComp elt [⟨tg,iter,ifs,0⟩] scope pos) (some (.Name y py)) spos.line X.env=pure true) (hf:X.fn y=true\/X.env.scope.names.lookup y=some .local) (hs:∀ x,foldedSetIterable iter X.env x=pure x) (m:G0.pr i=false) (c:∃ a,Bnd X.K (bo ix).pr a bnd/\∀ s H C fp,PG (aN X NY scope s H C fp) tg a):RS X G0 W0 (.Assign [.Name y py] (.ListComp elt [⟨tg,iter,ifs,0⟩] scope pos) spos) (aS i (cy im bnd cm em ix)):=by
 obtain ⟨a,b1,b2⟩:=c
 exact ⟨PS.imp (rB g f k NY ix e hi.h b2 j (λs H C fp=>(he s H C fp).h) l b hf hs) λ_ _ _ h=>qV szl d b1 m h⟩
def isL:D->Bool
 | .lst _=>true
 | _=>false
theorem lI:∀ d v L H,isL d=true->Rep K H d v L->tyV K "list" v H:=λd v L H h r=>by
 cases r with
 | lst ha _=>exact .inl ⟨rfl,_,SqL.of ha⟩
 | _=>cases h
def sF:D->List D->Option (D×D)
 | .lst xs,[d]=>if xs.length < 16777216 then some (.lst (xs++[d]),.non) else none
 | _,_=>none
set_option tactic.hygienic true in
theorem DU:MutD K tD sF:=λa d j as H Q p r m na ra i e q=>by
 cases d with
 | lst xs =>
  obtain ⟨_,vs,_,e1,s,k,rs⟩:=r.view
  cases e1
  cases s
  match as,e,ra,i with
  | [],e,_,_=>exact nsE e
  | _::_::_,e,_,_=>exact nsE e
  | [y],e,ra,i =>
   have e:(if xs.length < 16777216 then some (D.lst (xs++[y.d]),D.non) else none)=some p:=e
   split at e
   ·rename_i hl
    cases e
    refine ⟨a,vs,y.v,rfl,rfl,k,by rw[<- rs.len,<- szl];exact hl,?_⟩
    have t:=ra y EW
    have l:=i y EW
    have ma:MutAt H a:=.inl ⟨_,k⟩
    have keep:∀ {d v L},Rep K H d v L->a ∉ L->Rep K (upd H a (.lst (vs++[y.v]))) d v L:=λ{d v L} r n=>r.keep (M:=λb=>b=a) (λb o f h=>by rw[ak h];exact f) (λb e=>by rw[e];exact ma) λb f e=>n (by rw[<- e];exact f)
    have keeps:Reps (Rep K (upd H a (.lst (vs++[y.v])))) xs vs j:=rs.keep (M:=λb=>b=a) (λb o f h=>by rw[ak h];exact f) (λb e=>by rw[e];exact ma) λb f e=>na (by rw[<- e];exact f)
    exact q (.lst (vs++[y.v])) (j++(y.L++[])) ⟨.non,.non,[],.z⟩ (.lst aA (keeps.append (.cons (keep t l) .nil))) rfl (λc g=>by
     rcases E8.mp g with h | h
     ·exact .inl h
     ·rw[List.append_nil] at h;exact .inr ⟨y,EW,h⟩) rfl rfl .non λc g=>by cases g
   ·exact nsE e
 | _=>exact nsE e
def yV:D->List D->Option (D×D)
 | .lst xs,[.lst ys]=>if xs.length+ys.length<=16777216 then some (.lst (xs++ys),.non) else none
 | _,_=>none
theorem ext2 (a:D):yV (.lst xs) (a::b::r)=none:=by cases a <;> rfl
set_option tactic.hygienic true in
theorem DT:MutD K tv yV:=λa d w as H Q p r m na ra k e q=>by
 cases d with
 | lst xs =>
  obtain ⟨_,vs,_,e1,x,l,rs⟩:=r.view
  cases e1
  cases x
  match as,e,ra,k with
  | [],e,_,_=>exact nsE e
  | y::_::_,e,_,_=>exact nsE ((ext2 y.d).symm.trans e)
  | [y],e,ra,k =>
   have t:=ra y EW
   have s:=k y EW
   obtain ⟨u,A,B,C⟩:=y
   dsimp only at t s e
   cases u with
   | lst ys =>
    obtain ⟨b,ws,v,rfl,rfl,g,i⟩:=t.view
    have e:(if xs.length+ys.length<=16777216 then some (D.lst (xs++ys),D.non) else none)=some p:=e
    split at e
    ·rename_i hl
     cases e
     refine ⟨a,b,vs,ws,rfl,rfl,l,g,by rw[<- rs.len,<- i.len,<- szl];exact hl,?_⟩
     have ma:MutAt H a:=.inl ⟨_,l⟩
     have keeps:∀ {ds f L},Reps (Rep K H) ds f L->a ∉ L->Reps (Rep K (upd H a (.lst (vs++ws)))) ds f L:=λ{ds f L} r n=>r.keep (M:=λb=>b=a) (λb o g h=>by rw[ak h];exact g) (λb e=>by rw[e];exact ma) λb g e=>n (by rw[<- e];exact g)
     exact q (.lst (vs++ws)) (w++v) ⟨.non,.non,[],.z⟩ (.lst aA ((keeps rs na).append (keeps i λh=>s (EY _ h)))) rfl (λc j=>by
      rcases E8.mp j with h | h
      ·exact .inl h
      ·exact .inr ⟨_,EW,EY _ h⟩) rfl rfl .non λc j=>by cases j
    ·exact nsE e
   | _=>exact nsE e
 | _=>exact nsE e
def pL:D->List D->Option (D×D)
 | .lst xs,[.int i,d]=>(ixN xs.length i).map λj=>(.lst (xs.set j d),.non)
 | _,_=>none
theorem Reps.set:∀ {ds:List D} {vs:List V} {L L':List Addr} {d:D} {v:V} (j:Nat),Reps (Rep K H) ds vs L->Rep K H d v L'->∃ L2,Reps (Rep K H) (ds.set j d) (vs.set j v) L2/\∀ c∈L2,c∈L\/c∈L'
 | _,_,_,_,_,_,j,.nil,_=>⟨[],.nil,λc a=>by cases a⟩
 | _,_,_,L',_,_,0,.cons (L:=L1) (L':=L1') r rs,r'=>⟨L'++L1',.cons r' rs,λc a=>by
  rcases E8.mp a with h | h
  ·exact .inr h
  ·exact .inl (E4 _ h)⟩
 | _,_,_,L',_,_,j+1,.cons (L:=L1) (L':=L1') r rs,r'=>by
  obtain ⟨L2,h1,h2⟩:=Reps.set j rs r'
  refine ⟨L1++L2,.cons r h1,λc a=>?_⟩
  rcases E8.mp a with h | h
  ·exact .inl (E3 _ h)
  ·rcases h2 c h with h | h
   ·exact .inl (E4 _ h)
   ·exact .inr h
theorem set1 (a:D):pL (.lst xs) [a]=none:=by cases a <;> rfl
theorem set3' (a:D):pL (.lst xs) (a::b::c::r)=none:=by cases a <;> rfl
theorem A4:MutD K (lj lh) pL:=λa d w as H Q p r m na ra n e q=>by
 cases d with
 | lst xs =>
  obtain ⟨_,vs,_,e1,A,t,rs⟩:=r.view
  cases e1
  cases A
  match as,e,ra,n with
  | [],e,_,_=>exact nsE e
  | [y],e,_,_=>exact nsE ((set1 y.d).symm.trans e)
  | y::_::_::_,e,_,_=>exact nsE ((set3' y.d).symm.trans e)
  | [k,y],e,ra,n =>
   have s:=ra k EW
   have B:=ra y (EY _ EW)
   have x:=n y (EY _ EW)
   obtain ⟨kd,E,F,C⟩:=k
   dsimp only at s
   cases kd with
   | int i =>
    obtain ⟨rfl,rfl⟩:=s.view
    obtain ⟨j,h1,h2⟩:=E2.mp (show (ixN xs.length i).map (λj=>(D.lst (xs.set j y.d),D.non))=some p from e)
    subst h2
    refine ⟨.int i,y.v,rfl,a,vs,i,j,rfl,rfl,t,by rw[<- rs.len];exact h1,?_⟩
    have ma:MutAt H a:=.inl ⟨_,t⟩
    have g:Rep K (upd H a (.lst (vs.set j y.v))) y.d y.v y.L:=B.keep (M:=λb=>b=a) (λb o f h=>by rw[ak h];exact f) (λb e=>by rw[e];exact ma) λb f e=>x (by rw[<- e];exact f)
    have keeps:Reps (Rep K (upd H a (.lst (vs.set j y.v)))) xs vs w:=rs.keep (M:=λb=>b=a) (λb o f h=>by rw[ak h];exact f) (λb e=>by rw[e];exact ma) λb f e=>na (by rw[<- e];exact f)
    obtain ⟨L2,h3,u⟩:=keeps.set j g
    exact q (.lst (vs.set j y.v)) L2 ⟨.non,.non,[],.z⟩ (.lst aA h3) rfl (λc l=>(u c l).imp id λh=>⟨y,EY _ EW,h⟩) rfl rfl .non λc l=>by cases l
   | _=>exact nsE e
 | _=>exact nsE e
theorem oj {i:Nat} {x:Str} {id:String} (k:PlainAttrs Ty) (slot:Slot Ty nm id) (j:typeOf (.builtin id)=pure (.type "method_descriptor")) (hm:MtR X id r) (l:MutD X.K r f) (hok:∀ d v L H,ok d=true->Rep X.K H d v L->tyV X.K Ty v H) (m:PE X (.Name x pn) (uK i)) (n:RA X G0 W0 (e::es) ms) (b:attributeBase (.Name x pn) nm X.env (eval (.Name x pn) X.env)=eval (.Name x pn) X.env) (g:((backTo cpos (starEach (e::es) X.env)).all (λx=>!x.1) && (backToKw cpos (keywordEach [] X.env)).all (λx=>x.1.isSome) && decide ((e::es).length+([]:List Keyword).length+(if ([]:List Keyword).isEmpty then 0 else 1) < 30))=true) (c:(apos.endLine == cpos.line)=true) (hs:starEach (e::es) X.env=(false,eval e X.env)::starEach es X.env) (a:(backTo cpos (starEach es X.env)).any (·.1)=false):RE X G0 W0 (.Call (.Attribute (.Name x pn) nm apos) (e::es) [] cpos) (mm ok f i ms) :=
 ⟨PE.imp (B0 k slot j hm m n.h b g c hs a) λ_ _ _ h=>CJ l hok h⟩
theorem C2 {i:Nat} {x:Str} (hs:zH X t) (c:MutD X.K (lj t) f) (d:PE X (.Name x pn) (uK i)) (b:RE X G0 W0 k mk) (j:RE X G0 W0 e mv) (g:∀ v,assign (.Subscript (.Name x pn) k p2) X.env v=(do
   let ov <- holding [v] (eval (.Name x pn) X.env)
   let a <- holding [v,ov] (eval k X.env)
   standAt p2
   holding [v,ov,a] (setItem ov a v)
   release [v,ov,a] [])) (h1:swapsWithSole [.Subscript (.Name x pn) k p2] e pos.line X.env=pure false) (h2:swappedStores [.Subscript (.Name x pn) k p2] e X.env=pure none) (h3:(assignEach [.Subscript (.Name x pn) k p2] X.env).map (·.2)=[assign (.Subscript (.Name x pn) k p2) X.env]):RS X G0 W0 (.Assign [.Subscript (.Name x pn) k p2] e pos) (n9 f i mk mv) :=
 ⟨PS.imp (xH j.h (Dw d b.h hs g) h1 h2 h3) λ_ _ _ h=>Cu c h⟩
end
end L3
end
section
namespace L3
open PySem L2
section
variable {K:FG} {G G0:Gm} {W W0:D->Sto->Prop} {H H':Hp} {σ:St} {ρ ρ':Sto} {T T':List It3} {g:Nat->Option It3} {x y z:It3} {α β:Type} {X:Cx} {L:List Addr}
theorem xb:PTs Y [] (tT K (bo ix) noX eO):=λpins s σ H Q I h=>AC pins s σ H Q I (Cs h)
theorem yE (h:(ix.filterMap id).Nodup):Inj ix:=by
 intro j k i a b
 induction ix generalizing j k with
 | nil=>simp at a
 | cons o ix ih =>
  grind
theorem wC (ho:OpD K r f) (n:OpD K r' f') (h:tE K G0 W0 (cO f f' ma mb mc) σ H Q):qW r r' (tE K G0 W0 ma) (tE K G0 W0 mb) (tE K G0 W0 mc) σ H Q:=by
 refine h.use λG W le ρ T g o ρ' w e q=>?_
 refine tE.seq le w e q.err λra ρ1 e1 va H1 ⟨Ts,g1,w1,a1⟩=>?_
 refine tE.seq le w1 e1 q.err λrb ρ2 e2 vb H2 ⟨Us,g2,j,a2⟩=>?_
 obtain ⟨da,d1,e3⟩:=aM e2
 obtain ⟨db,d2,Y⟩:=aM e3
 obtain ⟨k,e5,C⟩:=jJ Y
 obtain ⟨V,F,f1,f2⟩:=a1.item j (λx i=>E4 _ (E3 _ i)) d1
 obtain ⟨M,I,X,f4⟩:=a2.item j (λx i=>E3 _ i) d2
 obtain ⟨p,E,e8⟩:=Fy.mp e5
 have hp:=zA e8
 subst f1 f2 f4
 rw[<- X] at E
 refine ho V M H2 _ p (j.itm F).arg (j.itm I).arg E λu H3 N ud uf=>?_
 have w3:=j.push N λc h=>j.kids (ys:=[V,M]) (λy b=>by
  rcases E5.mp b with h | b
  ·rw[h];exact F
  ·rw[Fz.mp b];exact I) h
 have P:=N.rep
 rw[ud,hp] at P
 refine ⟨k,P.bl_eq.1,?_⟩
 have L:=w3.sub (List.sublist_cons_self u _)
 cases k with
 | false =>
  cases C
  have d:=L.sub (T':=T) ((Fd Ts T).trans (Fd Us _))
  exact q _ _ (d.const (.bl false))
 | true =>
  simp only[if_true] at C ⊢
  refine tE.seq le L C q.err λrc ρ5 e9 vc Z ⟨m,J,d,a5⟩=>?_
  obtain ⟨v,d3,A⟩:=aM e9
  obtain ⟨dc,d4,D⟩:=aM A
  obtain ⟨p',a,rfl,rfl⟩:=bF D
  obtain ⟨l,S,f5,f6⟩:=a2.item d (λx i=>E4 _ (E3 _ i)) d3
  obtain ⟨R,U,f7,f8⟩:=a5.item d (λx i=>E3 _ i) d4
  cases t:f' v dc with
  | none=>rw[t] at a;exact nsE a
  | some s =>
   rw[t] at a
   cases a
   have O:=d
   rw[show m++(Us++(Ts++T))=(m++(Us++Ts))++T by simp] at O
   have B:Itm ((m++(Us++Ts))++T) J l:=by simpa using S
   have z:Itm ((m++(Us++Ts))++T) J R:=by simpa using U
   rw[<- f6,<- f8]
   refine n l R Z Q s (d.itm S).arg (d.itm U).arg (by rw[f5,f7];exact t) (nD O (λy b=>?_) q)
   rcases E5.mp b with h | b
   ·rw[h];exact B
   ·rw[Fz.mp b];exact z
theorem xk (k:OpR X (compareOp op) r) (hd:OpD X.K r f) (i:OpR X (compareOp op') r') (d:OpD X.K r' f') (j:RE X G0 W0 a ma) (e:RE X G0 W0 b mb) (g:RE X G0 W0 c mc) (h:PE X a (tE X.K G0 W0 ma)->PE X b (tE X.K G0 W0 mb)->PE X c (tE X.K G0 W0 mc)->PE X (.Compare a [op,op'] [b,c] pos) (qW r r' (tE X.K G0 W0 ma) (tE X.K G0 W0 mb) (tE X.K G0 W0 mc))):RE X G0 W0 (.Compare a [op,op'] [b,c] pos) (cO f f' ma mb mc):=⟨PE.imp (h j.h e.h g.h) λ_ _ _ h=>wC hd d h⟩
theorem og (c:OpR X (compareOp op) r) (hd:OpD X.K r f) (e:RE X G0 W0 a ma) (d:RE X G0 W0 b mb) (hm:behindInMarks op b=false):RT X G0 W0 (.Compare a [op] [b] pos) (cB (ai f ma mb)):=⟨PT.imp (AD c e.h d.h hm) λ_ _ _ h=>nP hd (tT_b h)⟩
def gp (n:Nat):List D->List D
 | []=>[]
 | d::ds=>.tup [.int n,d]::gp (n+1) ds
theorem jT:∀ {ds:List D} {n i:Nat},(gp n ds)[i]?=(ds[i]?).map λd=>.tup [.int ((n+i:Nat):Int),d]
 | [],n,i=>by simp[gp]
 | d::ds,n,0=>by simp[gp]
 | d::ds,n,i+1=>by
  show (gp (n+1) ds)[i]?=_
  rw[jT]
  simp only[List.getElem?_cons_succ]
  rw[show n+1+i=n+(i+1) by lia]
theorem jS:∀ {ds:List D} {n:Nat},(gp n ds).length=ds.length
 | [],_=>rfl
 | d::ds,n=>by simp[gp,jS]
def lL (ms:M3 (List R3)):IM:=af ms λrs=>af (cG rs) λds=>aT (match ds with
 | [.lst xs]=>some (rs,gp 0 xs)
 | _=>none)
theorem zY (h:tI K G0 W0 (lL ms) σ H R):Cc K (tA K G0 W0 ms) σ H R:=by
 obtain ⟨G,W,le,ρ,T,g,o,ρ',w,e,q⟩:=h
 have m:∀ x,o=.error x->W x ρ':=λx n=>by subst n;exact q
 refine tA.seq le w e m λrs ρ1 e1 vs H1 Ts g1 A a1=>?_
 obtain ⟨ds,d1,B⟩:=bD e1
 obtain ⟨p,l,rfl,rfl⟩:=bF B
 have inv:∃ xs,ds=[.lst xs]/\p=(rs,gp 0 xs):=by
  split at l
  ·cases l;exact ⟨_,rfl,rfl⟩
  ·exact nsE l
 obtain ⟨xs,rfl,rfl⟩:=inv
 match rs,d1,a1,q with
 | [],d1,_,_=>cases d1
 | r::r'::rs,d1,_,_ =>
  obtain ⟨_,_,f⟩:=aM (k:=λd=>af (cG (r'::rs)) λds=>aQ (d::ds)) d1
  obtain ⟨ae,e6,Y⟩:=bD f
  obtain ⟨_,_,e8⟩:=aM (k:=λd=>af (cG rs) λds=>aQ (d::ds)) e6
  obtain ⟨X,_,e9⟩:=bD e8
  cases e9
  cases Y
 | [r],d1,a1,q =>
  obtain ⟨d,s,f⟩:=aM (k:=λd=>af (cG []) λds=>aQ (d::ds)) d1
  have hd:d=.lst xs:=by
   have f:some ((.ok [d],ρ'):Except D (List D)×Sto)=some (.ok [.lst xs],ρ'):=f
   cases f;rfl
  subst hd
  cases a1 with
  | @cons _ v Ts1 _ vs1 Us1 a as =>
   cases as with
   | nil =>
    obtain ⟨y,F,V,I⟩:=Ar.item2 (T:=T) (by simpa using A) a s
    have hy:Itm (([]++Ts1)++T) g1 y:=by
     rcases I with ⟨i,_,ei⟩ | h
     ·exact .inl ⟨i,ei⟩
     ·exact .inr (by simpa using E3 T h)
    have E:=(A.itm hy).arg
    have qq:∀ J,Walk K J H1 [y] (gp 0 xs)->R J H1:=λJ hw=>q J H1 [v] ([]++Ts1) g1 [y] A (.cons a .nil) (λz hz=>by
     rw[Fz.mp hz]
     rcases I with h | h
     ·exact .inl h
     ·exact .inr (by simpa using h)) hw
    clear q
    subst V
    have t:=E
    obtain ⟨yd,yv,yL,yf⟩:=y
    obtain ⟨S,oo⟩:=E
    dsimp only at S F
    subst F
    cases S with
    | @lst _ pa vs La ha rs =>
     refine ⟨pa,rfl,⟨_,SqL.of ha⟩,qq _ ?_⟩
     obtain ⟨ws,h1,h2,h3⟩:=Reps.split rs
     refine ⟨ws,λx n=>⟨(h3 x n).1,(h3 x n).2.1,λc C=>oP (y:=⟨.lst xs,.ref pa,pa::La,yf⟩) EW t rfl rfl c ((h3 x n).2.2 c C)⟩,λM H' hm Q O=>?_⟩
     have sq:SqL K H' pa vs:=SqL.of (Q pa _ ha (O _ EW pa EW))
     refine ⟨λi d hd=>?_,by rw[jS];exact ⟨vs,sq,by rw[<- rs.len];exact Fg _⟩⟩
     rw[jT] at hd
     obtain ⟨U,j,rfl⟩:=E2.mp hd
     have hw:∃ u,ws[i]?=some u/\u.d=U:=by
      rw[<- h1,Ff] at j
      obtain ⟨u,a,b⟩:=E2.mp j
      exact ⟨u,a,b⟩
     obtain ⟨u,N,Z⟩:=hw
     have P:vs[i]?=some u.v:=by rw[<- h2,Ff,N];rfl
     have hu:=Fc N
     refine ⟨⟨vs,u.v,sq,P⟩,λx ax ⟨Tt,yv,e1,B,l,s⟩=>?_⟩
     have f:=s vs sq
     rw[P] at f
     cases f
     subst e1 l
     have ru:Rep K H' u.d u.v u.L:=(h3 u hu).2.1.keep Q hm λb hb=>O _ EW b (EY _ ((h3 u hu).2.2 b hb))
     refine ⟨⟨.tup [.int ((0+i:Nat):Int),U],.ref Tt,[]++(u.L++[]),.z⟩,xV B (.cons (L:=[]) (by rw[xZ7];exact .int _) (.cons (by rw[<- Z];exact ru) .nil)) (λc C=>⟨u,hu,by simpa using C⟩),rfl,rfl,rfl⟩
theorem Aw {k:Nat} (c:Gl X "enumerate") (hm:X.mg "enumerate"=none) (b:RA X G0 W0 [a] ms) (hs:starEach [a] X.env=[(false,eval a X.env)]):RI X G0 W0 (.Tuple elts k tp) (.Call (.Name "enumerate" p) [a] [] pos) (lL ms):=⟨PI.imp (AJ c hm b.h hs) λ_ _ _ h=>zY h⟩
end
end L3
namespace L3
theorem AG {i:Nat} (h:mask.length<=i):prM mask i=false:=by
 unfold prM
 rw[List.getElem?_eq_none h]
end L3
end
section
namespace L3
open PySem L2
structure Bl (mg:Str->Option Value):Prop where
 len:mg "len"=none
 range:mg "range"=none
 abs:mg "abs"=none
 divmod:mg "divmod"=none
 enumerate:mg "enumerate"=none
 tuple:mg "tuple"=none
 isinstance:mg "isinstance"=none
 int:mg "int"=none
 bool:mg "bool"=none
 all:mg "all"=none
 str:mg "str"=none
 max:mg "max"=none
 min:mg "min"=none
 list:mg "list"=none
 dict:mg "dict"=none
 repr:mg "repr"=none
 sorted:mg "sorted"=none
 set:mg "set"=none
 zip:mg "zip"=none
 reversed:mg "reversed"=none
theorem Ck:bootBuiltins "len"=some (.builtin "len"):=by decide +kernel
theorem b_abs:bootBuiltins "abs"=some (.builtin "abs"):=by decide +kernel
theorem zw:bootBuiltins "divmod"=some (.builtin "divmod"):=by decide +kernel
theorem uy:bootBuiltins "tuple"=some (.type "tuple"):=by decide +kernel
theorem jy:bootBuiltins "isinstance"=some (.builtin "isinstance"):=by decide +kernel
theorem b_int:bootBuiltins "int"=some (.type "int"):=by decide +kernel
theorem EO:bootBuiltins "bool"=some (.type "bool"):=by decide +kernel
theorem b_all:bootBuiltins "all"=some (.builtin "all"):=by decide +kernel
theorem b_max:bootBuiltins "max"=some (.builtin "max"):=by decide +kernel
theorem b_min:bootBuiltins "min"=some (.builtin "min"):=by decide +kernel
theorem zv:bootBuiltins "list"=some (.type "list"):=by decide +kernel
theorem EN:bootBuiltins "repr"=some (.builtin "repr"):=by decide +kernel
theorem zu:bootBuiltins "sorted"=some (.builtin "sorted"):=by decide +kernel
theorem b_set:bootBuiltins "set"=some (.type "set"):=by decide +kernel
end L3
end
section
namespace L3
open PySem L2
section
variable {K:FG} {G G0:Gm} {W W0:D->Sto->Prop} {H H':Hp} {σ:St} {ρ ρ':Sto} {T T':List It3} {g:Nat->Option It3} {x y z:It3} {α β:Type} {X:Cx} {L:List Addr}
theorem sO (h:tE K G0 W0 m σ H Q) (f:∀ v H,Q v H->Q' v H):tE K G0 W0 m σ H Q':=by
 refine h.use λG W le ρ T g o ρ' w e q=>?_
 refine tE.mk le w e ?_
 cases o with
 | ok r=>exact λv H' g=>f v H' (q v H' g)
 | error x=>exact q
def ng:D->Option String
 | .non=>some "NoneType" | .bl _=>some "bool" | .int _=>some "int" | .str _=>some "str"
 | .tup _=>some "tuple" | .lst _=>some "list" | .fls _=>some "list" | .dk _=>some "dict" | .dt _=>some "dict" | .exc _ _=>none
def dl (t:String) (d:D):Option (D×Fl):=(ng d).map λk=>(.bl (jO k t),.z)
theorem Rep.kind (r:Rep K H d v L) (e:ng d=some k):KindOf K H v k:=by
 cases r with
 | non=>cases e;exact .non
 | bl b=>cases e;exact .bool b
 | int i=>cases e;exact .int i
 | str s=>cases e;exact .str s
 | tup h _=>cases e;exact .tuple (SqT.of h)
 | lst h _=>cases e;exact .list (SqL.of h)
 | lstF h _=>cases e;exact .list h.sq
 | dK h _ _=>cases e;exact .dK h
 | dT h _ _=>cases e;exact .dT h
 | exc _ _=>cases e
 | excV _ _ _ _ _ _ _ _=>cases e
theorem ol (g:bN X (.builtin "isinstance") (λxs H Q=>∃ x k,xs=[x,.ty t]/\KindOf X.K H x k/\Q (.bl (jO k t)) H)) (f:Gl X "isinstance") (hm:X.mg "isinstance"=none) (j:PE X (.Name tn pT) (tC (.ty t))) (l:RE X G0 W0 a ma) (b:starEach [a,.Name tn pT] X.env=(false,eval a X.env)::starEach [.Name tn pT] X.env) (d:starEach [.Name tn pT] X.env=(false,eval (.Name tn pT) X.env)::starEach [] X.env) (c:(backTo pos (starEach [.Name tn pT] X.env)).any (·.1)=false):RE X G0 W0 (.Call (.Name "isinstance" p) [a,.Name tn pT] [] pos) (mUn (dl t) ma) :=
 ⟨PE.imp (je g f hm jy (fj l.h (fj j lx d) b) (by decide) (by decide) b c) λσ H Q h=>by
  have h:=sN (r:=λx H Q=>∃ k,KindOf X.K H x k/\Q (.bl (jO k t)) H) (λa H Q p ra e q=>by
   obtain ⟨k,h1,h2⟩:=E2.mp e
   subst h2
   exact ⟨k,ra.rep.kind h1,q ⟨.bl (jO k t),.bl (jO k t),[],.z⟩ H (cF (.bl _)) rfl rfl⟩) h
  refine sO h λx H1 ⟨k,i,q⟩=>?_
  exact ⟨x,k,rfl,i,q⟩⟩
def yC:D->Option Key
 | .int i=>some (.inl i)
 | .str s=>some (.inr s)
 | _=>none
def eD:List D->Option (List Key)
 | []=>some []
 | d::ds=>match yC d,eD ds with
  | some k,some ks=>some (k::ks)
  | _,_=>none
theorem vA (r:Rep K H d v L) (e:yC d=some k):v=kV k:=by
 cases r <;> cases e <;> rfl
theorem gk:∀ {ds:List D} {vs:List V} {L:List Addr} {a:List Key},Reps (Rep K H) ds vs L->eD ds=some a->vs=a.map kV
 | _,_,_,a,.nil,e=>by cases e;rfl
 | _,_,_,a,.cons (d:=d) (ds:=ds) r rs,e=>by
  unfold eD at e
  cases h1:yC d with
  | none=>rw[h1] at e;exact nsE e
  | some k =>
   cases h2:eD ds with
   | none=>rw[h1,h2] at e;exact nsE e
   | some ks' =>
    rw[h1,h2] at e
    cases e
    rw[vA r h1,gk rs h2];rfl
def yR (kvs:List (List Key×D)) (k:List Key):Option D:=(kvs.find? λa=>decide (a.1=k)).map (·.2)
def xz (kvs:List (List Key×D)) (k:List Key) (v:D):List (List Key×D) :=
 if (kvs.any λa=>decide (a.1=k))=true then kvs.map (λa=>if a.1=k then (a.1,v) else a) else kvs++[(k,v)]
theorem qw:∀ {kvs:List (List Key×D)} {ps:List (List Key×V)} {L:List Addr} {k:List Key} {d:D},kvs.map (·.1)=ps.map (·.1)->Reps (Rep K H) (kvs.map (·.2)) (ps.map (·.2)) L->yR kvs k=some d->∃ v L',ki ps k=some v/\Rep K H d v L'/\∀ c∈L',c∈L
 | [],ps,L,k,d,hk,r,e=>by cases e
 | f::kvs,[],L,k,d,hk,r,e=>by cases hk
 | f::kvs,p::ps,L,k,d,hk,r,e=>by
  have b:f.1=p.1/\kvs.map (·.1)=ps.map (·.1):=by simpa using hk
  generalize i:(f::kvs).map (·.2)=xs at r
  generalize j:(p::ps).map (·.2)=ys at r
  cases r with
  | nil=>cases i
  | cons a as =>
   cases i
   cases j
   unfold yR at e
   rw[List.find?_cons] at e
   by_cases h:f.1=k
   ·rw[Fo h] at e
    cases e
    exact ⟨_,_,iZ (b.1.symm.trans h),a,λc g=>E3 _ g⟩
   ·rw[Fp h] at e
    obtain ⟨v,L',h1,h2,h3⟩:=qw b.2 as e
    exact ⟨v,L',by rw[i5 (λz=>h (b.1.trans z))];exact h1,h2,λc g=>E4 _ (h3 c g)⟩
def ke:D->D->Option (D×Fl)
 | .dt kvs,.tup ks=>match eD ks with
  | some k=>(yR kvs k).map λd=>(d,.z)
  | none=>none
 | _,_=>none
def tw:R2:=λx y H Q=>∃ a v,x=.ref a/\DGet H a y (some v)/\Q v H
theorem AW:OpD K tw ke:=λa b H Q p ra rb e q=>by
 obtain ⟨da,s,r,o⟩:=a
 obtain ⟨db,w,A,B⟩:=b
 have f:=ra
 obtain ⟨ra,x⟩:=ra
 obtain ⟨rb,ob⟩:=rb
 dsimp only at ra rb e
 cases da with
 | dt kvs =>
  obtain ⟨g,ps,n,rfl,rfl,l,i,rs⟩:=ra.view
  cases db with
  | tup ks =>
   obtain ⟨u,ws,rfl,j,h⟩:=rb.view
   have e:(match eD ks with | some k=>(yR kvs k).map λd=>(d,Fl.z) | none=>none)=some p:=e
   cases h1:eD ks with
   | none=>rw[h1] at e;exact nsE e
   | some k =>
    rw[h1] at e
    obtain ⟨d,h2,h3⟩:=E2.mp (show (yR kvs k).map (λd=>(d,Fl.z))=some p from e)
    subst h3
    have hw:=gk h h1
    subst hw
    obtain ⟨v,L',g1,g2,g3⟩:=qw i rs h2
    refine ⟨g,v,rfl,by rw[<- g1];exact DGet.t l j,q ⟨d,v,L',.z⟩ H (p7 g2 λc m=>?_) rfl rfl⟩
    exact oP (y:=⟨.dt kvs,.ref g,g::n,o⟩) EW f rfl rfl c (g3 c m)
  | _=>exact nsE e
 | _=>exact nsE e
open PySem.Spec PyProof.Rows in
theorem Bh (hu:X.A.units+1 < cLine):IxR X tw:=by
 intro value slice pins s σ H x y v u Q I d i h hs
 obtain ⟨a,w,rfl,g,q⟩:=h
 cases d
 have c:=qC I g
 unfold subscriptTail
 refine ET ?_
 rw[getitemInPython_of_ne c.not_modules]
 refine ET (wpAny_specialOf c PySem.F.slot_dict_getitem.lookup ?_)
 have fin:wpAny (model X.prog X.w) X.A (subscripted slice false (.ref a) u) (λr e=>wpAny (model X.prog X.w) X.A (letTemporaryGo value (.ref a) r >>= λ_=>pure r) (EP X pins σ Q) X.xe e) X.xe s:=by
  rw[hs]
  exact wpAny_operating (vS hu I g i λj s3 f b=>ET (wpAny_letTemporaryGo (EU ⟨w,H,f,b,q⟩)))
 first
  | exact EU (ET fin)
  | exact ET (EU (ET fin))
  | exact ET fin
abbrev aJ:=orD ixD ke
theorem DN:OpD K (λx y H Q=>(xx K x y H Q\/xw K x y H Q)\/tw x y H Q) aJ:=od_ix.or AW
theorem Ei (hu:X.A.units+1 < cLine):IxR X (λx y H Q=>(xx X.K x y H Q\/xw X.K x y H Q)\/tw x y H Q):=ix_ok.or (Bh hu)
def j5:D->List D->Option (D×D)
 | .dt kvs,[.tup ks,v]=>match eD ks with
  | some k=>if kvs.length < 16777216 then some (.dt (xz kvs k v),.non) else none
  | none=>none
 | _,_=>none
def tu:ER:=λo i v H Q=>∃ a H',o=.ref a/\DPut H a i v H'/\Q H'
theorem wO (hu:X.A.units+1 < cLine):zH X tu:=by
 intro pins s σ H o i v ov f u Q I b d c h
 obtain ⟨a,H',rfl,g,q⟩:=h
 cases b
 exact vR hu I g d c λs' e=>⟨H',e,q⟩
theorem pS:∀ {kvs:List (List Key×D)} {ps:List (List Key×V)} {L L':List Addr} {k:List Key} {d:D} {v:V},kvs.map (·.1)=ps.map (·.1)->Reps (Rep K H) (kvs.map (·.2)) (ps.map (·.2)) L->Rep K H d v L' ->
  ∃ L2,Reps (Rep K H) ((kvs.map λb=>if b.1=k then (b.1,d) else b).map (·.2)) ((ps.map λb=>if b.1=k then (b.1,v) else b).map (·.2)) L2/\(∀ c∈L2,c∈L\/c∈L')
 | [],[],L,L',k,d,v,hk,r,rd=>⟨[],.nil,λc f=>by cases f⟩
 | [],_::_,_,_,_,_,_,hk,_,_=>by cases hk
 | _::_,[],_,_,_,_,_,hk,_,_=>by cases hk
 | b::kvs,p::ps,L,L',k,d,v,hk,r,rd=>by
  have e:b.1=p.1/\kvs.map (·.1)=ps.map (·.1):=by simpa using hk
  generalize g:(b::kvs).map (·.2)=xs at r
  generalize i:(p::ps).map (·.2)=ys at r
  cases r with
  | nil=>cases g
  | @cons _ _ L1 _ _ L1' a as =>
   cases g
   cases i
   obtain ⟨L2,h1,h2⟩:=pS (k:=k) e.2 as rd
   by_cases h:b.1=k
   ·refine ⟨L'++L2,?_,λc f=>?_⟩
    ·simp only[Fm,if_pos h,if_pos (e.1.symm.trans h)]
     exact .cons rd h1
    ·rcases E8.mp f with z | z
     ·exact .inr z
     ·rcases h2 c z with y | y
      ·exact .inl (E4 _ y)
      ·exact .inr y
   ·refine ⟨L1++L2,?_,λc f=>?_⟩
    ·simp only[Fm,if_neg h,if_neg (λz=>h (e.1.trans z))]
     exact .cons a h1
    ·rcases E8.mp f with z | z
     ·exact .inl (E3 _ z)
     ·rcases h2 c z with y | y
      ·exact .inl (E4 _ y)
      ·exact .inr y
theorem zC {kvs:List (List Key×D)} {ps:List (List Key×V)} (b:kvs.map (·.1)=ps.map (·.1)):(kvs.any λa=>decide (a.1=k))=ps.any λa=>decide (a.1=k):=by
 have h1:(kvs.any λa=>decide (a.1=k))=(kvs.map (·.1)).any λx=>decide (x=k):=by rw[List.any_map];rfl
 have h2:(ps.any λa=>decide (a.1=k))=(ps.map (·.1)).any λx=>decide (x=k):=by rw[List.any_map];rfl
 rw[h1,h2,b]
theorem qf {kvs:List (List Key×α)} {d:α}:(kvs.map λa=>if a.1=k then (a.1,d) else a).map (·.1)=kvs.map (·.1):=by
 rw[FJ]
 refine FK λa _=>?_
 show (if a.1=k then (a.1,d) else a).1=a.1
 split <;> rfl
theorem put1 (a:D):j5 (.dt kvs) [a]=none:=by cases a <;> rfl
theorem put3' (a:D):j5 (.dt kvs) (a::b::c::r)=none:=by cases a <;> rfl
set_option tactic.hygienic true in
theorem A5:MutD K (lj tu) j5:=λa d n as H Q p r m na ra u e q=>by
 cases d with
 | dt kvs =>
  obtain ⟨_,ps,_,e1,C,x,i,rs⟩:=r.view
  cases e1
  cases C
  match as,e,ra,u with
  | [],e,_,_=>exact nsE e
  | [y],e,_,_=>exact nsE ((put1 y.d).symm.trans e)
  | y::_::_::_,e,_,_=>exact nsE ((put3' y.d).symm.trans e)
  | [k,y],e,ra,u =>
   have w:=ra k EW
   have E:=ra y (EY _ EW)
   have B:=u y (EY _ EW)
   obtain ⟨kd,G,I,F⟩:=k
   dsimp only at w
   cases kd with
   | tup ks =>
    obtain ⟨A,ws,rfl,f,s⟩:=w.view
    have e:(match eD ks with | some k=>if kvs.length < 16777216 then some (D.dt (xz kvs k y.d),D.non) else none | none=>none)=some p:=e
    cases h1:eD ks with
    | none=>rw[h1] at e;exact nsE e
    | some key =>
     rw[h1] at e
     dsimp only at e
     split at e
     ·rename_i hl
      cases e
      have hw:=gk s h1
      subst hw
      have hlen:kvs.length=ps.length:=by have:=congrArg List.length i;simpa using this
      refine ⟨.ref A,y.v,rfl,a,_,rfl,DPut.t x f (by rw[<- hlen,<- szl];exact hl),?_⟩
      have ma:MutAt H a:=.inr (.inr ⟨_,x⟩)
      have g:Rep K (upd H a (.dT (fh ps key y.v))) y.d y.v y.L:=E.keep (M:=λb=>b=a) (λb o f h=>by rw[ak h];exact f) (λb e=>by rw[e];exact ma) λb f e=>B (by rw[<- e];exact f)
      have keeps:Reps (Rep K (upd H a (.dT (fh ps key y.v)))) (kvs.map (·.2)) (ps.map (·.2)) n:=rs.keep (M:=λb=>b=a) (λb o f h=>by rw[ak h];exact f) (λb e=>by rw[e];exact ma) λb f e=>na (by rw[<- e];exact f)
      have fin:∃ l,Reps (Rep K (upd H a (.dT (fh ps key y.v)))) ((xz kvs key y.d).map (·.2)) ((fh ps key y.v).map (·.2)) l/\(∀ c∈l,c∈n\/c∈y.L)/\(xz kvs key y.d).map (·.1)=(fh ps key y.v).map (·.1):=by
       generalize upd H a (HO.dT (fh ps key y.v))=H2 at keeps g ⊢
       unfold xz fh
       rw[zC i]
       split
       ·obtain ⟨L2,g1,g2⟩:=pS (k:=key) i keeps g
        exact ⟨L2,g1,g2,by rw[qf,qf];exact i⟩
       ·refine ⟨n++(y.L++[]),?_,λc j=>?_,by rw[List.map_append,List.map_append,i];rfl⟩
        ·rw[List.map_append,List.map_append]
         exact keeps.append (.cons g .nil)
        ·rcases E8.mp j with z | z
         ·exact .inl z
         ·rw[List.append_nil] at z;exact .inr z
      obtain ⟨l,g1,g2,g3⟩:=fin
      exact q (.dT (fh ps key y.v)) l ⟨.non,.non,[],.z⟩ (.dT aA g3 g1) rfl (λc j=>(g2 c j).imp id λh=>⟨y,EY _ EW,h⟩) rfl rfl .non λc j=>by cases j
     ·exact nsE e
   | _=>exact nsE e
 | _=>exact nsE e
def rG (f g:D->List D->Option (D×D)) (a:D) (b:List D):Option (D×D):=match f a b with
 | some p=>some p
 | none=>g a b
theorem MutD.or {f g:D->List D->Option (D×D)} (h:MutD K r f) (h':MutD K r' g):MutD K (λx y H Q=>r x y H Q\/r' x y H Q) (rG f g):=λa d c as H Q p r m na ra i e q=>by
 unfold rG at e
 cases b:f d (as.map (·.d)) with
 | some p'=>rw[b] at e;cases e;exact .inl (h a d c as H Q _ r m na ra i b q)
 | none=>rw[b] at e;exact .inr (h' a d c as H Q p r m na ra i e q)
abbrev setD:=rG pL j5
theorem DS:MutD K (lj λo i v H Q=>lh o i v H Q\/tu o i v H Q) setD:=λa d b as H Q p r m na ra c e q=>by
 rcases MutD.or A4 A5 a d b as H Q p r m na ra c e q with ⟨k,v,h1,h2⟩ | ⟨k,v,h1,h2⟩
 ·exact ⟨k,v,h1,.inl h2⟩
 ·exact ⟨k,v,h1,.inr h2⟩
theorem Ag (hu:X.A.units+1 < cLine):zH X (λo i v H Q=>lh o i v H Q\/tu o i v H Q):=by
 intro pins s σ H o i v ov d u Q I a c b h
 rcases h with h | h
 ·exact wN pins s σ H o i v ov d u Q I a c b h
 ·exact wO hu pins s σ H o i v ov d u Q I a c b h
end
end L3
end
section
namespace L3
open PySem L2
section
open PySem.Spec PyProof.Rows HT
variable {prog:Program} {w:World} {A:Around} {E:Value->Shared->Prop} {s:Shared}
theorem iA {lo hi:Option Int} (a:IsTup s.heap t items) (hs:s.heap.IsSliceOf sl vl vu .none) (pl:IsPart vl lo) (pu:IsPart vu hi) (hw:sIx items.size 0 lo=0/\sIx items.size items.size hi=items.size) (h:Q (.ref t) s) (hsz:items.size<=sizeLine):wpAny (model prog w) A (getItem (.ref t) (.ref sl)) Q E s:=by
 obtain ⟨os,c,d,e⟩:=id hs
 have b:s.TypeIs (.ref sl) "slice":=⟨os,c,d⟩
 unfold getItem
 try with_reducible refine EV ?_
 first | refine ET (EU ?_) | skip
 refine ET (wpAny_sequenceKey a.typeIs (by decide) ?_)
 refine ET (wpAny_callSpecial?_slot (name:=Str.ofString "__getitem__") a.typeIs PyProof.Rows.slot_tuple_getitem
  (wpAny_call_entry PyProof.Rows.slot_tuple_getitem a.typeIs entry_tuple_getitem ?_ (args_tuple_getitem _ _)))
 show wpAny _ _ (Builtin.Tuple.tupleItemsOf (.ref t) >>= _) _ _ s
 refine ET (tupleItemsOf_ a ?_)
 refine ET (wpAny_typeOf b ?_)
 rw[if_pos (by decide)]
 refine ET (eG hs pl pu ?_)
 show wpAny _ _ (if (((sIx items.size 0 lo:Nat):Int) == 0 && (1:Int) == 1 && (sIx items.size items.size hi - sIx items.size 0 lo) == items.size)=true then _ else _) _ _ s
 rw[if_pos (by simp[hw.1,hw.2])]
 refine ET ?_
 unfold Builtin.Tuple.tupleIsExact
 refine ET (wpAny_typeOf a.typeIs ?_)
 refine EU ?_
 rw[if_pos (by decide)]
 exact ET (wpAny_rule (EU ⟨_,rfl,EU h⟩))
end
section
variable {K:FG} {G G0:Gm} {W W0:D->Sto->Prop} {H H':Hp} {σ:St} {ρ ρ':Sto} {T T':List It3} {g:Nat->Option It3} {x y z:It3} {α β:Type} {X:Cx} {L:List Addr}
def xu (K:FG):V->Option Int->Option Int->Hp->VK->Prop:=λx lo hi H Q=>∃ a xs,x=.ref a/\SqT K H a xs/\(HT.sIx xs.length 0 lo=0/\HT.sIx xs.length xs.length hi=xs.length)/\Q (.ref a) H
theorem Aa:SlR X (xu X.K):=by
 intro pins s σ H x v e f lo hi sl Q I c hs pl pu h
 obtain ⟨a,xs,rfl,d,hw,q⟩:=h
 cases c
 obtain ⟨its,r,b,hz⟩:=I.tuple d
 have hlen:its.toArray.size=xs.length:=by rw[Fj];exact r.length.symm
 refine ⟨"tuple",_,PyProof.Rows.slot_tuple_getitem.lookup,b.typeIs,?_⟩
 exact iA b hs pl pu (by rw[hlen];exact hw) ⟨.ref a,H,I,rfl,q⟩ (by rw[hlen];exact hz)
def asI:D->Option Int
 | .int i=>some i
 | _=>none
def gc:M3 (Option Int):=aQ none
def fG (m:EM):M3 (Option Int):=af m λr=>af (der r) λd=>aT ((asI d).map some)
def EndP (K:FG) (G:Gm) (W:D->Sto->Prop) (σ:St) (T:List It3) (ρ':Sto) (Q:Option Int->Hp->Prop):Except D (Option Int)->Prop
 | .ok b=>∀ H' g',Wf K G H' σ ρ' T g'->Q b H'
 | .error e=>W e ρ'
def tP (K:FG) (G0:Gm) (W0:D->Sto->Prop) (m:M3 (Option Int)):TO:=λσ H Q=>∃ G W,Le K G W G0 W0/\∃ ρ T g r ρ',Wf K G H σ ρ T g/\m ρ=some (r,ρ')/\EndP K G W σ T ρ' Q r
structure RP (X:Cx) (G0:Gm) (W0:D->Sto->Prop) (e:Option Expr) (m:M3 (Option Int)):Prop where
 h:PO X e (tP X.K G0 W0 m)
theorem PO.imp (h:PO X e t) (f:∀ σ H Q,t' σ H Q->t σ H Q):PO X e t':=λpins s σ H Q I q=>h pins s σ H Q I (f σ H Q q)
theorem As:RP X G0 W0 none gc:=⟨PO.imp AI λσ H Q h=>by
 obtain ⟨G,W,le,ρ,T,g,r,ρ',w,e,q⟩:=h
 cases e
 exact q _ _ w⟩
theorem Aq (h:RE X G0 W0 e m):RP X G0 W0 (some e) (fG m):=⟨PO.imp (AH h.h) λσ H Q h=>by
 obtain ⟨G,W,le,ρ,T,g,r,ρ',w,e,q⟩:=h
 have a:∀ x,r=.error x->W x ρ':=λx f=>by subst f;exact q
 refine tE.seq le w e a λra ρ1 e1 v H1 ⟨Ts,g1,c,a1⟩=>?_
 obtain ⟨d,d1,p⟩:=aM e1
 obtain ⟨o,n,rfl,rfl⟩:=bF p
 obtain ⟨i,j,l⟩:=E2.mp n
 subst l
 obtain ⟨y,k,f1,f2⟩:=a1.item c (λx f=>E3 _ f) d1
 have b:=(c.itm k).rep
 rw[f1] at b
 have hd:d=.int i:=by cases d <;> cases j;rfl
 rw[hd] at b
 refine ⟨i,by rw[<- f2];exact b.int_inv,q _ _ (c.sub (Fd Ts T))⟩⟩
def mSl (f:D->Option Int->Option Int->Option (D×Fl)) (ma:EM) (pl pu:M3 (Option Int)):EM:=af ma λra=>af pl λlo=>af pu λhi=>af (der ra) λd=>aT ((f d lo hi).map λp=>R3.val p.1 p.2)
def SlD (K:FG) (r:V->Option Int->Option Int->Hp->VK->Prop) (f:D->Option Int->Option Int->Option (D×Fl)):Prop:=∀ (a:It3) (lo hi:Option Int) (H:Hp) (Q:VK) (p:D×Fl),Arg K H a->f a.d lo hi=some p ->
 (∀ w H',New K H H' (dq [a]) w->w.d=p.1->w.f=p.2->Q w.v H')->r a.v lo hi H Q
theorem tP.seq (le:Le K G W G0 W0) (w:Wf K G H σ ρ T g) (e:af ma k ρ=some (r,ρ')) (he:∀ x,r=.error x->W x ρ') (h:∀ b ρ1,k b ρ1=some (r,ρ')->∀ H1 g1,Wf K G H1 σ ρ1 T g1->P b H1):tP K G0 W0 ma σ H P:=by
 unfold af at e
 cases q:ma ρ with
 | none=>rw[q] at e;exact nsE e
 | some p =>
  obtain ⟨o,ρ1⟩:=p
  rw[q] at e
  cases o with
  | error x=>cases e;exact ⟨G,W,le,ρ,T,g,.error x,ρ',w,q,he x rfl⟩
  | ok ra=>exact ⟨G,W,le,ρ,T,g,.ok ra,ρ1,w,q,h ra ρ1 e⟩
theorem tE_sl (hd:SlD K r f) (h:tE K G0 W0 (mSl f ma pl pu) σ H Q):tSl r (tE K G0 W0 ma) (tP K G0 W0 pl) (tP K G0 W0 pu) σ H Q:=by
 refine h.use λG W le ρ T g o ρ' w e q=>?_
 refine tE.seq le w e q.err λra ρ1 e1 v H1 ⟨Ts,g1,m,a1⟩=>?_
 refine tP.seq le m e1 q.err λlo ρ2 t H2 g2 k=>?_
 refine tP.seq le k t q.err λhi ρ3 l n g3 c=>?_
 obtain ⟨d,d1,j⟩:=aM l
 obtain ⟨p,a,rfl,rfl⟩:=bF j
 obtain ⟨y,i,f1,f2⟩:=a1.item c (λx u=>E3 _ u) d1
 subst f1 f2
 cases b:f y.d lo hi with
 | none=>rw[b] at a;exact nsE a
 | some s =>
  rw[b] at a
  cases a
  exact hd y lo hi n Q s (c.itm i).arg b (nD c (λz hz=>by rw[Fz.mp hz];exact i) q)
theorem Reps.take:∀ {ds:List D} {vs:List V} {L:List Addr} (n:Nat),Reps (Rep K H) ds vs L->∃ L',Reps (Rep K H) (ds.take n) (vs.take n) L'/\∀ c∈L',c∈L
 | _,_,_,0,_=>⟨[],by simpa using Reps.nil,λc a=>by cases a⟩
 | _,_,_,n+1,.nil=>⟨[],by simpa using Reps.nil,λc a=>by cases a⟩
 | _,_,_,n+1,.cons (L:=L1) r rs=>by
  obtain ⟨L',h1,h2⟩:=Reps.take n rs
  exact ⟨L1++L',by simpa using Reps.cons r h1,λc a=>by
   rcases E8.mp a with h | h
   ·exact E3 _ h
   ·exact E4 _ (h2 c h)⟩
theorem Reps.drop:∀ {ds:List D} {vs:List V} {L:List Addr} (n:Nat),Reps (Rep K H) ds vs L->∃ L',Reps (Rep K H) (ds.drop n) (vs.drop n) L'/\∀ c∈L',c∈L
 | _,_,L,0,r=>⟨L,by simpa using r,λc a=>a⟩
 | _,_,_,n+1,.nil=>⟨[],by simpa using Reps.nil,λc a=>by cases a⟩
 | _,_,_,n+1,.cons r rs=>by
  obtain ⟨L',h1,h2⟩:=Reps.drop n rs
  exact ⟨L',by simpa using h1,λc a=>E4 _ (h2 c a)⟩
theorem Reps.cut (lo hi:Option Int) (r:Reps (Rep K H) ds vs L):∃ L',Reps (Rep K H) (eF ds lo hi) (qD vs lo hi) L'/\∀ c∈L',c∈L:=by
 unfold eF qD
 rw[<- r.len]
 obtain ⟨d,h1,h2⟩:=r.drop (HT.sIx ds.length 0 lo)
 obtain ⟨L2,h3,b⟩:=h1.take (HT.sIx ds.length ds.length hi - HT.sIx ds.length 0 lo)
 exact ⟨L2,h3,λc a=>h2 c (b c a)⟩
def slD:D->Option Int->Option Int->Option (D×Fl)
 | .lst xs,lo,hi=>some (.lst (eF xs lo hi),.u)
 | .fls xs,lo,hi=>some (.lst (eF xs lo hi),.u)
 | .tup xs,lo,hi=>some (.tup (eF xs lo hi),.z)
 | _,_,_=>none
theorem sd_sl:SlD K (λx lo hi H Q=>Dn K x lo hi H Q\/(Dm K x lo hi H Q\/xu K x lo hi H Q)) slD:=λa lo hi H Q p ra e q=>by
 obtain ⟨da,m,j,i⟩:=a
 have d:=ra
 obtain ⟨ra,l⟩:=ra
 dsimp only at ra e
 cases da with
 | lst xs =>
  obtain ⟨b,vs,k,rfl,rfl,g,rs⟩:=ra.view
  cases e
  obtain ⟨L',h1,h2⟩:=rs.cut lo hi
  exact .inl ⟨b,vs,rfl,SqL.of g,λp h=>q ⟨_,.ref p,p::L',.u⟩ _ (vi h h1 λc f=>oP (y:=⟨.lst xs,.ref b,b::k,i⟩) EW d rfl rfl c (h2 c f)) rfl rfl⟩
 | fls xs =>
  obtain ⟨b,vs,rfl,g,rs⟩:=ra.view
  cases e
  obtain ⟨L',h1,h2⟩:=rs.cut lo hi
  exact .inl ⟨b,vs,rfl,g.sq,λp h=>q ⟨_,.ref p,p::L',.u⟩ _ (vi h h1 λc f=>jM (y:=⟨.fls xs,.ref b,j,i⟩) EW d rfl c (h2 c f)) rfl rfl⟩
 | tup xs =>
  obtain ⟨b,vs,rfl,g,rs⟩:=ra.view
  cases e
  by_cases hw:HT.sIx vs.length 0 lo=0/\HT.sIx vs.length vs.length hi=vs.length
  ·have f:eF xs lo hi=xs:=by
    unfold eF
    rw[rs.len,hw.1,hw.2,<- rs.len]
    simp
   rw[f] at q
   exact .inr (.inr ⟨b,vs,rfl,SqT.of g,hw,q ⟨.tup xs,.ref b,j,.z⟩ H (p7 (.tup g rs) (jM (y:=⟨.tup xs,.ref b,j,i⟩) EW d rfl)) rfl rfl⟩)
  ·obtain ⟨L',h1,h2⟩:=rs.cut lo hi
   exact .inr (.inl ⟨b,vs,rfl,SqT.of g,hw,λp h=>q ⟨_,.ref p,L',.z⟩ _ (xV h h1 λc f=>jM (y:=⟨.tup xs,.ref b,j,i⟩) EW d rfl c (h2 c f)) rfl rfl⟩)
 | _=>exact nsE e
theorem CP:SlR X (λx lo hi H Q=>Dn X.K x lo hi H Q\/(Dm X.K x lo hi H Q\/xu X.K x lo hi H Q)):=sl_list.or (sl_tup.or Aa)
theorem xh (he:RE X G0 W0 e m) (hl:RP X G0 W0 lo pl) (hu:RP X G0 W0 hi pu):RE X G0 W0 (.Subscript e (.Slice lo hi none p2) pos) (mSl slD m pl pu):=⟨PE.imp (xN CP he.h hl.h hu.h) λ_ _ _ h=>tE_sl sd_sl h⟩
end
end L3
end
section
namespace L3
open PySem L2
mutual
def pyD:D->Option PyData
 | .non=>some .none
 | .bl b=>some (.bool b)
 | .int i=>some (.int i)
 | .str x=>some (.str x)
 | .tup xs=>(eh xs).map .tuple
 | .lst xs=>(eh xs).map .list
 | .fls xs=>(eh xs).map .list
 | .dk _=>none
 | .dt _=>none
 | .exc _ _=>none
def eh:List D->Option (List PyData)
 | []=>some []
 | d::ds=>match pyD d,eh ds with
  | some p,some ps=>some (p::ps)
  | _,_=>none
end
section
variable {K:FG} {H:Hp} {Ks:Addr->Prop} {d:D} {v:V} {L:List Addr} {X:Cx}
set_option tactic.hygienic true in
theorem Rep.dv (r:Rep K H d v L):∀ p,pyD d=some p->DV K H v p:=by
 refine Rep.rec (motive_1:=λd v _ _=>∀ p,pyD d=some p->DV K H v p) (motive_2:=λds vs _ _=>∀ ps,eh ds=some ps->DVs K H vs ps) ?_ ?_ ?_ ?_ ?_ ?_ ?_ ?_ ?_ ?_ ?_ ?_ ?_ r
 ·intro p e;unfold pyD at e;cases e;exact .non
 ·intro _ p e;unfold pyD at e;cases e;exact .bl _
 ·intro _ p e;unfold pyD at e;cases e;exact .int _
 ·intro _ p e;unfold pyD at e;cases e;exact .str _
 ·intro xs a vs L h _ b p e
  unfold pyD at e
  obtain ⟨ps,e1,rfl⟩:=E2.mp e
  exact .tup (SqT.of h) (b ps e1)
 ·intro xs a vs L h _ b p e
  unfold pyD at e
  obtain ⟨ps,e1,rfl⟩:=E2.mp e
  exact .lst (SqL.of h) (b ps e1)
 ·intro xs a vs L h _ b p e
  unfold pyD at e
  obtain ⟨ps,e1,rfl⟩:=E2.mp e
  exact .lst h.sq (b ps e1)
 ·intro _ _ _ _ _ _ _ _ p e;unfold pyD at e;exact nsE e
 ·intro _ _ _ _ _ _ _ _ p e;unfold pyD at e;exact nsE e
 ·intros;rename_i e;unfold pyD at e;exact nsE e
 ·intros;rename_i e;unfold pyD at e;exact nsE e
 ·intro ps e;unfold eh at e;cases e;exact .nil
 ·intro d v L ds vs L' _ _ f c ps e
  unfold eh at e
  cases h1:pyD d with
  | none=>rw[h1] at e;exact nsE e
  | some p =>
   cases h2:eh ds with
   | none=>rw[h1,h2] at e;exact nsE e
   | some qs=>rw[h1,h2] at e;cases e;exact .cons (f p h1) (c qs h2)
def eqP (a b:D):Option Bool:=match pyD a,pyD b with
 | some p,some q=>if p.canLay0 && q.canLay0 && decide (min p.depth q.depth<=30) then some (PyData.eqv p q) else none
 | _,_=>none
def eqA (a b:D):Option Bool:=match eqS a b with
 | some k=>some k
 | none=>eqP a b
abbrev eqX (a b:D):Option (D×Fl):=(eqA a b).map λk=>(.bl k,.z)
abbrev neX (a b:D):Option (D×Fl):=(eqA a b).map λk=>(.bl (!k),.z)
def rEqP:R2:=λx y H Q=>∃ p q,DV X.K H x p/\DV X.K H y q/\p.canLay0=true/\q.canLay0=true/\min p.depth q.depth<=30/\Q (.bl (PyData.eqv p q)) H
def rNeP:R2:=λx y H Q=>∃ p q,DV X.K H x p/\DV X.K H y q/\p.canLay0=true/\q.canLay0=true/\min p.depth q.depth<=30/\Q (.bl (!PyData.eqv p q)) H
theorem xR (hu:X.A.units+64 < cLine):OpR X (compareOp .Eq) (λx y H Q=>rEq x y H Q\/rEqP (X:=X) x y H Q):=by
 intro pins s σ H x y v u Q I a b h
 rcases h with h | ⟨p,q,h1,h2,h3,c,e,d⟩
 ·exact op_eq pins s σ H x y v u Q I a b h
 ·obtain ⟨as,ra⟩:=DV.reads I h1 a
  obtain ⟨bs,rb⟩:=DV.reads I h2 b
  exact PySem.SeqAt.compareEq_reads ra rb h3 c (by lia) ⟨.bl _,H,I,rfl,d⟩
theorem DI (hu:X.A.units+64 < cLine):OpR X (compareOp .NotEq) (λx y H Q=>rNe x y H Q\/rNeP (X:=X) x y H Q):=by
 intro pins s σ H x y v u Q I a b h
 rcases h with h | ⟨p,q,h1,h2,h3,c,e,d⟩
 ·exact op_ne pins s σ H x y v u Q I a b h
 ·obtain ⟨as,ra⟩:=DV.reads I h1 a
  obtain ⟨bs,rb⟩:=DV.reads I h2 b
  exact PySem.SeqAt.compareNe_reads ra rb h3 c (by lia) ⟨.bl _,H,I,rfl,d⟩
set_option tactic.hygienic true in
theorem ui (e:eqP a b=some k):∃ p q,pyD a=some p/\pyD b=some q/\p.canLay0=true/\q.canLay0=true/\min p.depth q.depth<=30/\k=PyData.eqv p q:=by
 unfold eqP at e
 cases h1:pyD a with
 | none=>rw[h1] at e;exact nsE e
 | some p =>
  cases h2:pyD b with
  | none=>rw[h1,h2] at e;exact nsE e
  | some q =>
   rw[h1,h2] at e
   dsimp only at e
   split at e
   ·rename_i h
    cases e
    simp only[Bool.and_eq_true,decide_eq_true_eq] at h
    exact ⟨p,q,rfl,rfl,h.1.1,h.1.2,h.2,rfl⟩
   ·exact nsE e
theorem xT:OpD X.K (λx y H Q=>rEq x y H Q\/rEqP (X:=X) x y H Q) eqX:=λa b H Q p ra rb e q=>by
 obtain ⟨k,h1,h2⟩:=E2.mp e
 subst h2
 unfold eqA at h1
 cases hs:eqS a.d b.d with
 | some k' =>
  rw[hs] at h1
  cases h1
  obtain ⟨s,i⟩:=yY ra.rep rb.rep hs
  exact .inl ⟨s,by rw[<- i];exact q ⟨.bl k,.bl k,[],.z⟩ H (cF (.bl k)) rfl rfl⟩
 | none =>
  rw[hs] at h1
  obtain ⟨p,c,e1,j,g,h,f,rfl⟩:=ui h1
  exact .inr ⟨p,c,ra.rep.dv p e1,rb.rep.dv c j,g,h,f,q ⟨.bl _,.bl _,[],.z⟩ H (cF (.bl _)) rfl rfl⟩
theorem DO:OpD X.K (λx y H Q=>rNe x y H Q\/rNeP (X:=X) x y H Q) neX:=λa b H Q p ra rb e q=>by
 obtain ⟨k,h1,h2⟩:=E2.mp e
 subst h2
 unfold eqA at h1
 cases hs:eqS a.d b.d with
 | some k' =>
  rw[hs] at h1
  cases h1
  obtain ⟨s,i⟩:=yY ra.rep rb.rep hs
  exact .inl ⟨s,by rw[<- i];exact q ⟨.bl (!k),.bl (!k),[],.z⟩ H (cF (.bl _)) rfl rfl⟩
 | none =>
  rw[hs] at h1
  obtain ⟨p,c,e1,j,g,h,f,rfl⟩:=ui h1
  exact .inr ⟨p,c,ra.rep.dv p e1,rb.rep.dv c j,g,h,f,q ⟨.bl _,.bl _,[],.z⟩ H (cF (.bl _)) rfl rfl⟩
end
end L3
end
section
namespace L3
open PySem L2
theorem Et {k:Nat} {nn:Nat} (F:Fun K x x st f fd) (S:FnScope N ps (ad st)) (c:mask.length=ps.length) (b:N.length=nn) (body:∀ (a:Value) (A:Around) (outer:List Env) (s:Shared) (H:Hp) (E:XK) (f:Addr) (G:Gm),Room k (A.deeper (PyProof.Rows.envOfC x (ad st) s.heap.objs.size f a))->G.pr=prM mask->RSs (dn CX0 P w K mg base N x (ad st) f a A outer s H E).nox G noX (aw st) m) :
  FnOk P w K mg base CX0 (k+1) f fd ps (qX K (fnM mask nn m)):=by
 refine F.ok S (λvs H Q E h=>?_) λa A outer s H vs Q E d h=>?_
 ·obtain ⟨e,p,fs,rfl,_,_,i,_⟩:=h
  unfold fnM at i
  grind
 ·have hle:mask.length<=nn:=by
   rw[c,<- b]
   have:=congrArg List.length S.pre
   rw[Fv] at this
   omega
  obtain ⟨G,g,j⟩:=oU hle h
  subst b
  exact ⟨_,(body a A outer s H E f G d g).h,j⟩
def wF (K:FG):Sp:=λvs H Q _=>∃ (a:Addr) (ns:List Int),vs=[.ref a]/\SqL K H a (ns.map V.int)/\BJ H/\ns.length<=63/\∀ H',Q (.bl true) H'
theorem mQ:∀ ns:List Int,Reps (Rep K H) (ns.map D.int) (ns.map V.int) []
 | []=>.nil
 | n::ns=>.cons (L:=[]) (.int n) (mQ ns)
theorem Bc (f:∀ ns:List Int,ns.length<=63->∃ fs,F [(.fls (ns.map .int),.z)]=some (.ok (.bl true,.z),fs)) (h:wF K vs H Q E):qX K F vs H Q E:=by
 obtain ⟨a,ns,rfl,c,d,i,q⟩:=h
 obtain ⟨fs,e⟩:=f ns i
 have g:FzL K H a (ns.map V.int):=by
  rcases c with (h | h) | h
  ·rcases d a with z | ⟨o,xs,z⟩
   ·rw[h] at z;cases z
   ·rw[h] at z;cases z
  ·exact .inl h
  ·exact .inr h
 refine ⟨[⟨.fls (ns.map .int),.ref a,[],.z⟩],(.bl true,.z),fs,rfl,λp b=>?_,.cons (λ_ h=>by cases h) .nil,e,λx qs H' B x1 j _=>?_⟩
 ·rw[Fz.mp b]
  exact ⟨.lstF g (mQ ns),λh=>absurd rfl h⟩
 ·have r:=B.rep
  rw[x1] at r
  have inv:∀ {v:V} {L:List Addr},Rep K H' (.bl true) v L->v=.bl true:=λr=>by cases r;rfl
  rw[inv r]
  exact q H'
end L3
end
section
namespace L3
open PySem L2
def tW (ok:D->Bool) (f:List D->Option (D×Fl)) (b:EM) (ms:M3 (List R3)):EM:=af b λa=>af (der a) λc=>if ok c then af ms λrs=>af (cG (a::rs)) λds=>aT ((f ds).map λp=>R3.val p.1 p.2) else λ_=>none
section
variable {K:FG} {G G0:Gm} {W W0:D->Sto->Prop} {H H':Hp} {σ:St} {ρ ρ':Sto} {T T':List It3} {g:Nat->Option It3} {x y z:It3} {α β:Type} {X:Cx} {v:V} {d:D} {L:List Addr}
theorem z4 (C:cH K (λxs H Q=>∃ x vs,xs=x::vs/\r x vs H Q) f) (hok:∀ d v L H,ok d=true->Rep K H d v L->tyV K Ty v H) (h:tE K G0 W0 (tW ok f mo ms) σ H Q) :
  tBM K Ty r (tE K G0 W0 mo) (tA K G0 W0 ms) σ H Q:=by
 refine h.use λG W le ρ T g o ρ' w e q=>?_
 refine tE.seq le w e q.err λI ρ1 e1 F H1 ⟨Ts,g1,k,a1⟩=>?_
 obtain ⟨n,d1,c⟩:=aM e1
 cases j:ok n with
 | false=>rw[j] at c;exact nsE c
 | true =>
  rw[j] at c
  obtain ⟨y0,E,f0,f1⟩:=a1.item k (λx l=>E3 _ l) d1
  refine ⟨hok n F _ H1 j (by rw[<- f0,<- f1];exact (k.itm E).rep),?_⟩
  refine tA.seq le k c q.err λrs ρ2 B vs H2 Us g2 a a2=>?_
  obtain ⟨ds,A,u⟩:=bD B
  obtain ⟨p,b,rfl,rfl⟩:=bF u
  rw[<- List.append_assoc] at a
  obtain ⟨ys,m,f2,t⟩:=(Ars.cons a1 a2).items a (λx l=>E3 _ l) A
  subst f2
  cases i:f (ys.map (·.d)) with
  | none=>rw[i] at b;exact nsE b
  | some s =>
   rw[i] at b
   cases b
   obtain ⟨J,z,h1,h2⟩:=C ys H2 Q s (λy D=>(a.itm (m y D)).arg) i (nD a m q)
   rw[t] at h1
   cases h1
   exact h2
theorem tf {id:String} (j:PlainAttrs Ty) (slot:Slot Ty nm id) (i:typeOf (.builtin id)=pure (.type "method_descriptor")) (hm:MtR X id r) (k:cH X.K (λxs H Q=>∃ x vs,xs=x::vs/\r x vs H Q) f) (hok:∀ d v L H,ok d=true->Rep X.K H d v L->tyV X.K Ty v H) (l:RE X G0 W0 o mo) (m:RA X G0 W0 (e::es) ms) (b:attributeBase o nm X.env (eval o X.env)=eval o X.env) (g:((backTo cpos (starEach (e::es) X.env)).all (λx=>!x.1) && (backToKw cpos (keywordEach [] X.env)).all (λx=>x.1.isSome) && decide ((e::es).length+([]:List Keyword).length+(if ([]:List Keyword).isEmpty then 0 else 1) < 30))=true) (c:(apos.endLine == cpos.line)=true) (hs:starEach (e::es) X.env=(false,eval e X.env)::starEach es X.env) (a:(backTo cpos (starEach es X.env)).any (·.1)=false):RE X G0 W0 (.Call (.Attribute o nm apos) (e::es) [] cpos) (tW ok f mo ms) :=
 ⟨PE.imp (B0 j slot i hm l.h m.h b g c hs a) λ_ _ _ h=>z4 k hok h⟩
def bR:List D->Option (List Int)
 | []=>some []
 | .int i::ds=>(bR ds).map (i::·)
 | _=>none
set_option tactic.hygienic true in
theorem iu:∀ {ds:List D} {ns:List Int},bR ds=some ns->ds=ns.map D.int
 | [],ns,e=>by cases e;rfl
 | d::ds,ns,e=>by
  cases d <;> try (exact nsE e)
  rename_i b
  obtain ⟨r,h1,h2⟩:=E2.mp (show (bR ds).map (b::·)=some ns from e)
  subst h2
  rw[iu h1];rfl
theorem Reps.ints:∀ {ns:List Int} {vs:List V} {L:List Addr},Reps (Rep K H) (ns.map D.int) vs L->vs=ns.map V.int
 | [],_,_,.nil=>rfl
 | b::bs,_,_,.cons r rs=>by
  rw[Reps.ints rs]
  cases r;rfl
end
end L3
end
section
namespace L3
open PySem L2
end L3
end
section
namespace L3
open PySem L2
section
variable {K:FG} {G G0:Gm} {W W0:D->Sto->Prop} {H H':Hp} {σ:St} {ρ ρ':Sto} {T T':List It3} {g:Nat->Option It3} {x y z:It3} {α β:Type} {X:Cx} {v:V} {d:D} {L:List Addr}
theorem Reps.rep (r:Reps (Rep K H) ds vs L):∀ n:Nat,∃ L',Reps (Rep K H) (List.replicate n ds).flatten (List.replicate n vs).flatten L'/\∀ c∈L',c∈L
 | 0=>⟨[],.nil,λ_ h=>by cases h⟩
 | n+1=>by
  obtain ⟨L',h1,h2⟩:=Reps.rep r n
  refine ⟨L++L',?_,λc a=>?_⟩
  ·rw[List.replicate_succ,List.replicate_succ,List.flatten_cons,List.flatten_cons];exact r.append h1
  ·rcases E8.mp a with h | h
   ·exact h
   ·exact h2 c h
def zN (i j:Int):Prop:=0 < j/\j < 1267650600228229401496703205376
theorem xQ:OpR X (binaryOp .FloorDiv) (rI zN λi j=>.int (i / j)):=opI λi j _ _ _ _ _ a q=>by
 have h1:(0:Int) < j:=a.1
 have h2:j < 1267650600228229401496703205376:=a.2
 refine PyProof.Rows.floordiv_int (by lia) (by rw[Int.fdiv_eq_ediv_of_nonneg i (by lia)];exact q) (.inl (PyProof.noPylong_of_log2 ?_))
 have h3:j.natAbs < 2 ^ 100:=by lia
 exact Nat.lt_trans ((Nat.log2_lt (by lia)).mpr h3) (by decide)
abbrev vQ:=cR (λ_ j=>decide (0 < j/\j < 1267650600228229401496703205376)) λi j=>.int (i / j)
theorem AX:OpD K (rI zN λi j=>.int (i / j)) vQ:=jr (λi j h=>by simpa[zN] using h) λi j _=>.int _
end
end L3
end
section
namespace L3
open PySem L2
section
variable {K:FG} {G G0:Gm} {W W0:D->Sto->Prop} {H H':Hp} {σ:St} {ρ ρ':Sto} {T T':List It3} {g:Nat->Option It3} {x y z:It3} {α β:Type} {X:Cx} {v:V} {d:D} {L:List Addr}
def wR (i j:Nat) (ms:M3 (List R3)):SM:=af ms λrs=>af (gives rs) λds=>λρ=>match ds with
 | [a,b]=>if i < ρ.length/\j < ρ.length then some (.ok .nx,(ρ.set i (some (a,.z))).set j (some (b,.z))) else none
 | _=>none
theorem Wf.again (w:Wf K G H σ ρ T g) (a:Itm T g y) (hz:y.f=.z):Wf K G H σ ρ (y::T) g :=
 w.push (Ks:=dq [y]) ⟨Same.refl _,(w.itm a).rep,λc b=>.inr ⟨y,EW,b,λh=>absurd hz h⟩,λh=>absurd hz h⟩ λc h=>w.kids (λu hu=>by rw[Fz.mp hu];exact a) h
set_option tactic.hygienic true in
theorem Cz {i j:Nat} (hi:G0.pr i=false) (A:G0.pr j=false) (h:tS K G0 W0 (wR i j ms) E σ H):tPar i j (tA K G0 W0 ms) E σ H:=by
 refine h.use λG W le ρ T g r ρ' w e q=>?_
 refine tA.seq le w e q.err λrs ρ1 e1 vs H1 Ts g1 D a1=>?_
 obtain ⟨ds,ρ2,g2,c,_,y,_,ys,m,f1,f2⟩:=a1.gives D e1
 match ds,c,ys,f1,m,f2 with
 | [],c,_,_,_,_=>exact nsE c
 | [_],c,_,_,_,_=>exact nsE c
 | _::_::_::_,c,_,_,_,_=>exact nsE c
 | [a,b],c,[],f1,_,_=>cases f1
 | [a,b],c,[_],f1,_,_=>cases f1
 | [a,b],c,_::_::_::_,f1,_,_=>cases f1
 | [a,b],c,[y1,l],f1,m,f2 =>
  have c:(if i < ρ2.length/\j < ρ2.length then some (Except.ok Flw.nx,(ρ2.set i (some (a,Fl.z))).set j (some (b,Fl.z))) else none)=some (r,ρ'):=c
  split at c
  ·rename_i hl
   cases c
   obtain ⟨x,t⟩:=m y1 EW
   obtain ⟨B,u⟩:=m l (EY _ EW)
   have I:=y.again B u
   have n:Itm (l::(Ts.map cP++T)) g2 y1:=x.imp id λh=>EY _ h
   have F:=I.again n t
   have C:=F.store (f:=.z) hl.1 (by rw[le.pr];exact hi) (.inr rfl) (by intro h;cases h)
   have s:=C.store (f:=.z) (i:=j) (by rw[List.length_set];exact hl.2) (by rw[le.pr];exact A) (.inr rfl) (by intro h;cases h)
   have o:=s.sub (Fd (Ts.map cP) T)
   have k:y1.d=a/\l.d=b:=by injection f1 with p q;injection q with q _;exact ⟨p,q⟩
   rw[k.1,k.2] at o
   exact ⟨y1.v,l.v,f2.symm,q _ _ _ o⟩
  ·exact nsE c
theorem C5 (i j:Nat) {x y:Str} (e:X.calm=true) (l:X.N.Nodup) (hi:X.N[i]?=some x) (m:X.N[j]?=some y) (c:i≠j) (f:X.env.scope.names.lookup x=some .local) (g:X.env.scope.names.lookup y=some .local) (k:RA X G0 W0 [a,b] ms) (hw:swappedStores [.Tuple [.Name x px,.Name y py] kt pt] (.Tuple [a,b] k2 pt2) X.env=pure (some [x,y])) (hs:swapsWithSole [.Tuple [.Name x px,.Name y py] kt pt] (.Tuple [a,b] k2 pt2) pos.line X.env=pure false) (pi:G0.pr i=false) (d:G0.pr j=false) :
  RS X G0 W0 (.Assign [.Tuple [.Name x px,.Name y py] kt pt] (.Tuple [a,b] k2 pt2) pos) (wR i j ms):=⟨PS.imp (Ds e l hi m c f g k.h hw hs) λ_ _ _ h=>Cz pi d h⟩
end
end L3
end
section
namespace L3
open PySem L2
end L3
end
section
namespace L3
open PySem L2
end L3
theorem L2.Room.hu {k:Nat} (a:L2.Room k A):A.units+1 < PySem.cLine:=L2.hu_of a
end
section
namespace L3
open PySem L2
section
variable {K:FG} {G G0:Gm} {W W0:D->Sto->Prop} {H H':Hp} {σ:St} {ρ ρ':Sto} {T T':List It3} {g:Nat->Option It3} {x y z:It3} {α β:Type} {X:Cx} {v:V} {d:D} {L:List Addr}
def popF:D->List D->Option (D×D)
 | .lst xs,[]=>match xs.getLast? with
  | some (.int i)=>some (.lst xs.dropLast,.int i)
  | _=>none
 | _,_=>none
def idxQ:D->D->Option (D×Fl)
 | .lst xs,.bl true=>(fM xs).bind λbs=>if bs.findIdx id < bs.length then some (.int (bs.findIdx id:Nat),.z) else none
 | _,_=>none
abbrev idxD:=c2 idxQ
set_option tactic.hygienic true in
theorem zj:cH K (λxs H Q=>∃ x vs,xs=x::vs/\∃ (a:Addr) (xs:List V) (k:V) (j:Nat),x=.ref a/\vs=[k]/\SqL K H a xs/\fK k=true/\xs.all fK=true/\(∃ y,xs[j]?=some y/\eqV y k=true)/\(∀ (i:Nat) (y:V),i < j->xs[i]?=some y->eqV y k=false)/\Q (.int j) H) idxD:=λys H Q p ra e q=>by
 obtain ⟨y,z,rfl,c⟩:=lY e
 clear e
 have l:=(ra y EW).rep
 have f:=(ra z (EY _ EW)).rep
 obtain ⟨da,r,s,B⟩:=y
 obtain ⟨db,t,v,A⟩:=z
 dsimp only at l f c
 cases da with
 | lst xs =>
  obtain ⟨h,vs,u,rfl,rfl,n,rs⟩:=l.view
  cases f with
  | bl b =>
   cases b with
   | false=>exact nsE c
   | true =>
    obtain ⟨bs,h1,h2⟩:=Fy.mp (show ((fM xs).bind λbs=>if bs.findIdx id < bs.length then some ((.int (bs.findIdx id:Nat),.z):D×Fl) else none)=some p from c)
    split at h2
    ·rename_i hl
     cases h2
     have o:=jx h1
     subst o
     have m:=rs.bls
     subst m
     refine ⟨.ref h,[.bl true],rfl,h,bs.map V.bl,.bl true,bs.findIdx id,rfl,rfl,SqL.of n,rfl,by simp[fK],⟨.bl (bs[bs.findIdx id]),by rw[Ff,E6 hl];rfl,?_⟩,λi w hi hw=>?_,q ⟨.int _,.int _,[],.z⟩ H (cF (.int _)) rfl rfl⟩
     ·have:=List.findIdx_getElem (p:=id) (w:=hl)
      show (bs[bs.findIdx id] == true)=true
      simpa using this
     ·rw[Ff] at hw
      obtain ⟨b,g,rfl⟩:=E2.mp hw
      have d:i < bs.length:=by lia
      have:=List.not_of_lt_findIdx (p:=id) hi
      rw[E6 d] at g
      cases g
      show (bs[i] == true)=false
      simpa using this
    ·exact nsE h2
  | _=>exact nsE c
 | _=>exact nsE c
end
end L3
end
section
namespace L3
open PySem L2
def XA (K:FG):D->Value->Option Addr->Hp->Prop:=λe cls da H=>∃ c C fs,e=.exc c fs/\cls=.ref C/\XName K c C/\PayX K H da fs
abbrev BK (P:Program) (w:World) (K:FG) (mg:Str->Option Value) (base:Heap) (x:Str) (k:Nat) (ps:List Str) (F:Fn):Prop:=CalleeX P w K mg base x k ps (spF (XA K) K F)
abbrev BL (P:Program) (w:World) (K:FG) (mg:Str->Option Value) (base:Heap) (x:Str) (k:Nat) (ps:List Str) (F:Fn):Prop:=CalleeN P w K mg base x k ps (qX K F)
structure Pas (X:Cx) (G0:Gm) (W0:D->Sto->Prop):Prop where
 fly:∀ (pins:List (Addr×Obj)) (σ:St) (H:Hp) (s:Shared) (e:Value) (s':Shared),Inv X pins σ H s->CXe X.prog X.w X.stack H s (EX (XA X.K) X.K G0 W0 σ) e s'->X.xe e s'
structure Mak (X:Cx) (G0:Gm) (W0:D->Sto->Prop):Prop where
 made:∀ (pins:List (Addr×Obj)) (σ:St) (H:Hp) (s s':Shared) (a C:Addr) (vs:List Value),Inv X pins σ H s->EX (XA X.K) X.K G0 W0 σ (.ref C) none H->Heap.MadeExcOf s.heap s'.heap a (.ref C) vs->s'.os=s.os->s'.gens=s.gens->X.xe (.ref a) s'
 madeV:∀ (pins:List (Addr×Obj)) (σ:St) (H:Hp) (s:Shared) (a t d C:Addr),Inv X pins σ H s->EX (XA X.K) X.K G0 W0 σ (.ref C) (some d) H->s.heap.get? a=some (Ew C t (some d))->X.s₀.heap.get? a=none->H a=none->X.xe (.ref a) s
section
variable {X:Cx} {G G0:Gm} {W W0:D->Sto->Prop} {K:FG} {H H':Hp} {σ:St} {ρ ρ':Sto} {T T':List It3} {g:Nat->Option It3} {m:SM} {ms:M3 (List R3)} {st:Stmt} {sts:List Stmt} {x:Str} {p pos:Pos} {e:Expr} {es:List Expr} {k:Nat} {ps:List Str} {F:Fn}
theorem xo (c:BK X.prog X.w X.K X.mg X.base x k ps F) (f:Room k X.A) (i:Pas X G0 W0) (g:RA X G0 W0 (e::es) ms) (d:Gl X x) (b:(x == ("__debug__":Str))=false)
  (he:starEach (e::es) X.env=(false,eval e X.env)::starEach es X.env) (a:(backTo pos (starEach es X.env)).any (·.1)=false):RE X G0 W0 (.Call (.Name x p) (e::es) [] pos) (lF F ms) :=
 ⟨PE.imp (DB c f i.fly g.h d b he a) λ_ _ _ h=>z6 h⟩
theorem xp (c:BL X.prog X.w X.K X.mg X.base x k ps F) (g:RoomN k X.A) (d:Hd X) (i:RA X G0 W0 (e::es) ms) (f:Gl X x) (b:(x == ("__debug__":Str))=false)
  (he:starEach (e::es) X.env=(false,eval e X.env)::starEach es X.env) (a:(backTo pos (starEach es X.env)).any (·.1)=false):RE X G0 W0 (.Call (.Name x p) (e::es) [] pos) (au F ms) :=
 ⟨PE.imp (DC c g d i.h f b he a) λ_ _ _ h=>pD h⟩
def iK (c:String) (ms:M3 (List R3)):SM:=af ms λrs=>λρ=>if rs.length<=1000 then some (.error (.exc c []),ρ) else none
theorem Ars.lenV (a:Ars σ rs vs Ts):rs.length=vs.length:=by
 induction a with
 | nil=>rfl
 | cons _ _ ih=>rw[Fu,Fu,ih]
theorem wA (n:XName K c C) (h:tS K G0 W0 (iK c ms) E σ H):wB (λσ H1=>EX (XA K) K G0 W0 σ (.ref C) none H1) (tA K G0 W0 ms) E σ H:=by
 refine h.use λG W le ρ T g r ρ' w e q=>?_
 refine tA.seq le w e q.err λrs ρ1 e1 vs H1 Ts g1 d a1=>?_
 rcases Decidable.em (rs.length<=1000) with hl | hl
 ·rw[if_pos hl] at e1
  cases e1
  obtain ⟨ρ5,f,b,a,i⟩:=le.ex H1 σ _ _ g1 _ d q
  exact ⟨by rw[<- a1.lenV];exact hl,_,ρ5,f,b,a,⟨c,C,[],rfl,rfl,n,trivial⟩,i⟩
 ·rw[if_neg hl] at e1;exact nsE e1
theorem wZ (n:XName X.K c C) (cl:ECls X.K X.mg x C) (mk:Mak X G0 W0) (d:X.calm=true) (b:Gl X x) (hd:(x == ("__debug__":Str))=false) (f:RA X G0 W0 [e] ms) (he:starEach [e] X.env=[(false,eval e X.env)]) :
  RS X G0 W0 (.Raise (some (.Call (.Name x np) [e] [] cpos)) none pos) (iK c ms) :=
 ⟨PS.imp (xG cl d b hd f.h _ (λpins σ H s s' a vs I q hm h1 h2=>mk.made pins σ H s s' a C vs I q hm h1 h2) he) λ_ _ _ h=>wA n h⟩
def tS1 (K:FG) (G:Gm) (W:D->Sto->Prop) (m:SM):TS:=λE σ H=>∃ ρ g r ρ',Wf K G H σ ρ [] g/\m ρ=some (r,ρ')/\EndS K G W [] ρ' E r
theorem tS1.all (h:tS1 K G W m E σ H):tS K G W m E σ H:=by
 obtain ⟨ρ,g,r,ρ',w,e,q⟩:=h
 exact tS.mk (Le.refl K _ _) w e q
structure RS1 (X:Cx) (G0:Gm) (W0:D->Sto->Prop) (s:Stmt) (m:SM):Prop where
 h:PS X s (tS1 X.K G0 W0 m)
structure RSs1 (X:Cx) (G0:Gm) (W0:D->Sto->Prop) (s:List Stmt) (m:SM):Prop where
 h:PSs X s (tS1 X.K G0 W0 m)
theorem wX (h:RS1 X G0 W0 st m):RSs1 X G0 W0 [st] m:=⟨tH h.h⟩
end
end L3
end
section
namespace L3
open PySem L2
set_option tactic.hygienic true in
theorem qx {n:Nat} {E:XK} {ps:List It3} (hn:mask.length<=n) (ha:∀ p∈ps,Arg K H p) (hp:ps.Pairwise Apart3) (q:match o with
   | .ok p=>∀ x qs H',Behind K H H' ps qs x->x.d=p.1->x.f=p.2->qs.map (λq=>(q.d,q.f))=fs->Q x.v H'
   | .error e=>∀ qs H' cls da,BehindX K H H' ps qs->qs.map (λq=>(q.d,q.f))=fs->XA K e cls da H'->E cls da H') (l:fnM mask n m (ps.map λp=>(p.d,p.f))=some (o,fs)) :
  ∃ (G:Gm) (W:D->Sto->Prop),G.pr=prM mask/\(∀ e ρ,W e ρ->∃ e',o=.error e')/\(∀ σ cls da H',EX (XA K) K G W σ cls da H'->E cls da H')/\tS1 K G W m { nx:=λ_ H'=>Q .non H',rt:=Q } ((ps.map (·.v)).map some++List.replicate (n - (ps.map (·.v)).length) none) H:=by
 unfold fnM at l
 rw[Fa] at l
 split at l
 ·rename_i hl
  rw[<- jH] at l
  generalize y:List.zipWith cf mask ps=g at l
  have ar:g.length=ps.length:=by rw[<- y,List.length_zipWith];lia
  have T:g.map (·.v)=ps.map (·.v):=by
   refine List.ext_getElem? λi=>?_
   rw[Ff,Ff]
   cases e:ps[i]? with
   | none=>rw[List.getElem?_eq_none (by have:=List.getElem?_eq_none_iff.mp e;lia)]
   | some u =>
    obtain ⟨b,_,t⟩:=jl (mask:=mask) hl e
    rw[y] at t
    rw[t]
    show some (cf b u).v=some u.v
    rw[(bd b u).2.1]
  have up:∀ (i:Nat) (u:It3),g[i]?=some u->∃ b s,mask[i]?=some b/\ps[i]?=some s/\u=cf b s:=λi u e=>by rw[<- y] at e;exact m8 e
  have J:∀ u∈g,∃ b s,s∈ps/\u=cf b s:=λu hu=>by
   obtain ⟨i,hi,e⟩:=List.mem_iff_getElem.mp hu
   obtain ⟨b,s,_,t,A⟩:=up i u (by rw[E6 hi,e])
   exact ⟨b,s,Fc t,A⟩
  have I:∀ u∈g,Arg K H u:=λu hu=>by
   obtain ⟨b,s,h0,rfl⟩:=J u hu
   obtain ⟨e1,t,A,Y⟩:=bd b s
   refine ⟨by rw[e1,t,A];exact (ha s h0).rep,λhf=>?_⟩
   rw[e1,t,A]
   refine (ha s h0).own λz=>hf ?_
   rcases Y with f | f
   ·rw[f];exact z
   ·exact f
  have C:g.Pairwise Apart3:=by
   rw[List.pairwise_iff_getElem]
   intro i j hi hj lt
   obtain ⟨b,s,_,t,A⟩:=up i _ (E6 hi)
   obtain ⟨M,X,_,V,ax⟩:=up j _ (E6 hj)
   have ap:=ce hp (λ_ _=>Apart3.symm) (Fi lt) t V
   rw[A,ax]
   obtain ⟨_,a2,a3,U⟩:=bd b s
   obtain ⟨_,b2,b3,b4⟩:=bd M X
   exact ⟨ap.1.low a2 U b3,ap.2.low b2 b4 a3⟩
  have F:∀ (i:Nat) (u:It3),g[i]?=some u->u.f≠.z->prM mask i=true:=λi u e hf=>by
   obtain ⟨b,s,e1,t,A⟩:=up i u e
   unfold prM
   rw[e1]
   cases b with
   | false=>rfl
   | true=>rw[A] at hf;exact absurd rfl hf
  have alls:∀ c,cI g c->cI ps c:=λc ⟨u,hu,R⟩=>by
   obtain ⟨b,s,h0,rfl⟩:=J u hu
   exact ⟨s,h0,by rw[<- (bd b s).2.2.1];exact R⟩
  have lift:∀ {H':Hp} {qs:List It3},BehindX K H H' g qs->BehindX K H H' ps qs:=λ{H' qs} B=>by
   refine ⟨λb o hb hn=>B.frame b o hb λu hu hf T=>?_,Paired.ofGet ?_ λk u v eu ev=>?_,B.apart⟩
   ·obtain ⟨M,s,h0,rfl⟩:=J u hu
    obtain ⟨_,t,_,Y⟩:=bd M s
    rcases Y with f | f
    ·exact hn s h0 (by rw[<- f];exact hf) (by rw[<- t];exact T)
    ·rw[f] at hf;cases hf
   ·rw[<- ar];exact Paired.length B.back
   ·obtain ⟨b,_,t⟩:=jl (mask:=mask) hl eu
    rw[y] at t
    have b1:=Paired.at B.back t ev
    obtain ⟨a1,a2,a3,U⟩:=bd b u
    refine ⟨λhz=>?_,by rw[b1.v,a2],?_,b1.arg,λc R=>(b1.src c R).imp id (alls c),λhf M P=>?_⟩
    ·have:cf b u=u:=by
      cases b
      ·rfl
      ·obtain ⟨d,v,L,f⟩:=u
       have hz:f=.z:=hz
       subst hz;rfl
     rw[<- this]
     exact b1.z (by rw[this];exact hz)
    ·rcases b1.f with h | h
     ·rcases U with f | f
      ·exact .inl (h.trans f)
      ·exact .inr (h.trans f)
     ·exact .inr h
    ·rcases U with f | f
     ·exact b1.there (by rw[f];exact hf) M (by rw[a2];exact P)
     ·-- lowered: as it was
      obtain ⟨_,a,L',v1,v2,_⟩:=(ha u (Fc eu)).own (by rw[hf];intro q;cases q)
      rw[P] at v1;cases v1
      have O:=b1.z f
      have r:=b1.arg.rep
      rw[O,a1,a2,a3] at r
      exact (r.inH M (by rw[v2];exact EW)).ex
  have ae:g.length<=n:=by lia
  have wf:=pq (K:=K) (H:=H) (n:=n) (pr:=prM mask) ae I C F
  rw[T] at wf
  have h0:∀ (i:Nat) (u:It3),g[i]?=some u->((ps.map (·.v)).map some++List.replicate (n - (ps.map (·.v)).length) none)[i]?=some (some u.v):=λi u e=>jD (by rw[<- T];exact tU e)
  unfold fn0 at l
  cases e:m (entry n (g.map λp=>(p.d,p.f))) with
  | none=>rw[e] at l;exact nsE l
  | some rr =>
   obtain ⟨r,ρ2⟩:=rr
   rw[e] at l
   refine ⟨gOf H (prM mask) ((ps.map (·.v)).map some++List.replicate (n - (ps.map (·.v)).length) none) g,λS ρ=>r=.error S/\ρ=ρ2,rfl,λS ρ hw=>?_,λσ' cls da H' hx=>?_,entry n (g.map λp=>(p.d,p.f)),_,r,ρ2,wf,e,?_⟩
   ·obtain ⟨rfl,_⟩:=hw
    dsimp only at l
    cases w:dC ρ2 0 (g.map λp=>(p.d,p.f)) with
    | none=>rw[w] at l;exact nsE l
    | some fs'=>rw[w] at l;cases l;exact ⟨S,rfl⟩
   ·obtain ⟨S,ρ',T',g',w',xa,rfl,rfl⟩:=hx
    dsimp only at l
    cases w:dC ρ' 0 (g.map λp=>(p.d,p.f)) with
    | none=>rw[w] at l;exact nsE l
    | some fs' =>
     rw[w] at l
     cases l
     obtain ⟨qs,Z,O,_⟩:=kh (n:=n) I C F h0 w' w
     exact q qs H' cls da (lift Z) O xa
   have fin:∀ {x:It3} {σ':St} {H':Hp} {g':Nat->Option It3} {d:D} {f:Fl},Wf K (gOf H (prM mask) ((ps.map (·.v)).map some++List.replicate (n - (ps.map (·.v)).length) none) g) H' σ' ρ2 [x] g'->x.d=d->x.f=f ->
     ((dC ρ2 0 (g.map λp=>(p.d,p.f))).map λfs=>((.ok (d,f),fs):Except D (D×Fl)×List (D×Fl)))=some (o,fs)->Q x.v H':=λ{x σ' H' g' d f} N xd xf l=>by
    cases w:dC ρ2 0 (g.map λp=>(p.d,p.f)) with
    | none=>rw[w] at l;exact nsE l
    | some fs' =>
     rw[w] at l
     cases l
     obtain ⟨qs,B,O⟩:=lZ (n:=n) I C F h0 N w
     have Z:=lift B.toBehindX
     exact q x qs H' ⟨Z,B.rep,B.own,λc R=>(B.src c R).imp id (alls c),B.apx⟩ xd xf O
   cases r with
   | error S=>exact ⟨rfl,rfl⟩
   | ok fl =>
    cases fl with
    | nx =>
     intro σ' H' g' N
     obtain ⟨Ts,g2,w2,a2⟩:=N.const .non
     obtain ⟨x,rfl,x1,x2,x3⟩:=a2.val_inv
     have:=fin w2 x1 x2 l
     rw[x3] at this
     exact this
    | br=>exact nsE l
    | ct=>exact nsE l
    | rt d f =>
     intro x σ' H' g' N x1 x2
     exact fin N x1 x2 l
 ·exact nsE l
theorem oV {n:Nat} {ps:List It3} (h:fnM mask n m (ps.map λp=>(p.d,p.f))=some r):ps.length=mask.length:=by
 unfold fnM at h
 rw[Fa] at h
 rcases Decidable.em (ps.length=mask.length) with q | q
 ·exact q
 ·rw[if_neg q] at h;exact nsE h
section
variable {P:Program} {w:World} {K:FG} {mg:Str->Option Value} {base:Heap} {x:Str} {st:Stmt} {k:Nat} {N ps:List Str} {mask:List Bool} {m:SM} {nn:Nat}
theorem oG (S:FnScope N ps (ad st)) (a:mask.length=ps.length) (b:N.length=nn):mask.length<=nn:=by
 rw[a,<- b]
 have:=congrArg List.length S.pre
 rw[Fv] at this
 lia
theorem Br (D:Def K mg x st) (S:FnScope N ps (ad st)) (c:mask.length=ps.length) (g:N.length=nn) (p:∀ (kV doc pm:Value) (an:Option Addr) (b ct:Value) (us:List Value),us.length=ps.length->bindArgs (PySem.W.fnOf x x (aH st) (aw st) (ad st) .none kV doc pm an b ct) ⟨us,[]⟩=pure (ps.zip us))
  (body:∀ (b:Value) (A:Around) (outer:List Env) (s:Shared) (H:Hp) (E:XK) (f:Addr) (G:Gm) (W:L3.D->Sto->Prop),Room k (A.deeper (PyProof.Rows.envOfC x (ad st) s.heap.objs.size f b))->G.pr=prM mask->Pas (dn (CXe P w) P w K mg base N x (ad st) f b A outer s H E) G W->Mak (dn (CXe P w) P w K mg base N x (ad st) f b A outer s H E) G W->RSs (dn (CXe P w) P w K mg base N x (ad st) f b A outer s H E) G W (aw st) m) :
  BK P w K mg base x (k+1) ps (fnM mask nn m):=by
 refine D.calleeX p λf fd F=>F.okX S (λvs H Q E h=>?_) λb A outer s H vs Q E y h=>?_
 ·obtain ⟨i,o,fs,rfl,_,_,l,_⟩:=h
  rw[Fa,oV l,c]
 ·obtain ⟨i,o,fs,rfl,r,J,l,q⟩:=h
  obtain ⟨G,W,n,_,j,B⟩:=qx (E:=E) (oG S c g) r J q l
  subst g
  refine ⟨_,(body b A outer s H E f G W y n ⟨λpins σ H1 s1 e s' I hf=>Cm I hf λcls da H'=>j σ cls da H'⟩ ⟨λpins σ H1 s1 s' a C vs I he hm h1 h2=>zQ I hm h1 h2 (j σ _ none _ he),λpins σ H1 s1 a t d C I he z v u=>wr I z rfl rfl rfl rfl v u (j σ _ _ _ he)⟩).h,B.all⟩
theorem Bt (D:Def K mg x st) (S:FnScope N ps (ad st)) (b:mask.length=ps.length) (c:N.length=nn) (o:∀ (kV doc pm:Value) (an:Option Addr) (a ct:Value) (us:List Value),us.length=ps.length->bindArgs (PySem.W.fnOf x x (aH st) (aw st) (ad st) .none kV doc pm an a ct) ⟨us,[]⟩=pure (ps.zip us))
  (body:∀ (a:Value) (A:Around) (outer:List Env) (s:Shared) (H:Hp) (E:XK) (f:Addr) (G:Gm),Room k (A.deeper (PyProof.Rows.envOfC x (ad st) s.heap.objs.size f a))->G.pr=prM mask->RSs1 (dn CX0 P w K mg base N x (ad st) f a A outer s H E).nox G noX (aw st) m) :
  aY P w K mg base x (k+1) ps (fnM mask nn m):=by
 refine D.callee o λf fd F=>F.ok S (λvs H Q E h=>?_) λa A outer s H vs Q E v h=>?_
 ·obtain ⟨d,p,fs,rfl,_,_,i,_⟩:=h
  rw[Fa,oV i,b]
 ·obtain ⟨d,p,fs,rfl,u,y,i,q⟩:=h
  obtain ⟨G,W,n,l,B,ρ,g,r,ρ',t,e,j⟩:=qx (E:=E0) (oG S b c) u y q i
  subst c
  refine ⟨_,(body a A outer s H E f G v n).h,ρ,g,r,ρ',t,e,?_⟩
  cases r with
  | error er=>obtain ⟨_,z⟩:=l _ _ j;cases z
  | ok fl=>cases fl <;> exact j
theorem Bs (D:Def K mg x st) (S:FnScope N ps (ad st)) (b:mask.length=ps.length) (c:N.length=nn) (i:∀ (kV doc pm:Value) (an:Option Addr) (a ct:Value) (us:List Value),us.length=ps.length->bindArgs (PySem.W.fnOf x x (aH st) (aw st) (ad st) .none kV doc pm an a ct) ⟨us,[]⟩=pure (ps.zip us))
  (body:∀ (a:Value) (A:Around) (outer:List Env) (s:Shared) (H:Hp) (f:Addr) (G:Gm),RoomN k (A.deeper (PyProof.Rows.envOfC x (ad st) s.heap.objs.size f a))->Hd ((dn CX0 P w K mg base N x (ad st) f a A outer s H E0).loud.wish λ_ _=>False)->G.pr=prM mask->RSs ((dn CX0 P w K mg base N x (ad st) f a A outer s H E0).loud.wish λ_ _=>False) G noX (aw st) m) :
  BL P w K mg base x (k+1) ps (fnM mask nn m):=by
 refine D.calleeN i λf fd F=>F.okN S (λvs H Q E h=>?_) λa A outer s H vs Q j d h=>?_
 ·obtain ⟨e,p,fs,rfl,_,_,l,_⟩:=h
  rw[Fa,oV l,b]
 ·obtain ⟨G,g,n⟩:=oU (oG S b c) h
  subst c
  exact ⟨_,(body a A outer s H f G j d g).h,n⟩
end
end L3
end
section
namespace L3
open PySem L2
abbrev Cx.tried (X:Cx) (E:Value->Shared->Prop) (pn:List (Addr×Obj)):Cx:={ X with xe:=E,pn:=pn }
section
variable {X:Cx} {pins pins' pn:List (Addr×Obj)} {σ:St} {H H':Hp} {s:Shared} {E:Value->Shared->Prop}
theorem vE (I:Inv X pins σ H s) (E:Value->Shared->Prop):Inv (Cx.tried X E (X.pn++pins)) [] σ H s :=
 ⟨⟨I.ok.mod,I.ok.kind,I.ok.glob,I.ok.blt,I.ok.above,I.ok.inj,I.ok.has,I.ok.cab,I.ok.hd,I.ok.frames,I.ok.stk,I.ok.exf,I.ok.bs,I.ok.bsz,I.ok.noex,I.ok.exfs,I.ok.funs,I.ok.frf⟩,I.os,I.bare,I.base,I.loc,I.cell,I.free,I.freeC,(λp a=>I.pin p (by rw[List.append_nil] at a;exact a)),I.hok,I.len⟩
theorem gl (I:Inv (Cx.tried X E (X.pn++pins)) pins' σ H s):Inv X pins σ H s :=
 ⟨⟨I.ok.mod,I.ok.kind,I.ok.glob,I.ok.blt,I.ok.above,I.ok.inj,I.ok.has,I.ok.cab,I.ok.hd,I.ok.frames,I.ok.stk,I.ok.exf,I.ok.bs,I.ok.bsz,I.ok.noex,I.ok.exfs,I.ok.funs,I.ok.frf⟩,I.os,I.bare,I.base,I.loc,I.cell,I.free,I.freeC,(λp a=>I.pin p (E3 _ a)),I.hok,I.len⟩
end
theorem Eo {X:Cx} {a:Addr} {ob:Obj} {cls:Value} (h:Hd (X.caught a ob cls)):PySem.W.notCls ob=true:=by
 obtain ⟨c,b,u,h1,h2,vs,h3,_⟩:=h
 cases (show some (Value.ref a)=some (Value.ref c) from h1)
 cases (show upd X.H₀ a (dP ob a cls) a=some (.frz b u) from h2).symm.trans aA
 unfold PySem.W.notCls
 rw[h3]
def n5 (cs:List String) (i:Nat) (mb mh:SM):SM:=λρ=>match mb ρ with
 | some (.error (.exc c fs),ρ1)=>if c∈cs then (match mh (ρ1.set i (some (.exc c fs,.z))) with
  | some (.ok (.rt d f),ρ2)=>some (.ok (.rt d f),ρ2)
  | _=>none) else none
 | some (.ok (.rt d f),ρ1)=>some (.ok (.rt d f),ρ1)
 | some (.ok .nx,ρ1)=>some (.ok .nx,ρ1)
 | _=>none
section
variable {X:Cx} {G0:Gm} {W0:D->Sto->Prop} {cs:List String} {i:Nat} {mb mh:SM} {cx n:Str} {CB:Addr} {cp hpos pos:Pos} {b0:Stmt} {body suite:List Stmt}
set_option tactic.hygienic true in
theorem C0 (T:X.stack=X.env::X.outer) (O:X.env.frame=some X.env.locals) (hex:X.ex=[]) (Z:X.N.Nodup) (Y:Gl X cx) (hd:(cx == ("__debug__":Str))=false) (hm:X.mg cx=some (.ref CB))
  (Q:∀ c∈cs,∀ C,XName X.K c C->PySem.W.exmOne X.K (.ref C) (.ref CB)=some true) (hi:X.N[i]?=some n) (hl:X.env.scope.names.lookup n=some .local\/(X.env.scope.names.lookup n=some .cell/\X.fn n=true)) (hp:G0.pr i=false)
  (hb:∀ (E:Value->Shared->Prop) (pn:List (Addr×Obj)) (W:D->Sto->Prop),Pas (Cx.tried X E pn) G0 W->RSs (Cx.tried X E pn) G0 W body mb) (hh:∀ a ob cls,Hd (X.caught a ob cls)->RSs (X.caught a ob cls) G0 noX (b0::suite) mh) :
  RS1 X G0 W0 (.Try body [.ExceptHandler (some (.Name cx cp)) (some n) (b0::suite) hpos] [] [] pos) (n5 cs i mb mh):=by
 refine ⟨λpins s σ H D I h=>?_⟩
 obtain ⟨ρ,g,r,ρ',w,e,q⟩:=h
 refine wpAny_Try_except ?_
 have S:i < X.N.length:=(Fb.mp hi).1
 have M:Pas (Cx.tried X (λe s₁=>wpAny (model X.prog X.w) X.A (noteFrame e X.env) (λ_ s₂=>wpAny (model X.prog X.w) X.A (setFlight e none) (λ_ s₃=>wpAny (model X.prog X.w) X.A (handleBy e X.env [.ExceptHandler (some (.Name cx cp)) (some n) (b0::suite) hpos]) (SP X pins D) X.xe s₃) X.xe s₂) X.xe s₁) (X.pn++pins)) G0 (λp ρ1=>mb ρ=some (.error p,ρ1)):=by
  refine ⟨λpins' σ' H1 s1 e' s' V hf=>?_⟩
  obtain ⟨a,cls,da,H2,rfl,F,p,ρ1,T',g',U,⟨c,C,fs,rfl,rfl,nm,R⟩,G⟩:=hf
  have J:=gl V
  unfold n5 at e
  rw[G] at e
  dsimp only at e
  rcases Decidable.em (c∈cs) with y | y
  ·rw[if_pos y] at e
   cases P:mh (ρ1.set i (some (.exc c fs,.z))) with
   | none=>rw[P] at e;exact nsE e
   | some z =>
    obtain ⟨o,ρ2⟩:=z
    rw[P] at e
    cases o with
    | error _=>exact nsE e
    | ok fl =>
     cases fl with
     | nx=>exact nsE e
     | br=>exact nsE e
     | ct=>exact nsE e
     | rt d f =>
      cases e
      have hρ:i < ρ1.length:=by rw[<- U.len,V.len];exact S
      have nw:∀ ob,ob.dict=da->Hd (X.caught a ob (.ref C))->New X.K H2 (upd H2 a (dP ob a (.ref C))) (λ_=>False) ⟨.exc c fs,.ref a,[],.z⟩:=λob b k=>⟨bc F.free,.excP nm aA (b ▸ R.same (bc F.free)) (Eo k),λ_ h=>(by cases h),λh=>absurd rfl h⟩
      have w2:=λob (b:ob.dict=da) (k:Hd (X.caught a ob (.ref C)))=>(U.push (nw ob b k) λ_ h=>h.elim).store (f:=.z) hρ hp (.inr rfl) (by intro h;cases h)
      refine rW (X:=X) (I:=J) F T O hex Z Y hd hm (Q c y C nm) hi hl λs5 ob b k J5=>?_
      refine wpAny_mono ((hh a ob _ k).h pins s5 _ _ { nx:=λ_ _=>False,rt:=D.rt } J5 (tS.mk (Le.refl _ _ _) (w2 ob b k) P λx σ3 H3 g3 w3 xd xf=>q x σ3 H3 g3 (w3.sub (List.Sublist.cons_cons x (List.nil_sublist _))) xd xf)) (λf s6 B=>?_) λ_ _ z=>z.elim
      cases f with
      | ret u=>obtain ⟨v,σ6,t,l,L,m⟩:=B;exact ⟨v,u,σ6,t,rfl,l,L,m⟩
      | next=>obtain ⟨_,_,_,z⟩:=B;exact z.elim
      | brk=>obtain ⟨_,_,_,z⟩:=B;exact z.elim
      | cont=>obtain ⟨_,_,_,z⟩:=B;exact z.elim
  ·rw[if_neg y] at e;exact nsE e
 have j:∀ (o:Except L3.D Flw) (ρ1:Sto),mb ρ=some (o,ρ1)->EndS X.K G0 (λp ρ1=>mb ρ=some (.error p,ρ1)) [] ρ1 { nx:=D.nx,rt:=D.rt } o:=λo ρ1 em=>by
  unfold n5 at e
  rw[em] at e
  cases o with
  | error p=>exact em
  | ok fl =>
   cases fl with
   | nx=>cases e;exact q
   | br=>exact nsE e
   | ct=>exact nsE e
   | rt d f=>cases e;exact q
 cases em:mb ρ with
 | none=>unfold n5 at e;rw[em] at e;exact nsE e
 | some z =>
  obtain ⟨o,ρ1⟩:=z
  refine wpAny_mono ((hb _ _ _ M).h [] s σ H { nx:=D.nx,rt:=D.rt } (vE I _) (tS.mk (Le.refl _ _ _) w em (j o ρ1 em))) (λf s1 h1=>?_) λ_ _ z=>z
  cases f with
  | ret u=>obtain ⟨v,σ6,t,l,L,m⟩:=h1;exact ⟨v,σ6,t,gl l,L,m⟩
  | next=>obtain ⟨σ6,t,l,m⟩:=h1;refine wpAny_of_eq (show execs [] X.env=pure .next from by simp only[execs]) ?_;exact ⟨σ6,t,gl l,m⟩
  | brk=>obtain ⟨_,_,_,z⟩:=h1;exact z.elim
  | cont=>obtain ⟨_,_,_,z⟩:=h1;exact z.elim
end
theorem wc (i:∀ u,RelV t u->u=cv):bN X (.builtin "isinstance") (λxs H Q=>∃ a c C b ob,xs=[.ref a,t]/\H a=some (dP ob a (.ref C))/\XName X.K c C/\PySem.W.kitOne X.K (.ref C) cv=some b/\Q (.bl b) H):=by
 intro pins s σ H xs us Q I r h
 obtain ⟨a,c,C,b,ob,rfl,j,nm,g,q⟩:=h
 obtain ⟨u,v,rfl,d,e⟩:=jY r
 cases (show u=Value.ref a from d)
 cases i v e
 have f:=(I.hok a _ j).2.1
 exact PySem.W.kia_one (yz (x:=a) nm.ex) I.kIn ⟨f⟩ g (by intro z;cases z) λtk=>⟨.bl b,H,I.tok _,rfl,q⟩
def jn (cs:List (String×Bool)):D->Option (D×Fl)
 | .exc c _=>(cs.lookup c).map λb=>(.bl b,.z)
 | _=>none
section
variable {X:Cx} {G0:Gm} {W0:D->Sto->Prop}
theorem tj (i:∀ u,RelV t u->u=cv) (hf:∀ c b,cs.lookup c=some b->∀ C,XName X.K c C->PySem.W.kitOne X.K (.ref C) cv=some b) (j:Gl X "isinstance") (hm:X.mg "isinstance"=none) (n:PE X (.Name tn pT) (tC t)) (k:RE X G0 W0 a ma) (d:starEach [a,.Name tn pT] X.env=(false,eval a X.env)::starEach [.Name tn pT] X.env) (g:starEach [.Name tn pT] X.env=(false,eval (.Name tn pT) X.env)::starEach [] X.env) (f:(backTo pos (starEach [.Name tn pT] X.env)).any (·.1)=false):RE X G0 W0 (.Call (.Name "isinstance" p) [a,.Name tn pT] [] pos) (mUn (jn cs) ma) :=
 ⟨PE.imp (je (wc i) j hm jy (fj k.h (fj n lx g) d) (by decide) (by decide) d f) λσ H Q h=>by
  have h:=sN (r:=λx H Q=>∃ a c C b ob,x=.ref a/\H a=some (dP ob a (.ref C))/\XName X.K c C/\PySem.W.kitOne X.K (.ref C) cv=some b/\Q (.bl b) H) (λa H Q p ra e q=>by
   obtain ⟨da,v,s,w⟩:=a
   have ra:=ra.rep
   dsimp only at ra
   cases da with
   | exc c fs =>
    obtain ⟨rfl,l,C,ob,rfl,nm,m,_,_⟩:=ra.view
    obtain ⟨b,h1,h2⟩:=E2.mp (show (cs.lookup c).map (λb=>((.bl b,.z):D×Fl))=some p from e)
    subst h2
    exact ⟨l,c,C,b,ob,rfl,m,nm,hf c b h1 C nm,q ⟨.bl b,.bl b,[],.z⟩ H (cF (.bl _)) rfl rfl⟩
   | _=>exact nsE e) h
  refine sO h λx H1 ⟨a,c,C,b,ob,o,h1,h2,h3,q⟩=>?_
  exact ⟨a,c,C,b,ob,by rw[o],h1,h2,h3,q⟩⟩
end
def cntBQ:D->D->Option (D×Fl)
 | .lst xs,.bl k=>(fM xs).map λbs=>(.int (bs.count k:Nat),.z)
 | _,_=>none
abbrev Cj:=c2 cntBQ
theorem vV:cH K (λxs H Q=>∃ x vs,xs=x::vs/\∃ (a:Addr) (bs:List Bool) (k:Bool),x=.ref a/\vs=[.bl k]/\SqL K H a (bs.map V.bl)/\Q (.int (bs.count k:Nat)) H) Cj:=λys H Q p ra e q=>by
 obtain ⟨y,z,rfl,b⟩:=lY e
 clear e
 have d:=(ra y EW).rep
 have c:=(ra z (EY _ EW)).rep
 obtain ⟨da,r,s,o⟩:=y
 obtain ⟨db,j,m,n⟩:=z
 dsimp only at d c b
 cases da with
 | lst xs =>
  cases db with
  | bl k =>
   obtain ⟨f,vs,l,rfl,rfl,i,rs⟩:=d.view
   obtain ⟨rfl,rfl⟩:=c.view
   obtain ⟨bs,h1,h2⟩:=E2.mp (show (fM xs).map (λbs=>((.int (bs.count k:Nat),.z):D×Fl))=some p from b)
   subst h2
   have g:=jx h1
   subst g
   have h:=rs.bls
   subst h
   exact ⟨_,_,rfl,f,bs,k,rfl,rfl,SqL.of i,q ⟨_,_,[],.z⟩ H (cF (.int _)) rfl rfl⟩
  | _=>exact nsE b
 | _=>exact nsE b
theorem ph:bootBuiltins "ValueError"=some (.type "ValueError"):=by decide +kernel
def IsX (K:FG) (a:Value) (cs:List (String×Bool)):Prop:=∀ c b,cs.lookup c=some b->∀ C,XName K c C->PySem.W.kitOne K (.ref C) a=some b
def ExX (K:FG) (CB:Addr) (cs:List String):Prop:=∀ c∈cs,∀ C,XName K c C->PySem.W.exmOne K (.ref C) (.ref CB)=some true
theorem IsX.nil:IsX K cv []:=λ_ _ h=>nomatch h
theorem IsX.cons {K:FG} {a:Value} {r:String} {C:Addr} {b:Bool} {cs:List (String×Bool)} (n:XName K r C) (h:PySem.W.kitOne K (.ref C) a=some b) (t:IsX K a cs):IsX K a ((r,b)::cs):=λc i e g f=>by
 rw[List.lookup_cons] at e
 cases d:c == r with
 | true =>
  rw[d] at e
  cases e
  cases beq_iff_eq.mp d
  rw[f.inj n];exact h
 | false=>rw[d] at e;exact t c i e g f
theorem ExX.nil:ExX K CB []:=λ_ h=>nomatch h
theorem ExX.cons {K:FG} {CB:Addr} {r:String} {C:Addr} {cs:List String} (n:XName K r C) (h:PySem.W.exmOne K (.ref C) (.ref CB)=some true) (t:ExX K CB cs):ExX K CB (r::cs):=λc e b a=>by
 rcases E5.mp e with e | e
 ·cases e;rw[a.inj n];exact h
 ·exact t c e b a
end L3
namespace L2
theorem RoomN.units {k:Nat} (r:RoomN k A):A.units+64 < PySem.cLine:=by have:=r.un;omega
theorem RoomN.hu {k:Nat} (r:RoomN k A):A.units+1 < PySem.cLine:=by have:=r.un;omega
end L2
end
section
namespace L3
open PySem L2
end L3
end
section
namespace L3
open PySem L2
mutual
def imm:D->Bool
 | .non=>true
 | .bl _=>true
 | .int _=>true
 | .str _=>true
 | .tup xs=>Bj xs
 | _=>false
def Bj:List D->Bool
 | []=>true
 | d::ds=>imm d && Bj ds
end
section
variable {X:Cx} {G G0:Gm} {W W0:D->Sto->Prop} {K:FG} {H H':Hp} {σ:St} {ρ ρ':Sto} {d:D} {v:V} {L:List Addr}
set_option tactic.hygienic true in
theorem Rep.imm (r:Rep K H d v L):imm d=true->L=[]:=by
 refine Rep.rec (motive_1:=λd _ L _=>L3.imm d=true->L=[]) (motive_2:=λds _ L _=>Bj ds=true->L=[]) ?_ ?_ ?_ ?_ ?_ ?_ ?_ ?_ ?_ ?_ ?_ ?_ ?_ r
 ·intro _;rfl
 ·intro _ _;rfl
 ·intro _ _;rfl
 ·intro _ _;rfl
 ·intro xs a vs L h _ f e;unfold L3.imm at e;exact f e
 ·intros;rename_i e;unfold L3.imm at e;cases e
 ·intros;rename_i e;unfold L3.imm at e;cases e
 ·intros;rename_i e;unfold L3.imm at e;cases e
 ·intros;rename_i e;unfold L3.imm at e;cases e
 ·intros;rfl
 ·intros;rfl
 ·intro _;rfl
 ·intro d v L ds vs L' _ _ c b e
  unfold Bj at e
  obtain ⟨h1,h2⟩:=Bool.and_eq_true_iff.mp e
  rw[c h1,b h2];rfl
theorem Rep.handed {u:Value} (r:Rep K H d v L) (h:RelV v u):PySem.W.handedIn u=true:=by
 cases r <;> first | (cases (show u=_ from h);rfl) | (obtain ⟨_,rfl⟩:=h;rfl)
def ff (c n:String) (ms:M3 (List R3)):SM:=af ms λrs=>match rs with
 | [r]=>af (der r) λd=>λρ=>if imm d=true then some (.error (.exc c [(n,d)]),ρ) else none
 | _=>λ_=>none
theorem Ars.one {r:R3} {vs:List V} {Ts:List It3} (a:Ars σ [r] vs Ts):∃ v Us,vs=[v]/\Ts=[]++Us/\Ar σ r v Us:=by
 cases a with
 | cons x t=>cases t;exact ⟨_,_,rfl,rfl,x⟩
theorem uL {c n:String} {C:Addr} {E:Ends} {ms:M3 (List R3)} (nm:XName K c C) (h:tS K G0 W0 (ff c n ms) E σ H):sM (Str.ofString n) (λσ H1 d=>EX (XA K) K G0 W0 σ (.ref C) (some d) H1) (tA K G0 W0 ms) E σ H:=by
 refine h.use λG W le ρ T g r ρ' w e q=>?_
 refine tA.seq le w e q.err λrs ρ1 e1 vs H1 Ts g1 b a1=>?_
 rcases rs with _|⟨r,_|⟨_,_⟩⟩
 ·exact nsE e1
 ·obtain ⟨v,Us,rfl,rfl,ar⟩:=a1.one
  dsimp only at e1
  obtain ⟨d,d1,a⟩:=aM e1
  obtain ⟨f,j,f1,f2⟩:=ar.item b (λx p=>E3 _ (by simpa using p)) d1
  subst f1 f2
  rcases Decidable.em (imm f.d=true) with hi | hi
  ·rw[if_pos hi] at a
   cases a
   have ra:=(b.itm j).arg.rep
   rw[ra.imm hi] at ra
   refine ⟨_,rfl,λda od u s i hl=>?_⟩
   have sm:Same H1 (upd H1 da (dP od da od.cls)):=bc s
   have k:=b.push (x:=⟨.non,.non,[],.z⟩) (H':=upd H1 da (dP od da od.cls)) (Ks:=λ_=>False) ⟨sm,.non,λ_ h=>(by cases h),λh=>absurd rfl h⟩ λ_ h=>h.elim
   obtain ⟨ρ5,o,m,l,t⟩:=le.ex _ σ _ _ _ _ k q
   exact ⟨_,ρ5,o,m,l,⟨c,C,[(n,f.d)],rfl,rfl,nm,_,da,od,u,rfl,aA,hl,i,ra.same sm⟩,t⟩
  ·rw[if_neg hi] at a;exact nsE a
 ·exact nsE e1
theorem u5 {x:Str} {c n:String} {C:Addr} {np cpos pos:Pos} {e:Expr} {ms:M3 (List R3)} {k:Nat} (nm:XName X.K c C) (cl:ICls X.K X.mg x C (Str.ofString n)) (mk:Mak X G0 W0) (g:Room k X.A) (hex:X.ex=[]) (f:X.calm=true) (b:Gl X x) (hd:(x == ("__debug__":Str))=false) (j:RA X G0 W0 [e] ms) (he:starEach [e] X.env=[(false,eval e X.env)]) :
  RS X G0 W0 (.Raise (some (.Call (.Name x np) [e] [] cpos)) none pos) (ff c n ms) :=
 ⟨PS.imp (u6 cl f g b hd j.h _ (λpins σ H s a t d I q i h1 h2=>mk.madeV pins σ H s a t d C I q i h1 h2) he hex) λ_ _ _ h=>uL nm h⟩
def pk (cs:List String) (n:String):D->Option (D×Fl)
 | .exc c [(m,x)]=>if c∈cs/\m=n then some (x,.z) else none
 | _=>none
def AtX (K:FG) (n:String) (cs:List String):Prop:=∀ c∈cs,∀ C,XName K c C->PySem.W.hasDictIn K C=true/\PySem.W.findIn K (.ref C) (Str.ofString n)=some none
def tXF (K:FG) (n:String) (ta:TE):TE:=tUn (λx H Q=>∃ a C c ob d od u v,x=.ref a/\H a=some (dP ob a (.ref C))/\XName K c C/\PySem.W.hasDictIn K C=true/\PySem.W.findIn K (.ref C) (Str.ofString n)=some none/\ob.dict=some d/\H d=some (dP od d od.cls)/\PySem.W.lookIn (Str.ofString n) od=some (some u)/\RelV v u/\PySem.W.notCls ob=true/\PySem.W.handedIn u=true/\Q v H) ta
theorem xq {cs:List String} {n:String} {a:Expr} {pos:Pos} {ma:EM} (hf:AtX X.K n cs) (A:RE X G0 W0 a ma) (w:attributeBase a (Str.ofString n) X.env (eval a X.env)=eval a X.env):RE X G0 W0 (.Attribute a (Str.ofString n) pos) (mUn (pk cs n) ma):=by
 have G:PE X (.Attribute a (Str.ofString n) pos) (tXF X.K n (tE X.K G0 W0 ma)):=by
  intro pins s σ H Q I h
  refine BG w (thn (A.h pins s σ H _ I h) λM s1 h1=>?_)
  obtain ⟨x,H1,g,J,b,C,c,ob,d,od,u,v,rfl,e1,nm,L,F,r,D,E,t,B,y,q⟩:=h1
  obtain rfl:M=Value.ref b:=J
  have j:=(g.hok b _ e1).1
  have o:=(g.hok d _ D).1
  obtain ⟨O,i,l⟩:=(g.hok b _ e1).2.1
  rw[j] at i
  cases i
  have ins:PySem.W.InstAt s1.heap b ob C (some od):=⟨j,l,B,by rw[r];exact o⟩
  exact zx nm.ex g.kIn ins (PySem.W.findObj_own L F rfl E) y ⟨v,H1,g.tok _,t,q⟩
 exact ⟨PE.imp G λσ H Q h=>sN (λa H Q p ra e q=>by
  obtain ⟨da,P,R,S⟩:=a
  have ra:=ra.rep
  dsimp only at ra
  cases da with
  | exc c fs =>
   obtain ⟨rfl,b,C,ob,rfl,nm,j,k,N⟩:=ra.view
   match fs,k with
   | [(m,x)],⟨v,d,od,u,h1,h2,h3,h4,h5⟩ =>
    have e:(if c∈cs/\m=n then some (x,.z) else none)=some p:=e
    rcases Decidable.em (c∈cs/\m=n) with f | f
    ·rw[if_pos f] at e
     cases e
     obtain ⟨f,rfl⟩:=f
     obtain ⟨f1,f2⟩:=hf c f C nm
     exact ⟨b,C,c,ob,d,od,u,v,rfl,j,nm,f1,f2,h1,h2,h3,h4,N (by simp),h5.handed h4,q ⟨x,v,[],.z⟩ H (cF h5) rfl rfl⟩
    ·rw[if_neg f] at e;exact nsE e
  | _=>exact nsE e) h⟩
end
end L3
end
section
namespace L3
open PySem L2
section
variable {K:FG} {h:Heap} {mg:Str->Option Value}
set_option tactic.hygienic true in
theorem lg (e:ir K n=true):PySem.W.nsIn K mainGlobals n=some (some (.ref (ah K n))):=by
 unfold ir at e
 split at e
 ·rename_i a b;unfold ah;rw[b]
 ·cases e
theorem dJ {l:List Str} (X:K.In h) (G:h.Ns mainGlobals mg) (e:l.map (ir K)=l.map λ_=>true) (i:Nat) (hi:l[i]?=some n):mg n=some (.ref (ah K n)):=PySem.W.mg_of X G (lg (lz e i hi))
theorem c5 {α:Type} {l r:List α} (e:l=r) (i:Nat) {a b:α} (h:l[i]?=some a) (k:r[i]?=some b):a=b:=by rw[e,k] at h;exact (FL h).symm
theorem EB {l:List String} (X:K.In h) (G:h.Ns mainGlobals mg) (d:jU K=iw) (e:l.map (λr:String=>nG K r)=l.map λ_:String=>oZ) (i:Nat) (hi:l[i]?=some r):XName K r (ah K r)/\ECls K mg r (ah K r):=by
 have e:=lz e i hi
 unfold nG oZ at e
 unfold jU iw at d
 simp only[Prod.mk.injEq] at e d
 obtain ⟨a,e1,k,f,g,b,c,j⟩:=e
 exact ⟨⟨lg a,⟨e1,k,f,g,d.1,d.2,b,c⟩⟩,⟨PySem.W.mg_of X G (lg a),j⟩⟩
end
section
variable {K:FG} {h:Heap} {mg:Str->Option Value}
set_option tactic.hygienic true in
theorem Ek {r n:String} {q:Str} {st:Stmt} {j p2 o l:Pos} (X:K.In h) (G:h.Ns mainGlobals mg) (d:jU K=iw) (e:t7 K r n=oS q st) (S:FnScope [("self":Str),n] [("self":Str),n] (ad st)) (u:(ad st).names.lookup ("self":Str)=some .local) (H:(ad st).names.lookup (n:Str)=some .local)
  (y:aw st=[.Assign [.Attribute (.Name "self" j) n p2] (.Name n o) l]) (hi:∀ (kV doc pm:Value) (an:Option Addr) (i ct x v:Value),bindArgs (PySem.W.fnOf "__init__" q (aH st) (aw st) (ad st) .none kV doc pm an i ct) ⟨[x,v],[]⟩=pure [(("self":Str),x),((n:Str),v)])
  (p:(n:Str)≠("self":Str)) (s:((n:Str) == ("__debug__":Str))=false):XName K r (ah K r)/\ICls K mg r (ah K r) n/\AtX K n [r]:=by
 unfold t7 oS nG at e
 unfold jU iw at d
 simp only[Prod.mk.injEq] at e d
 obtain ⟨⟨m,e1,F,E,t,B,D,_⟩,w,A,k,b,a⟩:=e
 have N:XName K r (ah K r):=⟨lg m,⟨e1,F,E,t,d.1,d.2,B,D⟩⟩
 refine ⟨N,⟨PySem.W.mg_of X G (lg m),w,⟨A,k,b⟩,?_,p,s⟩,λc g C z=>?_⟩
 ·unfold B8 at a
  split at a
  ·rename_i f hf
   split at a
   ·rename_i I od fd sl hl
    obtain ⟨name,qual,params,body,scope,globals,closure,defaults,kw,doc,pm,an,cd,ct,bi⟩:=fd
    simp only[Option.some.injEq,Prod.mk.injEq] at a
    obtain ⟨rfl,rfl,rfl,rfl,rfl,rfl,rfl,rfl,rfl,rfl,g⟩:=a
    exact ⟨f,st,j,p2,o,l,od,an,sl,_,kw,doc,pm,cd,ct,hf,hl,g,S,u,H,y,hi kw doc pm an cd ct⟩
   ·cases a
  ·cases a
 ·cases Fz.mp g
  rw[z.inj N]
  refine ⟨?_,b⟩
  obtain ⟨cd,h1,h2⟩:=PySem.W.any_some k
  unfold PySem.W.hasDictIn
  rw[h1]
  exact (Bool.and_eq_true_iff.mp h2).2
end
end L3
end
section
namespace L3
open PySem L2
end L3
end
section
namespace L3
open PySem L2
section
variable {K:FG} {G G0:Gm} {W W0:D->Sto->Prop} {H H':Hp}
def ntD (n:List Int):D:=.tup (n.map D.int)
theorem lJ:∀ n:List Int,bR (n.map D.int)=some n
 | []=>rfl
 | a::n=>by
  show (bR (n.map D.int)).map _=_
  rw[lJ n];rfl
theorem fg:∀ n:List Int,Reps (Rep K H) (n.map D.int) (n.map V.int) []
 | []=>.nil
 | a::n=>.cons (L:=[]) (.int a) (fg n)
end
end L3
end
section
namespace L3
open PySem L2
section
variable {K:FG} {G G0:Gm} {W W0:D->Sto->Prop} {H H':Hp}
def iO:D->List D->Option (D×D)
 | .lst xs,[.int i]=>if 0<=i/\i < 16777216 then match xs[i.toNat]? with
  | some (.tup ys)=>(bR ys).map λ_=>(.lst (xs.eraseIdx i.toNat),.tup ys)
  | _=>none
  else none
 | _,_=>none
theorem Reps.popAt:∀ {ds:List D} {vs:List V} {L:List Addr} {k:Nat} {ns:List Int},Reps (Rep K H) ds vs L->ds[k]?=some (.tup (ns.map D.int))->∃ a,vs[k]?=some (.ref a)/\H a=some (.tup (ns.map V.int))/\Reps (Rep K H) (ds.eraseIdx k) (vs.eraseIdx k) L
 | _,_,_,k,ns,.nil,e=>by simp at e
 | _,_,_,0,ns,.cons (L:=L1) (L':=L2) r rs,e=>by
  simp only[List.getElem?_cons_zero,Option.some.injEq] at e
  subst e
  cases r with
  | @tup _ a vs _ ha hr =>
   have c:vs=ns.map V.int:=Reps.ints hr
   have b:L1=[]:=by
    have:∀ {ns:List Int} {vs:List V} {L:List Addr},Reps (Rep K H) (ns.map D.int) vs L->L=[]:=λ{ns}=>by
     induction ns with
     | nil=>intro vs L r;cases r;rfl
     | cons n ns ih=>intro vs L r;cases r with | cons r rs=>cases r;rw[ih rs];rfl
    exact this hr
   subst b
   exact ⟨a,rfl,by rw[<- c];exact ha,by simpa using rs⟩
 | _,_,_,k+1,ns,.cons (L:=L1) r rs,e=>by
  simp only[List.getElem?_cons_succ] at e
  obtain ⟨a,h1,h2,h3⟩:=Reps.popAt rs e
  exact ⟨a,by simpa using h1,h2,by simpa using Reps.cons r h3⟩
theorem ye:MutD K xv iO:=λa d n as H Q p r m na ra t e q=>by
 cases d with
 | lst xs =>
  obtain ⟨_,vs,_,e1,x,j,rs⟩:=r.view
  cases e1
  cases x
  match as,e,ra,t with
  | [],e,_,_=>exact nsE e
  | y::z::r,e,_,_=>cases w:y.d <;> (rw[show iO (.lst xs) ((y::z::r).map (·.d))=none by simp[iO,w]] at e;exact nsE e)
  | [y],e,ra,t =>
   have s:=ra y EW
   have e:iO (.lst xs) [y.d]=some p:=e
   obtain ⟨u,A,C,E⟩:=y
   dsimp only at s e
   cases u with
   | int i =>
    cases s
    have e:(if 0<=i/\i < 16777216 then match xs[i.toNat]? with | some (.tup ys)=>(bR ys).map λ_=>((.lst (xs.eraseIdx i.toNat),.tup ys):D×D) | _=>none else none)=some p:=e
    by_cases hi:0<=i/\i < 16777216
    ·rw[if_pos hi] at e
     cases l:xs[i.toNat]? with
     | none=>rw[l] at e;exact nsE e
     | some dx =>
      rw[l] at e
      obtain ⟨ys,rfl⟩:∃ ys,dx=.tup ys:=by
       cases dx <;> first | exact nsE e | exact ⟨_,rfl⟩
      obtain ⟨ns,h1,h2⟩:=E2.mp (show (bR ys).map (λ_=>((.lst (xs.eraseIdx i.toNat),.tup ys):D×D))=some p from e)
      have v:=iu h1
      subst v h2
      obtain ⟨b,v1,v2,v3⟩:=rs.popAt l
      have B:i.toNat < vs.length:=(Fb.mp v1).1
      refine ⟨a,vs,i,i.toNat,.ref b,rfl,rfl,j,by lia,by lia,?_,v1,?_⟩
      ·exact (seqIndex_of hi.1 (by lia))
      have ma:MutAt H a:=.inl ⟨_,j⟩
      have f:b≠a:=λz=>by rw[z,j] at v2;cases v2
      have keeps:Reps (Rep K (upd H a (.lst (vs.eraseIdx i.toNat)))) (xs.eraseIdx i.toNat) (vs.eraseIdx i.toNat) n:=v3.keep (M:=λb=>b=a) (λb o g h=>by rw[ak h];exact g) (λb e=>by rw[e];exact ma) λb g e=>na (by rw[<- e];exact g)
      exact q (.lst (vs.eraseIdx i.toNat)) n ⟨.tup (ns.map D.int),.ref b,[],.z⟩ (.lst aA keeps) rfl (λc k=>.inl k) rfl rfl (.tup (by rw[ak f];exact v2) (fg ns)) λc k=>by cases k
    ·rw[if_neg hi] at e;exact nsE e
   | _=>exact nsE e
 | _=>exact nsE e
end
end L3
end
section
namespace L3
open PySem L2
section
variable {K:FG} {H H':Hp}
theorem s9:∀ {ns:List (List Int)} {bs:List Addr},bs.length=ns.length->(∀ (i:Nat) (b:Addr) (n:List Int),bs[i]?=some b->ns[i]?=some n->H b=some (.tup (n.map V.int)))->Reps (Rep K H) (ns.map ntD) (bs.map V.ref) []
 | [],[],_,_=>.nil
 | [],_::_,h,_=>by cases h
 | _::_,[],h,_=>by cases h
 | n::ns,b::bs,h,q=>.cons (L:=[]) (.tup (q 0 b n rfl rfl) (fg n)) (s9 (by simpa using h) λi b n e1 a=>q (i+1) b n (by simpa using e1) (by simpa using a))
end
end L3
end
section
namespace L3
open PySem L2
end L3
end
section
namespace L3
open PySem L2
section
variable {K:FG} {H H':Hp}
def jZ:List D->Option (List (List Int))
 | []=>some []
 | .tup ys::ds=>(bR ys).bind λn=>(jZ ds).map (n::·)
 | _=>none
theorem pB:∀ {ds:List D} {ns:List (List Int)},jZ ds=some ns->ds=ns.map ntD
 | [],ns,h=>by cases h;rfl
 | d::ds,ns,h=>by
  cases d with
  | tup ys =>
   obtain ⟨n,h1,h2⟩:=Fy.mp (show ((bR ys).bind λn=>(jZ ds).map (n::·))=some ns from h)
   obtain ⟨ms,h3,a⟩:=E2.mp h2
   rw[pB h3,<- a,iu h1];rfl
  | _=>exact nsE h
def rS (ns:List (List Int)):Bool:=ns.all (λn=>!n.isEmpty) || (match ns with | []::_=>true | _=>false)
theorem Bg (h:rS ns=true):kOk ns:=by
 rcases Bool.or_eq_true_iff.mp h with h | h
 ·refine .inl λn a z=>?_
  have:=List.all_eq_true.mp h n a
  subst z;simp at this
 ·refine .inr ?_
  grind
def CO:D->Option (D×Fl)
 | .lst ds=>(jZ ds).bind λns=>if (rS ns && decide (ns.length<=16777216))=true then (bb ns).bind λis=>if (decide (is.length<=16777216) && is.all λi=>decide (i < ns.length))=true then some (.lst (is.map λi=>ntD (ns.getD i [])),.u) else none else none
 | _=>none
abbrev fU:=c1 CO
theorem mP:∀ {ns:List (List Int)} {vs:List V} {L:List Addr},Reps (Rep K H) (ns.map ntD) vs L->∃ bs:List Addr,vs=bs.map V.ref/\ns.length=bs.length/\∀ (i:Nat) (b:Addr) (n:List Int),bs[i]?=some b->ns[i]?=some n->H b=some (.tup (n.map V.int))
 | [],_,_,.nil=>⟨[],rfl,rfl,λi b n e=>by simp at e⟩
 | n::ns,_,_,.cons r rs=>by
  obtain ⟨bs,e1,d,c⟩:=mP rs
  cases r with
  | @tup _ a vs _ ha hr =>
   have f:vs=n.map V.int:=Reps.ints hr
   subst f e1
   refine ⟨a::bs,rfl,by simp[d],λi b m h1 h2=>?_⟩
   cases i with
   | zero=>cases h1;cases h2;exact ha
   | succ i=>exact c i b m (by simpa using h1) (by simpa using h2)
theorem zg:cH K (xt K) fU:=λys H Q p ra e q=>by
 obtain ⟨y,rfl,d⟩:=gw e
 clear e
 have e:=d
 clear d
 have l:=(ra y EW).rep
 obtain ⟨da,A,B,D⟩:=y
 dsimp only at l e
 cases da with
 | lst ds =>
  obtain ⟨ns,h1,h2⟩:=Fy.mp (show ((jZ ds).bind λns=>_)=some p from e)
  by_cases f:(rS ns && decide (ns.length<=16777216))=true
  ·rw[if_pos f] at h2
   obtain ⟨h3,r⟩:=Bool.and_eq_true_iff.mp f
   obtain ⟨is,w,g⟩:=Fy.mp h2
   by_cases hd:(decide (is.length<=16777216) && is.all λi=>decide (i < ns.length))=true
   ·rw[if_pos hd] at g
    cases g
    obtain ⟨s,z⟩:=Bool.and_eq_true_iff.mp hd
    cases pB h1
    obtain ⟨a,vs,C,rfl,rfl,m,rs⟩:=l.view
    obtain ⟨bs,rfl,v,k⟩:=mP rs
    refine ⟨a,bs,ns,is,rfl,SqL.of m,v,k,Bg h3,w,by rw[sizeLine_eq];exact of_decide_eq_true r,by rw[sizeLine_eq];exact of_decide_eq_true s,λp x=>?_⟩
    have t:(is.map λi=>V.ref (bs.getD i 0))=(is.map λi=>bs.getD i 0).map V.ref:=by rw[FJ];rfl
    have h:(is.map λi=>ntD (ns.getD i []))=(is.map λi=>ns.getD i []).map ntD:=by rw[FJ];rfl
    rw[t]
    refine q ⟨.lst (is.map λi=>ntD (ns.getD i [])),.ref p,[p],.u⟩ _ (vi x ?_ λc f=>by cases f) rfl rfl
    rw[h]
    refine s9 (by simp) λi b n e1 d=>?_
    rw[Ff] at e1 d
    cases hi:is[i]? with
    | none=>rw[hi] at e1;cases e1
    | some j =>
     rw[hi] at e1 d
     have o:j < ns.length:=of_decide_eq_true (List.all_eq_true.mp z j (Fc hi))
     have g1:bs[j]?=some bs[j]:=E6 (by lia)
     have g2:ns[j]?=some ns[j]:=E6 o
     have e1:bs.getD j 0=b:=FL e1
     have d:ns.getD j []=n:=FL d
     rw[List.getD,g1] at e1
     rw[List.getD,g2] at d
     subst e1 d
     exact k j _ _ g1 g2
   ·rw[if_neg hd] at g;exact nsE g
  ·rw[if_neg f] at h2;exact nsE h2
 | _=>exact nsE e
end
end L3
end
section
namespace L3
open PySem L2
end L3
end
section
namespace L3
open PySem L2
section
variable {K:FG} {G0:Gm} {W0:D->Sto->Prop} {X:Cx}
def DY (k:Key) (i:Int):EM:=aQ (.val (.dk [(k,.int i)]) .u)
theorem Dj {i:Int} (l:PE X k (tC (kV key))) (j:PE X v (tC (.int i))):RE X G0 W0 (.Dict [some k] [v] pos) (DY key i):=⟨PE.imp (DE l j) λσ H Q h=>by
 refine h.use λG W le ρ T g o ρ' w e q=>?_
 cases e
 intro p d
 have sm:Same H (upd (upd H p (.dK [])) p (.dK [(key,.int i)])):=λb o a=>by
  have n:b≠p:=λz=>by rw[z,d] at a;cases a
  rw[ak n,ak n];exact a
 refine q _ _ (Wf.done (Us:=[]) (ys:=[]) (x:=⟨.dk [(key,.int i)],.ref p,[p],.u⟩) w (λ_ h=>(by cases h)) ⟨sm,.dK (L:=[]) aA rfl (.cons (L:=[]) (.int i) .nil),λc f=>?_,λ_=>⟨rfl,p,[],rfl,rfl,(by simp),d⟩⟩)
 rw[Fz.mp f];exact .inl d⟩
def DX (ns:List Int) (i:Int):EM:=aQ (.val (.dt [(ns.map Sum.inl,.int i)]) .u)
theorem Di {x1:Nat} {i:Int} (hu:X.A.units+1 < cLine) (h0:ns≠[]) (hz:ns.length<=100) (l:es.map wm=ns.map some) (k:PE X v (tC (.int i))):RE X G0 W0 (.Dict [some (.Tuple es x1 pos')] [v] pos) (DX ns i):=⟨PE.imp (DD hu h0 hz l k) λσ H Q h=>by
 refine h.use λG W le ρ T g o ρ' w e q=>?_
 cases e
 intro p j b d
 have nb:b≠p:=λz=>by rw[z,aA] at d;cases d
 have f:H b=none:=by rw[ak nb] at d;exact d
 have sm:Same H (upd (upd (upd H p (.dT [])) b (.tup (ns.map V.int))) p (.dT [(ns.map Sum.inl,.int i)])):=λc o a=>by
  have n:c≠p:=λz=>by rw[z,j] at a;cases a
  have m:c≠b:=λz=>by rw[z,f] at a;cases a
  rw[ak n,ak m,ak n];exact a
 refine q _ _ (Wf.done (Us:=[]) (ys:=[]) (x:=⟨.dt [(ns.map Sum.inl,.int i)],.ref p,[p],.u⟩) w (λ_ h=>(by cases h)) ⟨sm,.dT (L:=[]) aA rfl (.cons (L:=[]) (.int i) .nil),λc a=>?_,λ_=>⟨rfl,p,[],rfl,rfl,(by simp),j⟩⟩)
 rw[Fz.mp a];exact .inl j⟩
end
end L3
end
section
namespace L2
open PySem PySem.Spec PyProof.Rows
variable {cmp:Nat->Nat->Option Bool} {α β:Type}
theorem eM {m:StateT SortSt Sem α} {f:α->StateT SortSt Sem β} {st st1:SortSt} {a:α} (h1:ev cmp (m.run st) none=some ((a,st1),none)) (h2:ev cmp ((f a).run st1) none=r):ev cmp ((m >>= f).run st) none=r:=by
 show ev cmp ((m.run st).bind λx=>(f x.1).run x.2) none=r
 rw[ug,h1]
 exact h2
theorem Bw {f:Nat->β->StateT SortSt Sem (ForInStep β)} {i:Nat} {st st1:SortSt} (h:ev cmp ((f i b).run st) none=some ((.yield b1,st1),none)) (h2:ev cmp ((forIn l b1 f).run st1) none=r):ev cmp ((forIn (i::l) b f).run st) none=r:=by
 rw[List.forIn_cons]
 exact eM h h2
theorem By {f:Nat->β->StateT SortSt Sem (ForInStep β)} {i:Nat} {st st1:SortSt} (h:ev cmp ((f i b).run st) none=some ((.done b1,st1),none)):ev cmp ((forIn (i::l) b f).run st) none=some ((b1,st1),none):=by
 rw[List.forIn_cons]
 exact eM h rfl
def ay (l:List Nat) (p:List (Nat×Nat×Nat)) (g:Nat):SortSt:=SortSt.mk' (aV true) ((l.map λi=>((Value.ref i,Value.ref i):Keyed)).toArray) p.toArray g none
theorem mV:∀ L:List Nat,(L.map λi=>((Value.ref i,Value.ref i):Keyed)).mapM ly=some L
 | []=>rfl
 | x::L=>by
  have a:=mV L
  rw[Fm,List.mapM_cons,a]
  rfl
theorem j0 {n:Nat} {g:Nat} (h0:ns.length=n) (h:ev (fL ns) (sortRuns'.run (ay (List.range n) [] 7)) none=some (((),ay L1 p g),none)):bb ns=some L1:=by
 unfold bb
 subst h0
 have e:SortSt.mk' (aV true) (mW ns.length) #[] 7 none=ay (List.range ns.length) [] 7:=rfl
 rw[e,h]
 show (arrOf (ay L1 p g)).toList.mapM ly=some L1
 show ((L1.map λi=>((Value.ref i,Value.ref i):Keyed)).toArray).toList.mapM ly=some L1
 rw[List.toList_toArray]
 exact mV L1
end L2
end
section
namespace L2
open PySem PySem.Spec PyProof.Rows
variable {cmp:Nat->Nat->Option Bool} {α β:Type}
theorem Ex (a b:Nat) (l:List Nat) (p:List (Nat×Nat×Nat)) (g:Nat):ev cmp ((lt' (.ref a,.ref a) (.ref b,.ref b)).run (ay l p g)) none=(match cmp a b with | some true=>some ((some true,ay l p g),none) | some false=>some ((some false,ay l p g),none) | none=>none):=by
 rfl
theorem Bv {l:List Nat} {p:List (Nat×Nat×Nat)} {g i j a b:Nat} {c:Bool} (hi:l[i]?=some a) (h:l[j]?=some b) (e:cmp a b=some c):ev cmp ((ltAt' i j).run (ay l p g)) none=some ((some c,ay l p g),none):=by
 have e1:elem' (arrOf (ay l p g)) i=pure (.ref a,.ref a):=by
  rw[elem'_eq]
  have:(arrOf (ay l p g))[i]?=some (.ref a,.ref a):=by
   show ((l.map λi=>((Value.ref i,Value.ref i):Keyed)).toArray)[i]?=_
   simp[hi]
  rw[this]
 have f:elem' (arrOf (ay l p g)) j=pure (.ref b,.ref b):=by
  rw[elem'_eq]
  have:(arrOf (ay l p g))[j]?=some (.ref b,.ref b):=by
   show ((l.map λi=>((Value.ref i,Value.ref i):Keyed)).toArray)[j]?=_
   simp[h]
  rw[this]
 have d:=Ex (cmp:=cmp) a b l p g
 rw[e] at d
 rw[ltAt'_eq]
 refine eM (a:=ay l p g) (st1:=ay l p g) rfl ?_
 dsimp only
 rw[e1]
 refine eM (a:=(.ref a,.ref a)) (st1:=ay l p g) rfl ?_
 rw[f]
 refine eM (a:=(.ref b,.ref b)) (st1:=ay l p g) rfl ?_
 rw[d]
 cases c <;> rfl
theorem yX {f:Nat->β->StateT SortSt Sem (ForInStep β)} (I:Nat->β->SortSt->Prop) (D:β->SortSt->Prop):∀ (m a:Nat) (b:β) (st:SortSt),I a b st ->
  (∀ i b st,a<=i->i < a+m->I i b st->(∃ d c,ev cmp ((f i b).run st) none=some ((.yield d,c),none)/\I (i+1) d c)\/∃ d c,ev cmp ((f i b).run st) none=some ((.done d,c),none)/\D d c) ->
  ∃ d c,ev cmp ((forIn (List.range' a m) b f).run st) none=some ((d,c),none)/\(I (a+m) d c\/D d c)
 | 0,a,b,st,h0,_=>⟨b,st,by rw[List.range'_zero,List.forIn_nil];rfl,.inl h0⟩
 | m+1,a,b,st,h0,hs=>by
  rw[List.range'_succ]
  rcases hs a b st (Fg _) (by omega) h0 with ⟨b1,st1,e1,h1⟩ | ⟨b1,st1,e1,h1⟩
  ·obtain ⟨b2,e,g,h2⟩:=yX I D m (a+1) b1 st1 h1 λi b st x y z=>hs i b st (by omega) (by omega) z
   exact ⟨b2,e,Bw e1 g,by rw[show a+(m+1)=a+1+m by omega];exact h2⟩
  ·exact ⟨b1,st1,By e1,.inr h1⟩
theorem Bx {f:Nat->β->StateT SortSt Sem (ForInStep β)} (I:Nat->β->SortSt->Prop) (D:β->SortSt->Prop) {a n:Nat} {b:β} {st:SortSt} (h0:I a b st)
  (hs:∀ i b st,a<=i->i < n->I i b st->(∃ d c,ev cmp ((f i b).run st) none=some ((.yield d,c),none)/\I (i+1) d c)\/∃ d c,ev cmp ((f i b).run st) none=some ((.done d,c),none)/\D d c) :
  ∃ d c,ev cmp ((forIn [a:n] b f).run st) none=some ((d,c),none)/\(I (max a n) d c\/D d c):=by
 rw[Std.Legacy.Range.forIn_eq_forIn_range']
 by_cases h:a<=n
 ·have hz:([a:n]:Std.Legacy.Range).size=n - a:=by simp[Std.Legacy.Range.size]
  rw[show max a n=a+(n - a) by omega]
  have:=yX (cmp:=cmp) (f:=f) I D (n - a) a b st h0 λi b st x y z=>hs i b st x (by omega) z
  simpa[hz] using this
 ·have hz:([a:n]:Std.Legacy.Range).size=0:=by simp[Std.Legacy.Range.size];omega
  rw[show max a n=a by omega]
  refine ⟨b,st,?_,.inl h0⟩
  rw[hz,List.range'_zero,List.forIn_nil]
  rfl
end L2
end
section
namespace L2
open PySem PySem.Spec PyProof.Rows
variable {cmp:Nat->Nat->Option Bool} {α β:Type}
def EvW (cmp:Nat->Nat->Option Bool) (m:StateT SortSt Sem α) (P:α->SortSt->Prop) (st:SortSt):Prop:=∃ a b,ev cmp (m.run st) none=some ((a,b),none)/\P a b
theorem aq {a:α} {P:α->SortSt->Prop} {st:SortSt} (h:P a st):EvW cmp (pure a) P st:=⟨a,st,rfl,h⟩
theorem aj {m:StateT SortSt Sem α} {f:α->StateT SortSt Sem β} {P:β->SortSt->Prop} {st:SortSt} (h:EvW cmp m (λa d=>EvW cmp (f a) P d) st):EvW cmp (m >>= f) P st:=by
 obtain ⟨a,st1,e1,b,c,e,h⟩:=h
 exact ⟨b,c,eM e1 e,h⟩
theorem qA {m:StateT SortSt Sem α} {P Q:α->SortSt->Prop} {st:SortSt} (h:EvW cmp m P st) (k:∀ a b,P a b->Q a b):EvW cmp m Q st:=by
 obtain ⟨a,st1,e1,h⟩:=h
 exact ⟨a,st1,e1,k _ _ h⟩
theorem bW {l:List Nat} {p:List (Nat×Nat×Nat)} {g i j a b:Nat} {c:Bool} {P:Option Bool->SortSt->Prop} (hi:l[i]?=some a) (e:l[j]?=some b) (d:cmp a b=some c) (h:P (some c) (ay l p g)):EvW cmp (ltAt' i j) P (ay l p g):=⟨_,_,Bv hi e d,h⟩
theorem jt {r:String} {P:Unit->SortSt->Prop} {st:SortSt} (h:P () st):EvW cmp (liftM (PySem.rule r:Sem Unit):StateT SortSt Sem Unit) P st:=⟨(),st,rfl,h⟩
theorem b7 {f:Nat->β->StateT SortSt Sem (ForInStep β)} (I:Nat->β->SortSt->Prop) {P:β->SortSt->Prop} {a n:Nat} {b:β} {st:SortSt} (h0:I a b st)
  (hs:∀ i b st,a<=i->i < n->I i b st->EvW cmp (f i b) (λr c=>match r with | .yield d=>I (i+1) d c | .done d=>P d c) st)
  (he:∀ b st,I (max a n) b st->P b st):EvW cmp (forIn [a:n] b f) P st:=by
 obtain ⟨d,c,e,h⟩:=Bx (cmp:=cmp) (f:=f) I P (n:=n) h0 λi b st x y z=>by
  obtain ⟨r,c,e,h⟩:=hs i b st x y z
  cases r with
  | yield d=>exact .inl ⟨d,c,e,h⟩
  | done d=>exact .inr ⟨d,c,e,h⟩
 exact ⟨d,c,e,h.elim (he d c) id⟩
theorem jC {γ δ:Type} (φ:γ->δ) (p q:β->Nat):∀ (l:List β) (xs:Array γ),l.foldl (λa k=>a.swapIfInBounds (p k) (q k)) (xs.map φ)=(l.foldl (λa k=>a.swapIfInBounds (p k) (q k)) xs).map φ
 | [],xs=>rfl
 | k::l,xs=>by
  rw[List.foldl_cons,List.foldl_cons,<- jC φ p q l]
  congr 1
  apply Array.ext_getElem?
  intro i
  rw[Array.getElem?_map]
  by_cases h1:p k < xs.size
  ·by_cases h2:q k < xs.size
   ·rw[getElem?_swapIB (by simpa using h1) (by simpa using h2),getElem?_swapIB h1 h2]
    simp only[Array.getElem?_map]
    repeat' split
    all_goals rfl
   ·rw[Array.swapIfInBounds_def,Array.swapIfInBounds_def,dif_pos (by simpa using h1),dif_neg (by simpa using h2),dif_pos h1,dif_neg h2,Array.getElem?_map]
  ·rw[Array.swapIfInBounds_def,Array.swapIfInBounds_def,dif_neg (by simpa using h1),dif_neg h1,Array.getElem?_map]
abbrev kd (i:Nat):Keyed:=(Value.ref i,Value.ref i)
theorem sE (l:List Nat):(l.map λi=>((Value.ref i,Value.ref i):Keyed)).toArray=l.toArray.map kd:=by simp
theorem wM {l:List Nat} {p:List (Nat×Nat×Nat)} {g:Nat} {a:Array Nat}:setArr (ay l p g) (a.map kd)=ay a.toList p g:=by
 have:(a.toList.map λi=>((Value.ref i,Value.ref i):Keyed)).toArray=a.map kd:=by rw[sE]
 show SortSt.mk' _ _ _ _ _=SortSt.mk' _ _ _ _ _
 rw[this]
 rfl
theorem qB {l:List Nat} {p:List (Nat×Nat×Nat)} {g i j:Nat} {P:PUnit->SortSt->Prop} (h:P ⟨⟩ (ay (bubble l.toArray i (i - j)).toList p g)):EvW cmp (moveDown' i j) P (ay l p g):=by
 refine ⟨⟨⟩,_,?_,h⟩
 rw[moveDown'_eq]
 have e:bubble (arrOf (ay l p g)) i (i - j)=(bubble l.toArray i (i - j)).map kd:=by
  show bubble ((l.map λi=>((Value.ref i,Value.ref i):Keyed)).toArray) _ _=_
  rw[sE]
  exact jC kd _ _ _ _
 show some ((PUnit.unit,setArr (ay l p g) (bubble (arrOf (ay l p g)) i (i - j))),none)=_
 rw[e,wM]
theorem ju {l:List Nat} {p:List (Nat×Nat×Nat)} {g i j:Nat} {P:PUnit->SortSt->Prop} (h:P ⟨⟩ (ay (mirror l.toArray i j ((j - i) / 2)).toList p g)):EvW cmp (reverseSlice' i j) P (ay l p g):=by
 refine ⟨⟨⟩,_,?_,h⟩
 rw[reverseSlice'_eq]
 have e:mirror (arrOf (ay l p g)) i j ((j - i) / 2)=(mirror l.toArray i j ((j - i) / 2)).map kd:=by
  show mirror ((l.map λi=>((Value.ref i,Value.ref i):Keyed)).toArray) _ _ _=_
  rw[sE]
  exact jC kd _ _ _ _
 show some ((PUnit.unit,setArr (ay l p g) (mirror (arrOf (ay l p g)) i j ((j - i) / 2))),none)=_
 rw[e,wM]
structure Tot (cmp:Nat->Nat->Option Bool) (lt:Nat->Nat->Bool) (n:Nat):Prop where
 is:∀ a b,a < n->b < n->cmp a b=some (lt a b)
 asym:∀ a b,lt a b=true->lt b a=false
 tot:∀ a b,a < n->b < n->a≠b->lt a b=false->lt b a=true
 trans:∀ a b c,lt a b=true->lt b c=true->lt a c=true
def gz (lt:Nat->Nat->Bool) (l:List Nat) (m:Nat):Prop:=∀ i j a b:Nat,i < j->j < m->l[i]?=some a->l[j]?=some b->lt a b=true
section
variable {lt:Nat->Nat->Bool} {n:Nat}
theorem cT {l:List Nat} (h:l.Perm (List.range n)):l.length=n/\(∀ i a:Nat,l[i]?=some a->a < n)/\∀ i j a:Nat,l[i]?=some a->l[j]?=some a->i=j:=by
 refine ⟨by rw[h.length_eq,List.length_range],λi a e=>List.mem_range.mp (h.subset (Fc e)),λi j a e1 b=>?_⟩
 have nd:l.Nodup:=h.nodup_iff.mpr List.nodup_range
 obtain ⟨h1,e1⟩:=Fb.mp e1
 obtain ⟨h2,b⟩:=Fb.mp b
 have a1:=nd.idxOf_getElem i h1
 have a2:=nd.idxOf_getElem j h2
 rw[e1] at a1
 rw[b] at a2
 lia
theorem b9 {l:List Nat} {i:Nat} (h:i < l.length):∃ a,l[i]?=some a:=⟨_,E6 h⟩
theorem yD (T:Tot cmp lt n) {l:List Nat} {p:List (Nat×Nat×Nat)} {g k lo key:Nat} (hl:l.Perm (List.range n)) (hs:gz lt l k) (u:k < n) (r:l[k]?=some key) (t:lo<=k) (w:∀ i a:Nat,i < lo->l[i]?=some a->lt a key=true) (v:∀ i a:Nat,lo<=i->i < k->l[i]?=some a->lt key a=true) {Q:ForInStep (Option Bool×Unit)->SortSt->Prop} (h:∀ f,f.Perm (List.range n)->gz lt f (k+1)->Q (.yield (none,())) (ay f p g)) :
  EvW cmp (do
   moveDown' (0+k) (0+lo)
   pure (ForInStep.yield (none,()))) Q (ay l p g):=by
 obtain ⟨z,A,li⟩:=cT hl
 rw[xZ7,xZ7]
 refine aj (qB (aq (h _ ?_ ?_)))
 ·have s:(bubble l.toArray k (k - lo)).toList.Perm l:=by
   have:=bubble_perm l.toArray k (k - lo)
   simpa using Array.perm_iff_toList_perm.mp this
  exact s.trans hl
 ·have get:∀ q:Nat,(bubble l.toArray k (k - lo)).toList[q]?=if q=lo then l[k]? else if lo < q/\q<=k then l[q - 1]? else l[q]?:=λq=>by
   have:=getElem?_bubble (xs:=l.toArray) (src:=k) (by simpa using (by omega:k < l.length)) (k - lo) (by omega) q
   rw[show k - (k - lo)=lo by omega] at this
   simpa using this
  intro i j a b m y d c
  rw[get] at d c
  by_cases e:j=lo
  ·rw[if_pos e,r] at c
   cases c
   rw[if_neg (by omega),if_neg (by omega)] at d
   exact w i a (by omega) d
  ·by_cases o:i=lo
   ·rw[if_pos o,r] at d
    cases d
    rw[if_neg e,if_pos (by omega)] at c
    exact v (j - 1) b (by omega) (by omega) c
   ·rw[if_neg o] at d
    rw[if_neg e] at c
    by_cases x:lo < i
    ·rw[if_pos (by omega)] at d c
     exact hs (i - 1) (j - 1) a b (by omega) (by omega) d c
    ·rw[if_neg (by omega)] at d
     by_cases B:lo < j
     ·rw[if_pos (by omega)] at c
      exact hs i (j - 1) a b (by omega) (by omega) d c
     ·rw[if_neg (by omega)] at c
      exact hs i j a b m (by omega) d c
theorem EK (T:Tot cmp lt n) {l:List Nat} {p:List (Nat×Nat×Nat)} {g ok:Nat} (hl:l.Perm (List.range n)) (hok:ok<=n) (hs:gz lt l ok) {P:Bool->SortSt->Prop} (h:∀ f,f.Perm (List.range n)->gz lt f n->P true (ay f p g)):EvW cmp (binarySort' 0 n ok) P (ay l p g):=by
 rw[binarySort'_eq]
 refine aj (b7 (λk c st=>c=(none,⟨⟩)/\∃ l,st=ay l p g/\l.Perm (List.range n)/\gz lt l k) ⟨rfl,l,rfl,hl,?_⟩ ?_ ?_)
 ·intro i j a b u E D B
  by_cases h0:ok=0
  ·lia
  ·exact hs i j a b u (by omega) D B
 ·rintro k c st h1 h2 ⟨rfl,l,rfl,hl,hs⟩
  dsimp only
  obtain ⟨G,C,li⟩:=cT hl
  obtain ⟨key,r⟩:=b9 (l:=l) (i:=k) (by omega)
  have t:=C k key r
  refine aj (b7 (λx c st=>st=ay l p g/\∃ lo hi,c=(none,lo,hi)/\lo<=hi/\hi<=k/\hi - lo<=k - x/\(∀ i a:Nat,i < lo->l[i]?=some a->lt a key=true)/\∀ i a:Nat,hi<=i->i < k->l[i]?=some a->lt key a=true) ⟨rfl,0,k,rfl,Nat.zero_le _,Fg _,Fg _,λi a h=>by omega,λi a h=>by omega⟩ ?_ ?_)
  ·rintro x c st _ H ⟨rfl,lo,hi,rfl,a1,a2,F,y,w⟩
   dsimp only
   by_cases q:lo ≥ hi
   ·rw[if_pos q]
    refine aq ?_
    exact yD T hl hs (by omega) r (by omega) y (λi a h3 d o=>w i a (by omega) d o) λf x1 z=>⟨rfl,f,rfl,x1,z⟩
   ·rw[if_neg q]
    obtain ⟨m,hm⟩:=b9 (l:=l) (i:=(lo+hi) / 2) (by omega)
    have v:=C _ m hm
    refine aj (bW (a:=key) (b:=m) (by rw[xZ7];exact r) (by rw[xZ7];exact hm) (T.is key m t v) ?_)
    dsimp only
    cases A:lt key m with
    | true =>
     rw[if_pos rfl]
     refine aq ⟨rfl,lo,(lo+hi) / 2,rfl,by omega,by omega,by omega,y,λi a h3 d o=>?_⟩
     by_cases he:i=(lo+hi) / 2
     ·subst he
      rw[hm] at o
      cases o
      exact A
     ·exact T.trans key m a A (hs _ i m a (by omega) d hm o)
    | false =>
     rw[if_neg (by decide)]
     have s:lt m key=true:=T.tot key m t v (λe=>by subst e;have:=li _ _ _ r hm;omega) A
     refine aq ⟨rfl,(lo+hi) / 2+1,hi,rfl,by omega,by omega,by omega,λi a h3 d=>?_,w⟩
     by_cases he:i=(lo+hi) / 2
     ·subst he
      rw[hm] at d
      cases d
      exact s
     ·exact T.trans a m key (hs i _ a m (by omega) (by omega) d hm) s
  ·rintro c st ⟨rfl,lo,hi,rfl,a1,a2,F,y,w⟩
   dsimp only
   exact yD T hl hs (by omega) r (by omega) y (λi a h3 d o=>w i a (by omega) d o) λf x1 z=>⟨rfl,f,rfl,x1,z⟩
 ·rintro c st ⟨rfl,l,rfl,hl,hs⟩
  dsimp only
  refine aq (h l hl ?_)
  by_cases hm:max ok 1<=n
  ·rwa [show max (max ok 1) n=n by omega] at hs
  ·intro i j a b u E D B
   lia
end
end L2
end
section
namespace L2
open PySem PySem.Spec PyProof.Rows
variable {cmp:Nat->Nat->Option Bool} {lt:Nat->Nat->Bool} {n:Nat}
theorem uD (T:Tot cmp lt n) {l:List Nat} (hl:l.Perm (List.range n)) {x u v:Nat} (h1:1<=x) (hs:gz lt l x) (hu:l[x - 1]?=some u) (g:l[x]?=some v) (h:lt u v=true):gz lt l (x+1):=by
 intro i j a b f m c d
 by_cases e:j=x
 ·subst e
  rw[g] at d
  cases d
  by_cases k:i=j - 1
  ·subst k
   rw[hu] at c
   cases c
   exact h
  ·exact T.trans a u v (hs i (j - 1) a u (by omega) (by omega) c hu) h
 ·exact hs i j a b f (by omega) c d
theorem zy (T:Tot cmp lt n) {l:List Nat} {p:List (Nat×Nat×Nat)} {g a:Nat} (hl:l.Perm (List.range n)) (h1:1<=a) (f:a<=n) (hs:gz lt l a) {P:AscSt->SortSt->Prop}
  (h:∀ m,a<=m->m<=n->gz lt l m->(m=n\/∃ u v,l[m - 1]?=some u/\l[m]?=some v/\lt v u=true)->P (none,m) (ay l p g)):EvW cmp (ascLoop a n) P (ay l p g):=by
 obtain ⟨k,d,li⟩:=cT hl
 unfold ascLoop
 refine b7 (λx c st=>c=(none,x)/\st=ay l p g/\gz lt l x) ⟨rfl,rfl,hs⟩ ?_ ?_
 ·rintro x c st h2 h3 ⟨rfl,rfl,hs⟩
  dsimp only
  obtain ⟨v,b⟩:=b9 (l:=l) (i:=x) (by omega)
  obtain ⟨u,hu⟩:=b9 (l:=l) (i:=x - 1) (by omega)
  refine aj (bW b hu (T.is v u (d _ _ b) (d _ _ hu)) ?_)
  dsimp only
  cases j:lt v u with
  | true =>
   rw[if_pos rfl]
   exact aq (h x h2 (by omega) hs (.inr ⟨u,v,hu,b,j⟩))
  | false =>
   rw[if_neg (by decide)]
   refine aq ⟨rfl,rfl,uD T hl (by omega) hs hu b (T.tot v u (d _ _ b) (d _ _ hu) (λe=>by subst e;have:=li _ _ _ b hu;omega) j)⟩
 ·rintro c st ⟨rfl,rfl,hs⟩
  rw[show max a n=n by omega] at hs ⊢
  exact h n f (Fg _) hs (.inl rfl)
def ES (lt:Nat->Nat->Bool) (l:List Nat) (m:Nat):Prop:=∀ i j a b:Nat,i < j->j < m->l[i]?=some a->l[j]?=some b->lt b a=true
theorem sL (T:Tot cmp lt n) {l:List Nat} {p:List (Nat×Nat×Nat)} {g m:Nat} (hl:l.Perm (List.range n)) (h1:1<=m) (hm:m<=n) (hs:ES lt l m) {P:Option Nat->SortSt->Prop}
  (h:∀ c q,c.Perm (List.range n)->1<=q->q<=n->gz lt c q->P (some q) (ay c p g)):EvW cmp (tail3 m n) P (ay l p g):=by
 obtain ⟨v,x,li⟩:=cT hl
 unfold tail3
 have d:(mirror l.toArray 0 m ((m - 0) / 2)).toList.Perm (List.range n):=by
  have:=mirror_perm l.toArray 0 m ((m - 0) / 2)
  have:(mirror l.toArray 0 m ((m - 0) / 2)).toList.Perm l:=by simpa using Array.perm_iff_toList_perm.mp this
  exact this.trans hl
 have get:∀ q:Nat,q < m->(mirror l.toArray 0 m ((m - 0) / 2)).toList[q]?=l[m - 1 - q]?:=λq w=>by
  have:=getElem?_mirror (xs:=l.toArray) (i:=0) (j:=m) (by simp;omega) ((m - 0) / 2) (by omega) q
  have e:(mirror l.toArray 0 m ((m - 0) / 2)).toList[q]?=(mirror l.toArray 0 m ((m - 0) / 2))[q]?:=by simp
  rw[e,this]
  by_cases f:(0<=q/\q < 0+(m - 0) / 2)\/(m - (m - 0) / 2<=q/\q < m)
  ·rw[if_pos f]
   simp
  ·rw[if_neg f]
   have:q=m - 1 - q:=by omega
   rw[<- this]
   simp
 have hu:gz lt (mirror l.toArray 0 m ((m - 0) / 2)).toList m:=by
  intro i j a b t s o k
  rw[get i (by omega)] at o
  rw[get j s] at k
  exact hs (m - 1 - j) (m - 1 - i) b a (by omega) (by omega) k o
 refine aj (ju (aj (zy T d h1 hm hu λq h3 r u _=>?_)))
 exact aq (h _ q d (by omega) r u)
theorem BB (T:Tot cmp lt n) {l:List Nat} {p:List (Nat×Nat×Nat)} {g u v:Nat} (hl:l.Perm (List.range n)) (h2:2<=n) (hu:l[0]?=some u) (A:l[1]?=some v) (hd:lt v u=true) {P:Option Nat->SortSt->Prop}
  (h:∀ t q,t.Perm (List.range n)->1<=q->q<=n->gz lt t q->P (some q) (ay t p g)):EvW cmp (descPart 1 n) P (ay l p g):=by
 obtain ⟨D,r,li⟩:=cT hl
 unfold descPart
 refine aj (jt (aj ?_))
 have h0:ES lt l 2:=by
  intro i j a b s B f k
  have e1:i=0:=by omega
  have z:j=1:=by omega
  subst e1 z
  rw[hu] at f
  rw[A] at k
  cases f
  cases k
  exact hd
 unfold descLoop
 refine b7 (λx c st=>c=(none,x,0)/\st=ay l p g/\ES lt l x) ⟨rfl,rfl,h0⟩ ?_ ?_
 ·rintro x c st h3 C ⟨rfl,rfl,hs⟩
  dsimp only
  obtain ⟨b,k⟩:=b9 (l:=l) (i:=x) (by omega)
  obtain ⟨a,f⟩:=b9 (l:=l) (i:=x - 1) (by omega)
  refine aj (bW k f (T.is b a (r _ _ k) (r _ _ f)) ?_)
  dsimp only
  cases y:lt b a with
  | true =>
   rw[if_pos rfl,if_neg (by decide)]
   refine aq ⟨rfl,rfl,λi j c d s B m o=>?_⟩
   by_cases e:j=x
   ·subst e
    rw[k] at o
    cases o
    by_cases z:i=j - 1
    ·subst z
     rw[f] at m
     cases m
     exact y
    ·exact T.trans b a c y (hs i (j - 1) c a (by omega) (by omega) m f)
   ·exact hs i j c d s (by omega) m o
  | false =>
   rw[if_neg (by decide)]
   have w:=T.tot b a (r _ _ k) (r _ _ f) (λe=>by subst e;have:=li _ _ _ k f;omega) y
   refine aj (bW f k (T.is a b (r _ _ f) (r _ _ k)) ?_)
   dsimp only
   rw[w,if_pos rfl]
   refine aq ?_
   dsimp only
   rw[if_neg (by decide)]
   exact sL T hl (by omega) (by omega) hs h
 ·rintro c st ⟨rfl,rfl,hs⟩
  dsimp only
  rw[if_neg (by decide)]
  exact sL T hl (by omega) (by omega) hs h
theorem EA (T:Tot cmp lt n) {l:List Nat} {p:List (Nat×Nat×Nat)} {g:Nat} (hl:l.Perm (List.range n)) (h2:2<=n) {P:Option Nat->SortSt->Prop}
  (h:∀ c q,c.Perm (List.range n)->1<=q->q<=n->gz lt c q->P (some q) (ay c p g)):EvW cmp (countRun' 0 n) P (ay l p g):=by
 obtain ⟨x,k,li⟩:=cT hl
 rw[countRun0_eq]
 refine aj (zy T hl (Fg _) (by omega) (λi j a b s y=>by omega) λm h3 f d o=>?_)
 dsimp only
 by_cases e:m=n
 ·rw[if_pos (by simpa using e)]
  exact aq (h l m hl h3 f d)
 ·rw[if_neg (by simpa using e)]
  obtain ⟨u,v,hu,r,hd⟩:=o.resolve_left e
  by_cases e1:m > 1
  ·rw[if_pos e1]
   obtain ⟨w,hw⟩:=b9 (l:=l) (i:=0) (by omega)
   refine aj (bW hw hu (T.is w u (k _ _ hw) (k _ _ hu)) ?_)
   dsimp only
   rw[d 0 (m - 1) w u (by omega) (by omega) hw hu,if_pos rfl]
   exact aq (h l m hl h3 f d)
  ·rw[if_neg e1]
   have t:m=1:=by omega
   subst t
   exact BB T hl h2 hu r hd h
theorem jg (n:Nat) (h:n < 64) (h0:0 < n):minRun' n n 0=n:=by
 cases n with
 | zero=>cases h0
 | succ k=>rw[minRun'_succ,if_pos h]
theorem z8 (T:Tot cmp lt n) (h2:2<=n) (f:n < 64):EvW cmp sortRuns' (λ_ st=>∃ a,st=ay a [(0,n,0)] 7/\a.Perm (List.range n)/\gz lt a n) (ay (List.range n) [] 7):=by
 rw[sortRuns'_eq]
 refine aj ⟨ay (List.range n) [] 7,ay (List.range n) [] 7,rfl,?_⟩
 have hz:(arrOf (ay (List.range n) [] 7)).size=n:=by
  show ((List.range n).map λi=>((Value.ref i,Value.ref i):Keyed)).toArray.size=n
  simp
 dsimp only
 rw[hz,jg n f (by omega)]
 refine aj (qA (P:=λc st=>c=(none,n)/\∃ a,st=ay a [(0,n,0)] 7/\a.Perm (List.range n)/\gz lt a n) (b7 (λx c st=>(x=0/\c=(none,0)/\st=ay (List.range n) [] 7)\/(1<=x/\c=(none,n)/\∃ a,st=ay a [(0,n,0)] 7/\a.Perm (List.range n)/\gz lt a n)) (.inl ⟨rfl,rfl,rfl⟩) ?_ ?_) ?_)
 ·rintro x c st h3 k (⟨rfl,rfl,rfl⟩ | ⟨g,rfl,l,rfl,b,hu⟩)
  ·dsimp only
   rw[if_neg (by lia)]
   refine aj (EA T (List.Perm.refl _) h2 λl q hl g m h=>?_)
   dsimp only
   by_cases j:q < n
   ·rw[if_pos j]
    refine aj (jt (aj ?_))
    rw[show min (n - 0) n=n by omega]
    refine EK T hl (by omega) h λa d hu=>?_
    rw[if_neg (by decide)]
    refine aj ⟨ay a [] 7,ay a [] 7,rfl,?_⟩
    refine aj ⟨⟨⟩,ay a [(0,n,0)] 7,rfl,?_⟩
    exact aq (.inr ⟨by omega,by rw[xZ7],a,rfl,d,hu⟩)
   ·rw[if_neg j]
    have e:q=n:=by omega
    subst e
    refine aj ⟨ay l [] 7,ay l [] 7,rfl,?_⟩
    refine aj ⟨⟨⟩,ay l [(0,q,0)] 7,rfl,?_⟩
    exact aq (.inr ⟨by omega,by rw[xZ7],l,rfl,hl,h⟩)
  ·dsimp only
   rw[if_pos (by omega)]
   exact aq ⟨rfl,l,rfl,b,hu⟩
 ·rintro c st (⟨g,rfl,rfl⟩ | ⟨g,rfl,l,rfl,b,hu⟩)
  ·lia
  ·exact ⟨rfl,l,rfl,b,hu⟩
 ·rintro c st ⟨rfl,l,rfl,b,hu⟩
  ·dsimp only
   refine aj (b7 (λx c st=>c=(none,())/\st=ay l [(0,n,0)] 7) ⟨rfl,rfl⟩ ?_ ?_)
   ·rintro x c st _ _ ⟨rfl,rfl⟩
    refine aj ⟨ay l [(0,n,0)] 7,ay l [(0,n,0)] 7,rfl,?_⟩
    dsimp only
    rw[if_pos (show (pendingOf (ay l [(0,n,0)] 7)).size<=1 from Fg 1)]
    refine aq ?_
    exact aq ⟨l,rfl,b,hu⟩
   ·rintro c st ⟨rfl,rfl⟩
    exact aq ⟨l,rfl,b,hu⟩
end L2
end
section
namespace L2
open PySem PySem.Spec PyProof.Rows
theorem kJ {ns:List (List Int)} {i:Nat} (h:i < ns.length):ns[i]?=some (ns.getD i []):=by
 rw[List.getD_eq_getElem?_getD,E6 h]
 rfl
theorem Cr {ns:List (List Int)} (nd:∀ i j:Nat,i < ns.length->j < ns.length->ns.getD i []=ns.getD j []->i=j):Tot (fL ns) (λa b=>HT.lexLt (ns.getD a []) (ns.getD b [])) ns.length where
 is a b ha hb:=by
  unfold fL
  rw[kJ ha,kJ hb]
 asym a b h:=by
  cases d:HT.lexLt (ns.getD b []) (ns.getD a []) with
  | false=>rfl
  | true =>
   have:=jK h d
   rw[qo] at this
   cases this
 tot a b ha hb hab h:=by
  cases d:HT.lexLt (ns.getD b []) (ns.getD a []) with
  | true=>rfl
  | false=>exact absurd (nd a b ha hb (tX h d)) hab
 trans a b c h1 h2:=jK h1 h2
theorem kX {ns:List (List Int)} (d:ns.length < 64) (nd:∀ i j:Nat,i < ns.length->j < ns.length->ns.getD i []=ns.getD j []->i=j):∃ is,bb ns=some is/\is.Perm (List.range ns.length)/\∀ i j a b:Nat,i < j->is[i]?=some a->is[j]?=some b->HT.lexLt (ns.getD a []) (ns.getD b [])=true:=by
 by_cases h2:2<=ns.length
 ·obtain ⟨_,st,e,l,rfl,f,hu⟩:=z8 (Cr nd) h2 d
  refine ⟨l,j0 rfl e,f,λi j a b c k g=>hu i j a b c ?_ k g⟩
  have:=(Fb.mp g).1
  rw[f.length_eq,List.length_range] at this
  exact this
 ·match ns,h2 with
  | [],_=>exact ⟨[],iH,.refl _,λi j a b _ h=>by simp at h⟩
  | [n],_ =>
   refine ⟨[0],iG n,.refl _,λi j a b c h1 h2=>?_⟩
   have:=(Fb.mp h2).1
   simp at this
   lia
  | _::_::_,h=>simp at h
end L2
end
section
namespace L2
open PySem PySem.Spec PyProof.Rows
section
variable {cmp:Nat->Nat->Option Bool} {lt:Nat->Nat->Bool} {n:Nat}
abbrev Dec (cmp:Nat->Nat->Option Bool) (lt:Nat->Nat->Bool) (n:Nat):Prop:=∀ a b,a < n->b < n->cmp a b=some (lt a b)
theorem gb {l:List Nat} (hl:l.Perm (List.range n)) (i j k:Nat):(mirror l.toArray i j k).toList.Perm (List.range n):=by
 have:=mirror_perm l.toArray i j k
 have:(mirror l.toArray i j k).toList.Perm l:=by simpa using Array.perm_iff_toList_perm.mp this
 exact this.trans hl
theorem insW {l:List Nat} {p:List (Nat×Nat×Nat)} {g k lo:Nat} (hl:l.Perm (List.range n)) {Q:ForInStep (Option Bool×Unit)->SortSt->Prop} (h:∀ a,a.Perm (List.range n)->Q (.yield (none,())) (ay a p g)) :
  EvW cmp (do
   moveDown' (0+k) (0+lo)
   pure (ForInStep.yield (none,()))) Q (ay l p g):=by
 rw[xZ7,xZ7]
 refine aj (qB (aq (h _ ?_)))
 have b:(bubble l.toArray k (k - lo)).toList.Perm l:=by
  have:=bubble_perm l.toArray k (k - lo)
  simpa using Array.perm_iff_toList_perm.mp this
 exact b.trans hl
theorem binW (T:Dec cmp lt n) {l:List Nat} {p:List (Nat×Nat×Nat)} {g ok:Nat} (hl:l.Perm (List.range n)) {P:Bool->SortSt->Prop} (h:∀ d,d.Perm (List.range n)->P true (ay d p g)):EvW cmp (binarySort' 0 n ok) P (ay l p g):=by
 rw[binarySort'_eq]
 refine aj (b7 (λk c st=>c=(none,⟨⟩)/\∃ l,st=ay l p g/\l.Perm (List.range n)) ⟨rfl,l,rfl,hl⟩ ?_ ?_)
 ·rintro k c st h1 h2 ⟨rfl,l,rfl,hl⟩
  dsimp only
  obtain ⟨r,o,li⟩:=cT hl
  obtain ⟨key,j⟩:=b9 (l:=l) (i:=k) (by omega)
  have f:=o k key j
  refine aj (b7 (λx c st=>st=ay l p g/\∃ lo hi,c=(none,lo,hi)/\lo<=hi/\hi<=k/\hi - lo<=k - x) ⟨rfl,0,k,rfl,Nat.zero_le _,Fg _,Fg _⟩ ?_ ?_)
  ·rintro x c st _ s ⟨rfl,lo,hi,rfl,a1,a2,q⟩
   dsimp only
   by_cases e:lo ≥ hi
   ·rw[if_pos e]
    exact aq (insW hl λd x1=>⟨rfl,d,rfl,x1⟩)
   ·rw[if_neg e]
    obtain ⟨m,hm⟩:=b9 (l:=l) (i:=(lo+hi) / 2) (by omega)
    refine aj (bW (a:=key) (b:=m) (by rw[xZ7];exact j) (by rw[xZ7];exact hm) (T key m f (o _ m hm)) ?_)
    dsimp only
    cases lt key m with
    | true =>
     rw[if_pos rfl]
     exact aq ⟨rfl,lo,(lo+hi) / 2,rfl,by omega,by omega,by omega⟩
    | false =>
     rw[if_neg (by decide)]
     exact aq ⟨rfl,(lo+hi) / 2+1,hi,rfl,by omega,by omega,by omega⟩
  ·rintro c st ⟨rfl,lo,hi,rfl,a1,a2,q⟩
   dsimp only
   exact insW hl λd x1=>⟨rfl,d,rfl,x1⟩
 ·rintro c st ⟨rfl,l,rfl,hl⟩
  dsimp only
  exact aq (h l hl)
theorem ascW (T:Dec cmp lt n) {l:List Nat} {p:List (Nat×Nat×Nat)} {g a:Nat} (hl:l.Perm (List.range n)) (h1:1<=a) (b:a<=n) {P:AscSt->SortSt->Prop} (h:∀ m,a<=m->m<=n->P (none,m) (ay l p g)):EvW cmp (ascLoop a n) P (ay l p g):=by
 obtain ⟨f,e,li⟩:=cT hl
 unfold ascLoop
 refine b7 (λx c st=>c=(none,x)/\st=ay l p g) ⟨rfl,rfl⟩ ?_ ?_
 ·rintro x c st h2 h3 ⟨rfl,rfl⟩
  dsimp only
  obtain ⟨v,d⟩:=b9 (l:=l) (i:=x) (by omega)
  obtain ⟨u,hu⟩:=b9 (l:=l) (i:=x - 1) (by omega)
  refine aj (bW d hu (T v u (e _ _ d) (e _ _ hu)) ?_)
  dsimp only
  cases lt v u with
  | true =>
   rw[if_pos rfl]
   exact aq (h x h2 (by omega))
  | false =>
   rw[if_neg (by decide)]
   exact aq ⟨rfl,rfl⟩
 ·rintro c st ⟨rfl,rfl⟩
  rw[show max a n=n by omega]
  exact h n b (Fg _)
theorem BM (T:Dec cmp lt n) {l:List Nat} {p:List (Nat×Nat×Nat)} {g m:Nat} (hl:l.Perm (List.range n)) (h1:1<=m) (hm:m<=n) {P:Option Nat->SortSt->Prop} (h:∀ a q,a.Perm (List.range n)->1<=q->q<=n->P (some q) (ay a p g)):EvW cmp (tail3 m n) P (ay l p g):=by
 unfold tail3
 refine aj (ju (aj (ascW T (gb hl _ _ _) h1 hm λq h3 b=>?_)))
 exact aq (h _ q (gb hl _ _ _) (by omega) b)
theorem Ch (T:Dec cmp lt n) {l:List Nat} {p:List (Nat×Nat×Nat)} {g m:Nat} (hl:l.Perm (List.range n)) (h1:1<=m) (hm:m < n) {P:Option Nat->SortSt->Prop} (h:∀ j q,j.Perm (List.range n)->1<=q->q<=n->P (some q) (ay j p g)):EvW cmp (descPart m n) P (ay l p g):=by
 unfold descPart
 refine aj (jt (aj ?_))
 have fin:∀ (l:List Nat) (x q:Nat),l.Perm (List.range n)->1<=x->x<=n->∀ {r:Option (Option Nat)×Nat×Nat},r=(none,x,q)->EvW cmp (match r.fst with
   | some r=>pure r
   | none=>if r.snd.snd > 0 then do
      reverseSlice' (r.snd.fst - (r.snd.snd+1)) r.snd.fst
      tail3 r.snd.fst n
     else tail3 r.snd.fst n) P (ay l p g):=λl x q hl k o r s=>by
  subst s
  dsimp only
  split
  ·exact aj (ju (BM T (gb hl _ _ _) k o h))
  ·exact BM T hl k o h
 unfold descLoop
 refine b7 (λx c st=>∃ q l,c=(none,x,q)/\st=ay l p g/\l.Perm (List.range n)) ⟨0,l,rfl,rfl,hl⟩ ?_ ?_
 ·rintro x c st h3 t ⟨q,l,rfl,rfl,hl⟩
  dsimp only
  obtain ⟨u,e,li⟩:=cT hl
  obtain ⟨b,d⟩:=b9 (l:=l) (i:=x) (by omega)
  obtain ⟨a,f⟩:=b9 (l:=l) (i:=x - 1) (by omega)
  refine aj (bW d f (T b a (e _ _ d) (e _ _ f)) ?_)
  dsimp only
  cases lt b a with
  | true =>
   rw[if_pos rfl]
   split
   ·exact aj (ju (aq ⟨0,_,rfl,rfl,gb hl _ _ _⟩))
   ·exact aq ⟨0,l,rfl,rfl,hl⟩
  | false =>
   rw[if_neg (by decide)]
   refine aj (bW f d (T a b (e _ _ f) (e _ _ d)) ?_)
   dsimp only
   cases lt a b with
   | true =>
    rw[if_pos rfl]
    exact aq (fin l x q hl (by omega) (by omega) rfl)
   | false =>
    rw[if_neg (by decide)]
    exact aq ⟨q+1,l,rfl,rfl,hl⟩
 ·rintro c st ⟨q,l,rfl,rfl,hl⟩
  exact fin l _ q hl (by omega) (by omega) rfl
theorem cntW (T:Dec cmp lt n) {l:List Nat} {p:List (Nat×Nat×Nat)} {g:Nat} (hl:l.Perm (List.range n)) (h2:2<=n) {P:Option Nat->SortSt->Prop} (h:∀ b q,b.Perm (List.range n)->1<=q->q<=n->P (some q) (ay b p g)):EvW cmp (countRun' 0 n) P (ay l p g):=by
 obtain ⟨d,c,li⟩:=cT hl
 rw[countRun0_eq]
 refine aj (ascW T hl (Fg _) (by omega) λm h3 a=>?_)
 dsimp only
 by_cases e:m=n
 ·rw[if_pos (by simpa using e)]
  exact aq (h l m hl h3 a)
 ·rw[if_neg (by simpa using e)]
  by_cases e1:m > 1
  ·rw[if_pos e1]
   obtain ⟨w,hw⟩:=b9 (l:=l) (i:=0) (by omega)
   obtain ⟨u,hu⟩:=b9 (l:=l) (i:=m - 1) (by omega)
   refine aj (bW hw hu (T w u (c _ _ hw) (c _ _ hu)) ?_)
   dsimp only
   cases lt w u with
   | true =>
    rw[if_pos rfl]
    exact aq (h l m hl h3 a)
   | false =>
    rw[if_neg (by decide)]
    exact aj (ju (Ch T (gb hl _ _ _) h3 (by omega) h))
  ·rw[if_neg e1]
   exact Ch T hl h3 (by omega) h
theorem sortW (T:Dec cmp lt n) (h2:2<=n) (f:n < 64):EvW cmp sortRuns' (λ_ st=>∃ a,st=ay a [(0,n,0)] 7/\a.Perm (List.range n)) (ay (List.range n) [] 7):=by
 rw[sortRuns'_eq]
 refine aj ⟨ay (List.range n) [] 7,ay (List.range n) [] 7,rfl,?_⟩
 have hz:(arrOf (ay (List.range n) [] 7)).size=n:=by
  show ((List.range n).map λi=>((Value.ref i,Value.ref i):Keyed)).toArray.size=n
  simp
 dsimp only
 rw[hz,jg n f (by omega)]
 refine aj (qA (P:=λc st=>c=(none,n)/\∃ a,st=ay a [(0,n,0)] 7/\a.Perm (List.range n)) (b7 (λx c st=>(x=0/\c=(none,0)/\st=ay (List.range n) [] 7)\/(1<=x/\c=(none,n)/\∃ a,st=ay a [(0,n,0)] 7/\a.Perm (List.range n))) (.inl ⟨rfl,rfl,rfl⟩) ?_ ?_) ?_)
 ·rintro x c st h3 j (⟨rfl,rfl,rfl⟩ | ⟨g,rfl,l,rfl,b⟩)
  ·dsimp only
   rw[if_neg (by lia)]
   refine aj (cntW T (List.Perm.refl _) h2 λl q hl g k=>?_)
   dsimp only
   by_cases h:q < n
   ·rw[if_pos h]
    refine aj (jt (aj ?_))
    rw[show min (n - 0) n=n by omega]
    refine binW T hl λa d=>?_
    rw[if_neg (by decide)]
    refine aj ⟨ay a [] 7,ay a [] 7,rfl,?_⟩
    refine aj ⟨⟨⟩,ay a [(0,n,0)] 7,rfl,?_⟩
    exact aq (.inr ⟨by omega,by rw[xZ7],a,rfl,d⟩)
   ·rw[if_neg h]
    have e:q=n:=by omega
    subst e
    refine aj ⟨ay l [] 7,ay l [] 7,rfl,?_⟩
    refine aj ⟨⟨⟩,ay l [(0,q,0)] 7,rfl,?_⟩
    exact aq (.inr ⟨by omega,by rw[xZ7],l,rfl,hl⟩)
  ·dsimp only
   rw[if_pos (by omega)]
   exact aq ⟨rfl,l,rfl,b⟩
 ·rintro c st (⟨g,rfl,rfl⟩ | ⟨g,rfl,l,rfl,b⟩)
  ·lia
  ·exact ⟨rfl,l,rfl,b⟩
 ·rintro c st ⟨rfl,l,rfl,b⟩
  ·dsimp only
   refine aj (b7 (λx c st=>c=(none,())/\st=ay l [(0,n,0)] 7) ⟨rfl,rfl⟩ ?_ ?_)
   ·rintro x c st _ _ ⟨rfl,rfl⟩
    refine aj ⟨ay l [(0,n,0)] 7,ay l [(0,n,0)] 7,rfl,?_⟩
    dsimp only
    rw[if_pos (show (pendingOf (ay l [(0,n,0)] 7)).size<=1 from Fg 1)]
    refine aq ?_
    exact aq ⟨l,rfl,b⟩
   ·rintro c st ⟨rfl,rfl⟩
    exact aq ⟨l,rfl,b⟩
end
theorem nU {ns:List (List Int)} (c:ns.length < 64):∃ is,bb ns=some is/\is.Perm (List.range ns.length):=by
 by_cases h2:2<=ns.length
 ·have T:Dec (fL ns) (λa b=>HT.lexLt (ns.getD a []) (ns.getD b [])) ns.length:=λa b g f=>by
   unfold fL
   rw[kJ g,kJ f]
  obtain ⟨_,st,e,l,rfl,d⟩:=sortW T h2 c
  exact ⟨l,j0 rfl e,d⟩
 ·match ns,h2 with
  | [],_=>exact ⟨[],iH,.refl _⟩
  | [n],_=>exact ⟨[0],iG n,.refl _⟩
  | _::_::_,h=>simp at h
end L2
end
section
namespace L3
open PySem L2
end L3
end
section
namespace L3
open PySem L2
def kP:Key->PyData
 | .inl i=>.int i
 | .inr x=>.str x
def d1 {α:Type}:List (α×D)->Option (α×Int)
 | [(k,.int i)]=>some (k,i)
 | _=>none
theorem Ci {i:Int} (h:d1 l=some (k,i)):l=[(k,.int i)]:=by
 unfold d1 at h
 split at h
 ·cases h;rfl
 ·cases h
def sI (K:FG):Prop:=∃ ob,K.lookup sysModules=some ob/\∀ vs n,ob.data≠.seq vs n
set_option tactic.hygienic true in
theorem CN {K:FG} (e:nQ K=true):sI K:=by
 unfold nQ at e
 split at e
 ·rename_i h;exact ⟨_,h,λ_ _ z=>by cases z⟩
 ·cases e
mutual
def pyN:D->Option PyData
 | .non=>some .none
 | .bl b=>some (.bool b)
 | .int i=>some (.int i)
 | .str x=>some (.str x)
 | .tup xs=>(oq xs).map .tuple
 | .lst xs=>(oq xs).map .list
 | .dk kvs=>(d1 kvs).map λp=>.dict [(kP p.1,.int p.2)]
 | .dt kvs=>(d1 kvs).map λp=>.dict [(.tuple (p.1.map kP),.int p.2)]
 | _=>none
def oq:List D->Option (List PyData)
 | []=>some []
 | d::ds=>match pyN d,oq ds with
  | some p,some ps=>some (p::ps)
  | _,_=>none
end
def RdN (H:Hp) (v:V) (p:PyData):Prop:=∀ (X:Cx) (pins:List (Addr×Obj)) (σ:St) (s:Shared),sI X.K->Inv X pins σ H s->∀ u,RelV v u->∃ as,Reads s.heap u p as/\sysModules ∉ as
def RdNs (H:Hp) (vs:List V) (ps:List PyData):Prop:=∀ (X:Cx) (pins:List (Addr×Obj)) (σ:St) (s:Shared),sI X.K->Inv X pins σ H s->∀ us,Vals vs us->∃ as,ReadsAll s.heap us ps as/\sysModules ∉ as
theorem jN:∀ {a:List Key} {us:List Value},Vals (a.map kV) us->ReadsAll h us (a.map kP) []
 | [],_,.nil=>.nil
 | .inl i::a,_,.cons r rs=>by
  obtain ⟨t,rfl⟩:=r
  exact .cons (as:=[]) (bs:=[]) (.int i t) (jN rs)
 | .inr x::a,_,.cons r rs=>by
  obtain ⟨t,rfl⟩:=r
  exact .cons (as:=[]) (bs:=[]) (.str x t) (jN rs)
theorem tO {α:Type} {k:α} {i:Int} {ps:List (α×V)} (b:∀ v L,R (.int i) v L->v=.int i) (h1:[k]=ps.map (·.1)) (h2:Reps R [.int i] (ps.map (·.2)) L):ps=[(k,.int i)]:=by
 match ps,h1,h2 with
 | [(k',v)],h1,.cons a _ =>
  have:=b _ _ a
  subst this
  cases h1
  rfl
section
variable {K:FG} {H:Hp} {d:D} {v:V} {L:List Addr}
set_option tactic.hygienic true in
theorem Rep.rdN (r:Rep K H d v L):∀ p,pyN d=some p->RdN H v p:=by
 refine Rep.rec (motive_1:=λd v _ _=>∀ p,pyN d=some p->RdN H v p) (motive_2:=λds vs _ _=>∀ ps,oq ds=some ps->RdNs H vs ps) ?_ ?_ ?_ ?_ ?_ ?_ ?_ ?_ ?_ ?_ ?_ ?_ ?_ r
 ·intro p e;unfold pyN at e;cases e;intro X pins σ s f I u hu;cases (show u=Value.none from hu);exact ⟨[],.none,by simp⟩
 ·intro b p e;unfold pyN at e;cases e;intro X pins σ s f I u hu;cases (show u=Value.bool b from hu);exact ⟨[],.bool b,by simp⟩
 ·intro i p e;unfold pyN at e;cases e;intro X pins σ s f I u hu;obtain ⟨t,rfl⟩:=hu;exact ⟨[],.int i t,by simp⟩
 ·intro x p e;unfold pyN at e;cases e;intro X pins σ s f I u hu;obtain ⟨t,rfl⟩:=hu;exact ⟨[],.str x t,by simp⟩
 ·intro xs a vs L h _ y p e
  unfold pyN at e
  obtain ⟨ps,e1,rfl⟩:=E2.mp e
  intro X pins σ s f I u hu
  cases (show u=Value.ref a from hu)
  obtain ⟨its,m,⟨o,e,c,n,d⟩,_⟩:=I.tuple (SqT.of h)
  obtain ⟨as,q,nm⟩:=y ps e1 X pins σ s f I _ m
  exact ⟨_,.tuple e c d (by simpa using q),nm⟩
 ·intro xs a vs L h _ y p e
  unfold pyN at e
  obtain ⟨ps,e1,rfl⟩:=E2.mp e
  intro X pins σ s f I u hu
  cases (show u=Value.ref a from hu)
  obtain ⟨its,m,⟨o,n,e,c,_,d⟩,_⟩:=I.list (SqL.of h)
  obtain ⟨as,q,nm⟩:=y ps e1 X pins σ s f I _ m
  refine ⟨_,.list e c d (by simpa using q),λz=>?_⟩
  rcases E5.mp z with z | z
  ·obtain ⟨ob,J,T⟩:=f
   have:=I.kIn _ _ J
   rw[z,e] at this
   cases this
   exact T _ _ d
  ·exact nm z
 ·intro xs a vs L h _ y p e;unfold pyN at e;exact nsE e
 ·intro kvs a ps L h B rs _ p e
  unfold pyN at e
  obtain ⟨⟨k,i⟩,e1,rfl⟩:=E2.mp e
  have D:=Ci e1
  subst D
  clear e e1
  have:=tO (λv L (q:Rep K H (.int i) v L)=>q.int_inv) B rs
  subst this
  intro X pins σ s f I u hu
  cases (show u=Value.ref a from hu)
  obtain ⟨_,hm,vs,C,o,es,S,g,xd,hd,_,pr,_,_⟩:=(show ObjOk X.prog X.w H s.heap a (.dK [(k,.int i)]) from I.hok a _ h)
  cases C with
  | @cons _ p0 _ _ c0 z0 =>
   cases z0
   obtain ⟨k',v'⟩:=p0
   obtain ⟨e1,e2⟩:=c0
   subst e1
   obtain ⟨t,rfl⟩:=e2
   generalize l:es.toList=el at pr
   cases pr with
   | cons q1 q2 q3 =>
    cases q3
    rename_i E
    refine ⟨_,.dict (as:=[]) (bs:=[]) g xd.1 hd ?_ ?_,?_⟩
    ·rw[l]
     show ReadsAll s.heap [E.key] [kP k] []
     rcases aZ q1 with ⟨j,t',rfl,A⟩ | ⟨x,t',rfl,A⟩
     ·rw[A];exact .cons (as:=[]) (bs:=[]) (.int _ _) .nil
     ·rw[A];exact .cons (as:=[]) (bs:=[]) (.str _ _) .nil
    ·rw[l]
     show ReadsAll s.heap [E.val] [.int i] []
     rw[q2];exact .cons (as:=[]) (bs:=[]) (.int _ _) .nil
    ·simp only[List.append_nil,Fz]
     intro z
     rw[z] at hm
     simp at hm
 ·intro kvs a ps L h B rs _ p e
  unfold pyN at e
  obtain ⟨⟨k,i⟩,e1,rfl⟩:=E2.mp e
  have D:=Ci e1
  subst D
  clear e e1
  have:=tO (λv L (q:Rep K H (.int i) v L)=>q.int_inv) B rs
  subst this
  intro X pins σ s f I u hu
  cases (show u=Value.ref a from hu)
  obtain ⟨_,hm,xs,C,o,es,S,g,xd,hd,l,_⟩:=(show ObjOk X.prog X.w H s.heap a (.dT [(k,.int i)]) from I.hok a _ h)
  cases C with
  | @cons _ p0 _ _ c0 z0 =>
   cases z0
   obtain ⟨k',b,v'⟩:=p0
   obtain ⟨e1,e3,e2⟩:=c0
   subst e1
   obtain ⟨t,rfl⟩:=e2
   obtain ⟨its,m,⟨o',Q,R,U,d'⟩,_⟩:=I.tuple (SqT.of e3)
   refine ⟨_,.dict (as:=[]) (bs:=[]) g xd.1 hd ?_ ?_,?_⟩
   ·rw[l]
    show ReadsAll s.heap [.ref b] [.tuple (k.map kP)] []
    exact .cons (as:=[]) (bs:=[]) (.tuple Q R d' (by simpa using jN m)) .nil
   ·rw[l]
    show ReadsAll s.heap [.int i t] [.int i] []
    exact .cons (as:=[]) (bs:=[]) (.int _ _) .nil
   ·simp only[List.append_nil,Fz]
    intro z
    rw[z] at hm
    simp at hm
 ·intros;rename_i e;unfold pyN at e;exact nsE e
 ·intros;rename_i e;unfold pyN at e;exact nsE e
 ·intro ps e;unfold oq at e;cases e;intro X pins σ s f I us hu;cases hu;exact ⟨[],.nil,by simp⟩
 ·intro d v L ds vs L' _ _ M N ps e
  unfold oq at e
  cases h1:pyN d with
  | none=>rw[h1] at e;exact nsE e
  | some p =>
   cases h2:oq ds with
   | none=>rw[h1,h2] at e;exact nsE e
   | some qs =>
    rw[h1,h2] at e
    cases e
    intro X pins σ s f I us hu
    cases hu with
    | cons a b =>
     obtain ⟨as,P,F⟩:=M p h1 X pins σ s f I _ a
     obtain ⟨bs,O,G⟩:=N qs h2 X pins σ s f I _ b
     exact ⟨_,.cons P O,by simp[F,G]⟩
end
def k6 (p:PyData):Bool:=p.showable && decide (p.depth<=16) && decide (p.shown.length<=16777216)
def pyA (d:D):Option PyData:=match pyD d with
 | some p=>if p.hasDict then none else some p
 | none=>pyN d
def rq (K:FG):List V->Hp->VK->Prop:=λxs H Q=>(xs=[.non]/\Q (.str "None") H)\/(∃ b,xs=[.bl b]/\Q (.str (if b then "True" else "False")) H)\/(∃ i:Int,xs=[.int i]/\i.natAbs.log2 < 1920/\Q (.str (mi i)) H) \/
 (∃ t:Str,xs=[.str t]/\(reprText t).length<=sizeLine/\Q (.str (reprText t)) H) \/
 ∃ (a:Addr) (p:PyData),xs=[.ref a]/\(∀ (X:Cx) (pins:List (Addr×Obj)) (σ:St) (s:Shared),X.K=K->Inv X pins σ H s->∀ u,RelV (.ref a) u->∃ as,Reads s.heap u p as/\(p.hasDict=true->sysModules ∉ as))/\k6 p=true/\Q (.str p.shown) H
theorem o4 (j:X.A.guards=some []) (hu:X.A.units+64 < cLine):bN X (.builtin "repr") (rq X.K):=by
 intro pins s σ H xs us Q I d h
 rcases h with ⟨rfl,q⟩ | ⟨b,rfl,q⟩ | ⟨i,rfl,hi,q⟩ | ⟨t,rfl,hl,q⟩ | ⟨a,p,rfl,n,f,q⟩
 ·obtain ⟨u,rfl,c⟩:=cW d
  cases (show u=Value.none from c)
  exact PySem.P.repr_of_none ⟨.str "None",H,I.tok _,⟨_,rfl⟩,q⟩
 ·obtain ⟨u,rfl,c⟩:=cW d
  cases (show u=Value.bool b from c)
  exact PySem.P.repr_of_bool ⟨.str (if b then "True" else "False"),H,I.tok _,⟨_,rfl⟩,q⟩
 ·obtain ⟨u,rfl,c⟩:=cW d
  obtain ⟨t,rfl⟩:=c
  exact PySem.P.repr_of_int hi ⟨.str (mi i),H,I.tok _,⟨_,rfl⟩,q⟩
 ·obtain ⟨u,rfl,c⟩:=cW d
  obtain ⟨t',rfl⟩:=c
  exact PySem.P.repr_of_str ⟨.str _,H,I.tok _,⟨_,rfl⟩,q⟩ hl
 ·obtain ⟨u,rfl,c⟩:=cW d
  obtain ⟨as,l,nm⟩:=n X pins σ s rfl I u c
  cases (show u=Value.ref a from c)
  unfold k6 at f
  obtain ⟨h3,m⟩:=Bool.and_eq_true_iff.mp f
  obtain ⟨o,g⟩:=Bool.and_eq_true_iff.mp h3
  have g:=of_decide_eq_true g
  exact repr_of_reads' l o nm j (by lia) (λ_ _ e=>e) (λh' r tk k=>⟨.str p.shown,H,I.kept k,⟨_,rfl⟩,q⟩) (by rw[sizeLine_eq];exact of_decide_eq_true m)
def shA (d:D):Option (D×Fl):=(pyA d).bind λp=>if k6 p=true then some (.str p.shown,.z) else none
def jE:D->Option (D×Fl)
 | .non=>some (.str "None",.z)
 | .bl b=>some (.str (if b then "True" else "False"),.z)
 | .int i=>if i.natAbs.log2 < 1920 then some (.str (mi i),.z) else none
 | .str t=>if (reprText t).length<=16777216 then some (.str (reprText t),.z) else none
 | .exc _ _=>none
 | d=>shA d
abbrev iN:=c1 jE
theorem Dl (c:sI K) (r:Rep K H d v L) (e:pyA d=some p):∀ (X:Cx) (pins:List (Addr×Obj)) (σ:St) (s:Shared),X.K=K->Inv X pins σ H s->∀ u,RelV v u->∃ as,Reads s.heap u p as/\(p.hasDict=true->sysModules ∉ as):=by
 intro X pins σ s b I u hu
 unfold pyA at e
 cases h:pyD d with
 | none =>
  rw[h] at e
  obtain ⟨as,a,f⟩:=r.rdN p e X pins σ s (b ▸ c) I u hu
  exact ⟨as,a,λ_=>f⟩
 | some q =>
  rw[h] at e
  subst b
  obtain ⟨as,a⟩:=DV.reads I (r.dv q h) hu
  have e:(if q.hasDict then none else some q)=some p:=e
  cases hd:q.hasDict with
  | true=>rw[hd] at e;exact nsE e
  | false =>
   rw[hd] at e
   cases (FL e)
   exact ⟨as,a,λz=>by rw[hd] at z;cases z⟩
theorem zh (m:sI K):cH K (rq K) iN:=λys H Q p ra e q=>by
 obtain ⟨y,rfl,f⟩:=gw e
 have h:=(ra y EW).rep
 obtain ⟨da,l,o,n⟩:=y
 dsimp only at h f
 have big:∀ a,l=.ref a->shA da=some p->rq K [l] H λv H'=>Q v H':=λa g f=>by
  obtain ⟨d,h1,h2⟩:=Fy.mp f
  by_cases j:k6 d=true
  ·rw[if_pos j] at h2
   have k:=FL h2
   refine .inr (.inr (.inr (.inr ⟨a,d,congrArg (λx=>[x]) g,?_,j,q ⟨.str d.shown,_,[],.z⟩ H (cF (.str _)) (congrArg Prod.fst k) (congrArg Prod.snd k)⟩)))
   rw[<- g]
   exact Dl m h h1
  ·rw[if_neg j] at h2;exact nsE h2
 cases da with
 | non =>
  obtain ⟨rfl,rfl⟩:=h.view
  cases f
  exact .inl ⟨rfl,q ⟨_,_,[],.z⟩ H (cF (.str _)) rfl rfl⟩
 | bl b =>
  obtain ⟨rfl,rfl⟩:=h.view
  cases f
  exact .inr (.inl ⟨b,rfl,q ⟨_,_,[],.z⟩ H (cF (.str _)) rfl rfl⟩)
 | int i =>
  obtain ⟨rfl,rfl⟩:=h.view
  have f:(if i.natAbs.log2 < 1920 then some ((.str (mi i),.z):D×Fl) else none)=some p:=f
  by_cases hl:i.natAbs.log2 < 1920
  ·rw[if_pos hl] at f
   cases f
   exact .inr (.inr (.inl ⟨i,rfl,hl,q ⟨_,_,[],.z⟩ H (cF (.str _)) rfl rfl⟩))
  ·rw[if_neg hl] at f;exact nsE f
 | str t =>
  obtain ⟨rfl,rfl⟩:=h.view
  have f:(if (reprText t).length<=16777216 then some ((.str (reprText t),.z):D×Fl) else none)=some p:=f
  by_cases hl:(reprText t).length<=16777216
  ·rw[if_pos hl] at f
   cases f
   exact .inr (.inr (.inr (.inl ⟨t,rfl,by rw[sizeLine_eq];exact hl,q ⟨_,_,[],.z⟩ H (cF (.str _)) rfl rfl⟩)))
  ·rw[if_neg hl] at f;exact nsE f
 | tup xs=>obtain ⟨a,vs,g,_⟩:=h.view;exact big a g f
 | lst xs=>obtain ⟨a,vs,L',g,_⟩:=h.view;exact big a g f
 | fls xs=>obtain ⟨a,vs,g,_⟩:=h.view;exact big a g f
 | dk kvs=>obtain ⟨a,ps,L',g,_⟩:=h.view;exact big a g f
 | dt kvs=>obtain ⟨a,ps,L',g,_⟩:=h.view;exact big a g f
 | exc c fs=>exact nsE f
end L3
end
section
namespace L2
open PySem PyProof.Rows
section
variable {prog:Program} {w:World} {A:Around} {E:Value->Shared->Prop}
theorem uR {S I l:Addr} {items:Array Value} {R:Result->Shared->Prop} (z:A.handled=none) (f:I≠S) (r:l≠S) (q:l≠I) :
  ∀ (k i:Nat) (s:Shared) (ns ms:List Int),items.size - i=k->s.heap.IsListIter I l i->s.heap.IsList l items->IntsAre (items.toList.drop i) ms->SetL prog w s.heap S ns->ns.length+ms.length+1 < scanBound ->
   (∀ h' tk,SetL prog w h' S (ms.foldl met ns)->(∀ b o,b≠S->b≠I->s.heap.get? b=some o->h'.get? b=some o)->R (.ok (.ret .none)) { s with heap:=h',toks:=tk }) ->
   codeAny (model prog w) A (.builtin "set.update.loop" ⟨[.ref S,.ref I],[]⟩) R s:=by
 intro k
 induction k with
 | zero =>
  intro i s ns ms y hi hl a h g m
  refine codeAny_builtin F.entry_set_update_loop ?_
  rw[Around.under_plainId F.plain_set_update_loop _]
  have e:ms=[]:=by
   rw[List.drop_eq_nil_of_le (by simp;lia)] at a
   cases a
   rfl
  subst e
  refine ET (wpAny_pyNext_list_end (s:=s) z hi hl (Array.getElem?_eq_none (by omega)) λh' d=>?_)
  exact EU (m h' s.toks (h.keep λo e=>d _ _ (Ne.symm f) e) λb o _ c e=>d _ _ c e)
 | succ k ih =>
  intro i s ns ms y hi hl a h g m
  have lt:i < items.size:=by lia
  refine codeAny_builtin F.entry_set_update_loop ?_
  rw[Around.under_plainId F.plain_set_update_loop _]
  rw[List.drop_eq_getElem_cons (by simpa using lt)] at a
  generalize x:items.toList[i]=v at a
  have d:items[i]?=some v:=by rw[<- x,Array.getElem?_eq_getElem lt,Array.getElem_toList]
  cases a with
  | @cons n t _ ms' hr =>
   refine ET (wpAny_pyNext_list_item (s:=s) hi hl d λh1 p s1=>?_)
   have C:SetL prog w h1 S ns:=h.keep λo e=>s1.extBut _ _ (Ne.symm f) e
   have u:h1.IsList l items:=hl.extBut s1.extBut q
   refine ET (EV (EV (ET ((intKind prog w).pyHash (k:=n) (intKind_is prog w n t) ?_))))
   refine wQ (s:={ s with heap:=h1,toks:=s.toks+1 }) C (by simp only[Fu] at g;lia) λb h2 s2 D=>?_
   refine EU ⟨plainId_quiet F.plain_set_update_loop _,?_⟩
   have E:=tR ns n
   refine ih (i+1) { s with heap:=h2,toks:=s.toks+1 } (met ns n) ms' (by lia) (p.extBut s2.extBut f) (u.extBut s2.extBut r) hr D (by simp only[Fu] at g;lia) λh3 j B k3=>?_
   exact m h3 j B λb o c1 c2 e=>k3 b o c1 c2 (s2.extBut _ _ c1 (s1.extBut _ _ c2 e))
variable {s:Shared}
theorem o3 {l:Addr} {items:Array Value} {ns:List Int} {Q:Value->Shared->Prop} (B:A.handled=none) (hl:s.heap.IsList l items) (hi:IntsAre items.toList ns) (H:items.size+1 < scanBound)
  (h:∀ h' tk,SetL prog w h' s.heap.objs.size (ns.foldl met [])->(∀ b o,s.heap.get? b=some o->h'.get? b=some o)->Q (.ref s.heap.objs.size) { s with heap:=h',toks:=tk }) :
  wpAny (model prog w) A (call (.type "set") [.ref l]) Q E s:=by
 obtain ⟨c,tl,r⟩:=F.called_set.mro
 have made:=F.called_set.made
 have below:=F.called_set.sub
 have j:=F.called_set.notType
 have C:=F.called_set.canCreate
 have one:=F.typeCall_set_1 (.ref l)
 obtain ⟨i,g,d,tk,os⟩:=s
 refine wpAny_call (codeAny_of_tree (EU ⟨Code.quiet_builtin _ (by decide +kernel),codeAny_builtin F.entry_type_call ?_⟩))
 rw[Around.under_plain (weight_type_call_type "set" [.ref l] []) rfl]
 repeat (any_goals (first | assumption | wp_step))
 refine codeAny_mono (A0 (E:=E) (Q:=λv u=>v=.ref i.objs.size/\u=⟨i.push { cls:=.type "set",dict:=none,data:=.set #[] 0 (.fresh 0 0 (jm w)) },g,d,tk,os⟩) λo e=>by subst e;exact ⟨rfl,rfl⟩) ?_
 rintro (e | f) u p
 ·exact p
 cases f with
 | ret v =>
  obtain ⟨rfl,rfl⟩:=p
  have got:(i.push { cls:=.type "set",dict:=none,data:=.set #[] 0 (.fresh 0 0 (jm w)) }).get? i.objs.size=some { cls:=.type "set",dict:=none,data:=.set #[] 0 (.fresh 0 0 (jm w)) }:=E9 _ rfl
  have ty:(⟨i.push { cls:=.type "set",dict:=none,data:=.set #[] 0 (.fresh 0 0 (jm w)) },g,d,tk,os⟩:Shared).TypeIs (.ref i.objs.size) "set":=⟨_,got,rfl⟩
  have n:(i.push { cls:=.type "set",dict:=none,data:=.set #[] 0 (.fresh 0 0 (jm w)) }).IsList l items:=hl.push _
  refine ET (wpAny_isInstance ty sub_set_self (wpAny_ite_false rfl ?_))
  refine ET (EV (wpAny_callSpecial?_slot ty F.called_set.init (wpAny_call (codeAny_call_builtin F.called_set.init.plain F.entry_set_init (check_set_init_1 ty ?_)))))
  obtain ⟨⟨c2,G,I,s2⟩,h2,t,D,q⟩:=id n
  simp only at t q
  subst t q
  have x:=F.sub_list_set
  have y:=F.sub_list_frozenset
  wp_walk using wpAny_pyIter_list n
  have lt:l < i.objs.size:=by obtain ⟨_,e,_⟩:=hl;exact E7 e
  refine uR (l:=l) (items:=items) (by simpa using B) (by rw[FE];exact Nat.ne_of_gt (Nat.lt_succ_self _)) (Fi lt) (by rw[FE];exact Fi (Nat.lt_succ_of_lt lt)) items.size 0 _ [] ns (by omega) ⟨_,E9 _ rfl,rfl,rfl⟩ (n.push _) (by simpa using hi) ⟨_,#[],0,_,[],EZ _ got,⟨rfl,rfl,rfl⟩,rfl,(λe he=>by simp at he),.nil,List.Perm.refl _,by decide,rfl,⟨List.Pairwise.nil,rfl⟩⟩ (by have:=hi.length;simp at this;simp;omega) λh' m S k=>?_
  wp_walk
  exact h h' m S λb o e=>k b o (λz=>by subst z;exact absurd (E7 e) (Nat.lt_irrefl _)) (λz=>by have a:=E7 e;rw[z,FE] at a;exact absurd a (Nat.not_lt.mpr (Nat.le_succ _))) (EZ _ (EZ _ e))
 | _=>exact p.elim
end
end L2
end
section
namespace L3
open PySem L2 PyProof.Rows
section
variable {K:FG} {G0:Gm} {W0:D->Sto->Prop} {X:Cx}
def lh (X:Cx):List V->Hp->VK->Prop:=λxs H Q=>∃ (l:Addr) (ns:List Int),xs=[.ref l]/\SqL X.K H l (ns.map V.int)/\ns.length < 64/\∀ p,H p=none->Q (.ref p) (upd H p (CS X p (ns.foldl met [])))
theorem vW (g:X.calm=true):bN X (.type "set") (lh X):=by
 intro pins s σ H xs us Q I i h
 obtain ⟨l,ns,rfl,hl,f,q⟩:=h
 obtain ⟨u,rfl,b⟩:=cW i
 cases (show u=Value.ref l from b)
 obtain ⟨its,r,⟨o,n,e,c,_,d⟩,hz⟩:=I.list hl
 have hlen:=r.length
 refine o3 (I.ok.hd g) (show s.heap.IsList l its.toArray from ⟨o,e,c,n,d⟩) (by simpa using lK r) (by simp at hlen ⊢;unfold scanBound;omega) λh' tk S k=>?_
 exact ⟨.ref s.heap.objs.size,_,I.laid (a:=s.heap.objs.size) (o:=CS X s.heap.objs.size (ns.foldl met [])) (t':=tk) k (Fg _) ⟨S,(let ⟨o,_,_,_,_,e,_⟩:=S;⟨o,e⟩),λh1 h2 x k=>x.keep k⟩,rfl,q _ (I.hok.fresh (Fg _))⟩
end
end L3
end
section
namespace L3
open PySem L2 PyProof.Rows
section
variable {K:FG} {G0:Gm} {W0:D->Sto->Prop} {X:Cx}
def lsQ:D->Option (D×Fl)
 | .lst xs=>(bR xs).bind λns=>if ns.length < 64 then some (.int ((ns.foldl met []).length:Int),.z) else none
 | _=>none
abbrev lsD:=c1 lsQ
def BY (X:Cx):List V->Hp->VK->Prop:=λxs H Q=>∃ (p:Addr) (ns:List Int),xs=[.ref p]/\H p=some (CS X p ns)/\ns.length < 64/\Q (.int (ns.length:Int)) H
theorem vZ:bN X (.builtin "len") (BY X):=by
 intro pins s σ H xs us Q I f h
 obtain ⟨p,ns,rfl,i,g,q⟩:=h
 obtain ⟨u,rfl,c⟩:=cW f
 cases (show u=Value.ref p from c)
 obtain ⟨S,_,_⟩:=I.hok p _ i
 obtain ⟨o,es,j,t,ms,d,hex,hd,b,hi,pm,k,hf,l⟩:=S
 have e:es.size=ns.length:=by
  have a:=hi.length
  rw[Fa] at a
  rw[<- pm.length_eq,<- a]
  simp
 refine call_len_set d hex hd hf (by rw[e];omega) ?_
 rw[e]
 exact ⟨.int (ns.length:Int),H,I.tok _,⟨_,rfl⟩,q⟩
def rLS (X:Cx):List V->Hp->VK->Prop:=λxs H Q=>lh X xs H λv H1=>BY X [v] H1 Q
set_option tactic.hygienic true in
theorem EF:cH X.K (rLS X) lsD:=λys H Q p ra e q=>by
 obtain ⟨y,rfl,b⟩:=gw e
 clear e
 have f:=(ra y EW).rep
 obtain ⟨da,r,s,o⟩:=y
 dsimp only at f b
 cases da <;> try (exact nsE b)
 rename_i xs
 obtain ⟨g,vs,n,rfl,m,l,rs⟩:=f.view
 obtain ⟨ns,h1,h2⟩:=Fy.mp b
 split at h2
 ·rename_i d
  cases h2
  have h:=iu h1
  subst h
  have j:=rs.ints
  subst j
  refine ⟨g,ns,rfl,SqL.of l,d,λa k=>⟨a,ns.foldl met [],rfl,aA,?_,?_⟩⟩
  ·have:=qa ns []
   simp at this
   lia
  ·exact q ⟨.int _,.int _,[],.z⟩ _ ⟨bc k,.int _,(λc i=>by cases i),λz=>absurd rfl z⟩ rfl rfl
 ·exact nsE h2
theorem Dg {e:Expr} {m:EM} {x y:Str} {p b pos pos':Pos} (j:X.calm=true) (i:Gl X x) (hm:X.mg x=none) (k:bootBuiltins x=some (.builtin "len")) (f:Gl X y) (g:X.mg y=none) (c:bootBuiltins y=some (.type "set")) (n:RE X G0 W0 e m)
  (l:x≠"__name__") (hd:(x == ("__debug__":Str))=false) (d:y≠"__name__") (a:(y == ("__debug__":Str))=false) (s1:starEach [e] X.env=(false,eval e X.env)::starEach [] X.env)
  (s2:starEach [.Call (.Name y b) [e] [] pos'] X.env=(false,eval (.Call (.Name y b) [e] [] pos') X.env)::starEach [] X.env) :
  RE X G0 W0 (.Call (.Name x p) [.Call (.Name y b) [e] [] pos'] [] pos) (am lsD (aa m ag)) :=
 ⟨PE.imp (je vZ i hm k (fj (mS (vW j) f g c (tq n xr s1).h d a s1 rfl) lx s2) l hd s2 rfl) λσ H Q h=>(kW (r:=rLS X) EF h:tCB (rLS X) (tA X.K G0 W0 (aa m ag)) σ H Q)⟩
end
end L3
end
section
namespace Bn
open PySem L2 L3
abbrev Pd (p:Int×Int):L3.D:=.tup [.int p.1,.int p.2]
theorem dO {bnd:L3.D->Sto->Option Sto} {b:SM} (P:Nat->Sto->Prop):∀ {ds:List L3.D} {ρ:Sto} {k:Nat},P k ρ->(∀ i d ρ,ds[i]?=some d->P (k+i) ρ->∃ ρ1 ρ2,bnd d ρ=some ρ1/\(b ρ1=some (.ok .nx,ρ2)\/b ρ1=some (.ok .ct,ρ2))/\P (k+i+1) ρ2)->∃ ρ',df bnd b ds ρ=some (.ok .nx,ρ')/\P (k+ds.length) ρ'
 | [],ρ,k,h0,_=>⟨ρ,rfl,h0⟩
 | d::ds,ρ,k,h0,hs=>by
  obtain ⟨ρ1,ρ2,e1,a,h1⟩:=hs 0 d ρ rfl h0
  obtain ⟨ρ',c,h3⟩:=dO P (ds:=ds) (ρ:=ρ2) (k:=k+1) h1 λi d ρ hd e=>by
   have:=hs (i+1) d ρ (by simpa using hd) (by rwa [show k+(i+1)=k+1+i by lia])
   rwa [show k+(i+1)+1=k+1+i+1 by lia] at this
  refine ⟨ρ',?_,by rw[Fu,show k+(ds.length+1)=k+1+ds.length by lia];exact h3⟩
  unfold df
  simp only[e1]
  rcases a with a | a <;> simp only[af,a,c]
theorem kK {bnd:L3.D->Sto->Option Sto} {b:SM} (P:Nat->Sto->Prop) (E:Nat->L3.D->Fl->Sto->Prop):∀ {ds:List L3.D} {ρ:Sto} {k:Nat},P k ρ ->
  (∀ i d ρ,ds[i]?=some d->P (k+i) ρ->∃ ρ1 ρ2,bnd d ρ=some ρ1/\(((b ρ1=some (.ok .nx,ρ2)\/b ρ1=some (.ok .ct,ρ2))/\P (k+i+1) ρ2)\/∃ r f,b ρ1=some (.ok (.rt r f),ρ2)/\E (k+i) r f ρ2)) ->
  ∃ ρ',(df bnd b ds ρ=some (.ok .nx,ρ')/\P (k+ds.length) ρ')\/∃ i r f,i < ds.length/\df bnd b ds ρ=some (.ok (.rt r f),ρ')/\E (k+i) r f ρ'
 | [],ρ,k,h0,_=>⟨ρ,.inl ⟨rfl,h0⟩⟩
 | d::ds,ρ,k,h0,hs=>by
  obtain ⟨ρ1,ρ2,e1,h1⟩:=hs 0 d ρ rfl h0
  rcases h1 with ⟨a,h1⟩ | ⟨r,f,a,h1⟩
  ·obtain ⟨ρ',h3⟩:=kK P E (ds:=ds) (ρ:=ρ2) (k:=k+1) h1 λi d ρ hd g=>by
    have:=hs (i+1) d ρ (by simpa using hd) (by rwa [show k+(i+1)=k+1+i by lia])
    rwa [show k+(i+1)=k+1+i by lia] at this
   have e:df bnd b (d::ds) ρ=df bnd b ds ρ2:=by
    conv=>lhs;unfold df
    simp only[e1]
    rcases a with a | a <;> simp only[af,a]
   rcases h3 with ⟨c,h3⟩ | ⟨i,r,f,hi,c,h3⟩
   ·exact ⟨ρ',.inl ⟨e.trans c,by rw[Fu,show k+(ds.length+1)=k+1+ds.length by lia];exact h3⟩⟩
   ·exact ⟨ρ',.inr ⟨i+1,r,f,by simp;lia,e.trans c,by rw[show k+(i+1)=k+1+i by lia];exact h3⟩⟩
  ·refine ⟨ρ2,.inr ⟨0,r,f,by simp,?_,h1⟩⟩
   unfold df
   simp only[e1,af,a,aQ]
theorem dI {lo:Int} {n i:Nat} {d:L3.D} (h:(bh lo n)[i]?=some d):i < n/\d=.int (lo+i):=by
 unfold bh at h
 grind
theorem fZ {lo:Int} {n:Nat}:(bh lo n).length=n:=by unfold bh;simp
theorem BC {xs:List L3.D} {m:Nat} (h:m<=xs.length):eF xs none (some (m:Int))=xs.take m:=by
 have e1:HT.sIx xs.length 0 none=0:=rfl
 have a:HT.sIx xs.length xs.length (some (m:Int))=m:=by
  simp only[HT.sIx]
  split <;> lia
 unfold eF
 rw[e1,a]
 simp
theorem Small.sub {p q:Pt} (b:Small p) (a:Small q):(-18446744073709551616 < q.1 - p.1/\q.1 - p.1 < 18446744073709551616)/\(-18446744073709551616 < q.2 - p.2/\q.2 - p.2 < 18446744073709551616):=by
 obtain ⟨a1,a2,d,c⟩:=b
 obtain ⟨b1,b2,f,e⟩:=a
 exact ⟨⟨by lia,by lia⟩,⟨by lia,by lia⟩⟩
theorem my {c:M3 Bool} {b:SM} (P:Nat->Sto->Prop) (Q:Sto->Prop) {n:Nat} {ρ:Sto} (h0:P n ρ)
  (hs:∀ n ρ,P n ρ->(∃ ρ1,c ρ=some (.ok false,ρ1)/\Q ρ1)\/∃ ρ1 ρ2 m,c ρ=some (.ok true,ρ1)/\(b ρ1=some (.ok .nx,ρ2)\/b ρ1=some (.ok .ct,ρ2))/\m < n/\P m ρ2):∃ ρ',fc c b ρ=some (.ok .nx,ρ')/\Q ρ':=by
 have main:∀ n ρ,P n ρ->∃ ρ',bO c b (n+1) ρ=some (.ok .nx,ρ')/\Q ρ':=by
  intro n
  induction n using Nat.strongRecOn with
  | _ n ih =>
   intro ρ j
   rcases hs n ρ j with ⟨ρ1,e1,d⟩ | ⟨ρ1,ρ2,m,e1,a,hm,g⟩
   ·refine ⟨ρ1,?_,d⟩
    unfold bO
    simp[af,e1,aQ]
   ·obtain ⟨ρ',i,d⟩:=ih m hm ρ2 g
    refine ⟨ρ',?_,d⟩
    have f:=jB (show m+1<=n by lia) i
    unfold bO
    rcases a with a | a <;> simp[af,e1,a,f]
 obtain ⟨ρ',e,d⟩:=main n ρ h0
 refine ⟨ρ',?_,d⟩
 unfold fc
 have h:∃ n r,bO c b n ρ=some r:=⟨_,_,e⟩
 rw[dif_pos h]
 have a:=Classical.choose_spec (Classical.choose_spec h)
 have i:=jB (Nat.le_max_left (n+1) (Classical.choose h)) e
 have f:=jB (Nat.le_max_right (n+1) (Classical.choose h)) a
 rw[i] at f
 exact f.symm
theorem al {a b:SM} {ρ ρ1:Sto} {r:Option (Except L3.D Flw×Sto)} (h1:a ρ=some (.ok .nx,ρ1)) (h2:b ρ1=r):aE a b ρ=r:=by
 simp only[aE,af,h1]
 exact h2
theorem dR {bnd:L3.D->Sto->Option Sto} {c:M3 Bool} {elt:EM} (P:Sto->Prop) (g:L3.D->Bool) (f:L3.D->L3.D):∀ {ds:List L3.D} {τ:Sto},P τ ->
  (∀ d∈ds,∀ τ,P τ->∃ τ1 τ2,bnd d τ=some τ1/\c τ1=some (.ok (g d),τ2)/\(g d=false->P τ2)/\(g d=true->∃ r τ3 p τ4,elt τ2=some (.ok r,τ3)/\cX r τ3=some (.ok p,τ4)/\p.1=f d/\P τ4)) ->
  ∃ τ',bL bnd c elt ds τ=some (.ok ((ds.filter g).map f),τ')/\P τ'
 | [],τ,h0,_=>⟨τ,rfl,h0⟩
 | d::ds,τ,h0,hs=>by
  obtain ⟨τ1,τ2,e1,b,hf,m⟩:=hs d EW τ h0
  cases a:g d with
  | false =>
   obtain ⟨τ',e,i⟩:=dR P g f (ds:=ds) (τ:=τ2) (hf a) λd hd=>hs d (EY _ hd)
   refine ⟨τ',?_,i⟩
   unfold bL
   rw[a] at b
   simp[e1,af,b,e,List.filter_cons,a]
  | true =>
   obtain ⟨r,τ3,p,τ4,k,l,j,h⟩:=m a
   obtain ⟨τ',e,i⟩:=dR P g f (ds:=ds) (τ:=τ4) h λd hd=>hs d (EY _ hd)
   refine ⟨τ',?_,i⟩
   unfold bL
   rw[a] at b
   simp[e1,af,b,k,l,e,List.filter_cons,a,aQ,j]
abbrev Tri:=Nat×Nat×Nat
def iL (i j m:Nat):List Tri:=(List.range m).map λk=>(i,j,j+1+k)
def fN (n i m:Nat):List Tri:=(List.range m).flatMap λj=>iL i (i+1+j) (n - (i+1+j+1))
def mf (n m:Nat):List Tri:=(List.range m).flatMap λi=>fN n i (n - (i+1))
def kU (n:Nat):List Tri:=mf n n
theorem pP (i j m:Nat):(iL i j m).length=m:=by simp[iL]
theorem mM (n i m:Nat):fN n i (m+1)=fN n i m++iL i (i+1+m) (n - (i+1+m+1)):=by simp[fN,List.range_succ,List.flatMap_append]
theorem mO (n m:Nat):mf n (m+1)=mf n m++fN n m (n - (m+1)):=by simp[mf,List.range_succ,List.flatMap_append]
theorem x6 {i j m:Nat} {t:Tri} (h:t∈iL i j m):t.1=i/\t.2.1=j/\j < t.2.2/\t.2.2 < j+1+m:=by
 obtain ⟨k,a,rfl⟩:=Fe.mp h
 grind
theorem qd {n:Nat} {t:Tri} (h:t∈kU n):t.1 < t.2.1/\t.2.1 < t.2.2/\t.2.2 < n:=by
 obtain ⟨i,hi,h⟩:=List.mem_flatMap.mp h
 obtain ⟨j,a,h⟩:=List.mem_flatMap.mp h
 rw[List.mem_range] at hi a
 obtain ⟨h1,h2,h3,b⟩:=x6 h
 exact ⟨by lia,by lia,by lia⟩
theorem sX (n i m:Nat):(fN n i m).length<=m * n:=by
 induction m with
 | zero=>simp[fN]
 | succ m ih=>rw[mM,Ft,pP,Nat.succ_mul];lia
theorem At (n m:Nat):(mf n m).length<=m * (n * n):=by
 induction m with
 | zero=>simp[mf]
 | succ m ih =>
  rw[mO,Ft,Nat.succ_mul]
  have:=sX n m (n - (m+1))
  have h2:(n - (m+1)) * n<=n * n:=Nat.mul_le_mul (by lia) (Fg _)
  lia
theorem rh {n m:Nat} (a:n<=25) (hm:m<=25):(mf n m).length<=15625:=by
 have h1:=At n m
 have h2:n * n<=25 * 25:=Nat.mul_le_mul a a
 have h3:m * (n * n)<=25 * (25 * 25):=Nat.mul_le_mul hm h2
 lia
theorem rg {n i m:Nat} (a:n<=25) (hm:m<=25):(fN n i m).length<=625:=by
 have h1:=sX n i m
 have h2:m * n<=25 * 25:=Nat.mul_le_mul hm a
 lia
abbrev Td (t:Tri):L3.D:=.tup [.int t.1,.int t.2.1,.int t.2.2]
abbrev Shd (ps:List Pt):L3.D:=.tup (ps.map Pd)
theorem c8 {im:IM} {bnd:L3.D->Sto->Option Sto} {c:M3 Bool} {elt:EM} {ix:List (Option Nat)} {ρ ρ1 ρ2 τ:Sto} {rs:List R3} {ds out:List L3.D} (h1:im ρ=some (.ok (rs,ds),ρ1)) (h2:bL bnd c elt ds (qH ix (aG bU (us ρ1 (pls rs)) ρ1))=some (.ok out,τ)) (h3:ds.length < 16777216) (a:uncap ix τ (aG bU (us ρ1 (pls rs)) ρ1)=some ρ2) :
  cy im bnd c elt ix ρ=some (.ok (.val (.lst out) .u),aG eR (us ρ1 (pls rs)) ρ2):=by
 simp[cy,af,h1,h2,h3,a]
theorem kO {xs:List L3.D} {i:Nat} {d:L3.D} (h:xs[i]?=some d):L2.atI xs (i:Int)=some d:=by
 obtain ⟨h1,h2⟩:=Fb.mp h
 simp[L2.atI,ixN,h1,h2]
theorem qM {ps:List Pt} {i:Nat} {p:Pt} (h:ps[i]?=some p):L2.atI (ps.map Pd) (i:Int)=some (Pd p):=kO (by simp[h])
theorem yF {f:List L3.D->Option (List L3.D)} {ms:M3 (List R3)} {ρ ρ1 ρ2:Sto} {rs:List R3} {ds xs:List L3.D} (h1:ms ρ=some (.ok rs,ρ1)) (h2:cG rs ρ1=some (.ok ds,ρ2)) (h3:f ds=some xs):bH f ms ρ=some (.ok ([],xs),ρ2):=by
 simp[bH,af,h1,h2,h3,aT]
theorem kB {a b:Int} (f:-1000<=a/\a<=1000) (e:-1000<=b/\b<=1000) {n:Nat} (d:(b - a).toNat=n):iM [.int a,.int b]=some (bh a n):=by
 have lm:fJ a=true:=Fo (by lia)
 have c:fJ b=true:=Fo (by lia)
 show (if (fJ a && fJ b)=true then some (bh a (b - a).toNat) else none)=_
 rw[lm,c,d]
 exact if_pos rfl
theorem ip {b:Int} (d:-1000<=b/\b<=1000) {n:Nat} (c:b.toNat=n):fO [.int b]=some (bh 0 n):=by
 have a:fJ b=true:=Fo (by lia)
 show (if (fJ b)=true then some (bh 0 b.toNat) else none)=_
 rw[a,c]
 exact if_pos rfl
end Bn
end
section
namespace Bn
open PySem L2 L3
section
variable {α:Type} {ρ ρ1 ρ2 ρ3:Sto} {ma mb mc m:EM} {ms:M3 (List R3)} {ra rb r:R3} {rs:List R3} {da db d:L3.D} {ds:List L3.D} {fl:Fl} {i n np:Nat} {sa sb:SM} {c cc:M3 Bool} {b b2:Bool} {x:Option (Except L3.D Flw×Sto)} {y:Option (Except L3.D R3×Sto)}
theorem aB {p:L3.D×Fl} (h:(ρ[i]?).join=some p):ac i ρ=some (.ok (.pl i),ρ):=by simp[ac,h]
theorem i_c:mC d ρ=some (.ok (.val d .z),ρ):=rfl
theorem dN {f:L3.D->L3.D->Option (L3.D×Fl)} (h1:ma ρ=some (.ok ra,ρ1)) (h2:mb ρ1=some (.ok rb,ρ2)) (h3:der ra ρ2=some (.ok da,ρ2)) (b:der rb ρ2=some (.ok db,ρ2)) (a:f da db=some (d,fl)):ai f ma mb ρ=some (.ok (.val d fl),ρ2):=by
 simp only[ai,af,h1,h2,h3,b,aT,a,Fw]
theorem iS {f:L3.D->Option (L3.D×Fl)} (h1:ma ρ=some (.ok ra,ρ1)) (h3:der ra ρ1=some (.ok da,ρ1)) (a:f da=some (d,fl)):mUn f ma ρ=some (.ok (.val d fl),ρ1):=by
 simp only[mUn,af,h1,h3,aT,a,Fw]
theorem aL {f:List L3.D->Option (L3.D×Fl)} (h1:ms ρ=some (.ok rs,ρ1)) (h3:cG rs ρ1=some (.ok ds,ρ1)) (a:f ds=some (d,fl)):am f ms ρ=some (.ok (.val d fl),ρ1):=by
 simp only[am,af,h1,h3,aT,a,Fw]
theorem aF:ag ρ=some (.ok [],ρ):=rfl
theorem ao (h1:m ρ=some (.ok r,ρ1)) (h2:ms ρ1=some (.ok rs,ρ2)):aa m ms ρ=some (.ok (r::rs),ρ2):=by
 simp only[aa,af,h1,h2,aQ]
theorem yM {mk:List L3.D->L3.D} {f:Fl} (h1:ms ρ=some (.ok rs,ρ1)) (h2:gives rs ρ1=some (.ok ds,ρ2)) (h3:ds.length<=16777216):qi mk f ms ρ=some (.ok (.val (mk ds) f),ρ2):=by
 simp only[qi,af,h1,h2,aT,h3,if_true,Fw]
theorem aD {F:Fn} {ps qs:List (L3.D×Fl)} (a:F ps=some (.ok (d,fl),qs)) (h1:ms ρ=some (.ok rs,ρ1)) (h2:prs (frz (dQ rs) ρ1) rs=some ps) (h3:qs.length=ps.length) (b:back rs ps qs (frz (dQ rs) ρ1)=ρ2):au F ms ρ=some (.ok (.val d fl),ρ2):=by
 simp only[au,af,h1,h2,a,h3,if_true,b]
theorem qt {p:L3.D×Fl} (h1:m ρ=some (.ok r,ρ1)) (h2:cX r ρ1=some (.ok p,ρ2)) (h3:i < ρ2.length) (a:ρ2.set i (some p)=ρ3):aS i m ρ=some (.ok .nx,ρ3):=by
 simp only[aS,af,h1,h2,h3,if_true,a]
theorem i_asg {bnd:L3.D->Sto->Option Sto} {p:L3.D×Fl} (h1:m ρ=some (.ok r,ρ1)) (h2:cX r ρ1=some (.ok p,ρ2)) (h3:bnd p.1 ρ2=some ρ3):la bnd m ρ=some (.ok .nx,ρ3):=by
 simp only[la,af,h1,h2,h3,Fw]
theorem i_par {a b:L3.D} {j:Nat} (h1:ms ρ=some (.ok rs,ρ1)) (h2:gives rs ρ1=some (.ok [a,b],ρ2)) (hi:i < ρ2.length) (c:j < ρ2.length) (h3:(ρ2.set i (some (a,.z))).set j (some (b,.z))=ρ3):wR i j ms ρ=some (.ok .nx,ρ3):=by
 simp only[wR,af,h1,h2,hi,c,and_self,if_true,h3]
theorem yK (h1:m ρ=some (.ok r,ρ1)):fF m ρ=some (.ok .nx,ρ1):=by
 simp only[fF,af,h1,aQ]
def retF (np:Nat) (r:R3):SM:=aW np (aQ r)
theorem c9 (h1:m ρ=some (.ok r,ρ1)) (h2:retF np r ρ1=x):aW np m ρ=x:=by
 rw[<- h2]
 unfold retF
 simp only[aW,af,h1,aQ]
theorem fV (h1:sa ρ=some (.ok (.rt d fl),ρ1)):aE sa sb ρ=some (.ok (.rt d fl),ρ1):=by
 simp only[aE,af,h1,aQ]
theorem dB (h1:m ρ=some (.ok r,ρ1)) (h2:der r ρ1=some (.ok (.bl b),ρ1)):cB m ρ=some (.ok b,ρ1):=by
 simp only[cB,af,h1,h2,aT,asB,Fw]
theorem bI (h1:c ρ=some (.ok b,ρ1)):cC c ρ=some (.ok (!b),ρ1):=by
 simp only[cC,af,h1,aQ]
theorem eJ (h1:c ρ=some (.ok b,ρ1)) (a:b=true) (h2:sa ρ1=x):sIf c sa sb ρ=x:=by
 subst a;simp only[sIf,af,h1,if_true];exact h2
theorem dM (h1:c ρ=some (.ok b,ρ1)) (a:b=false) (h2:sb ρ1=x):sIf c sa sb ρ=x:=by
 subst a;simp only[sIf,af,h1,FA,if_false];exact h2
theorem iC (h1:c ρ=some (.ok b,ρ1)) (a:b=false) (h2:cc ρ1=some (.ok b2,ρ2)):cOr c cc ρ=some (.ok b2,ρ2):=by
 subst a;simp only[cOr,af,h1,FA,if_false];exact h2
theorem t9 (h1:c ρ=some (.ok b,ρ1)) (a:b=true):cOr c cc ρ=some (.ok true,ρ1):=by
 subst a;simp only[cOr,af,h1,if_true];rfl
theorem fv (h1:ma ρ=some (.ok r,ρ1)) (h2:der r ρ1=some (.ok (.bl b),ρ1)) (a:b=true) (h3:mb ρ1=y):dU ma mb ρ=y:=by
 subst a;simp only[dU,af,h1,h2,aT,asB,Fw,if_true];exact h3
theorem fw (h1:ma ρ=some (.ok r,ρ1)) (h2:der r ρ1=some (.ok (.bl b),ρ1)) (a:b=false):dU ma mb ρ=some (.ok (.val (.bl false) .z),ρ1):=by
 subst a;simp only[dU,af,h1,h2,aT,asB,Fw,FA,if_false];rfl
theorem i_sl {f:L3.D->Option Int->Option Int->Option (L3.D×Fl)} {pl pu:M3 (Option Int)} {lo hi:Option Int} (h1:ma ρ=some (.ok ra,ρ1)) (h2:pl ρ1=some (.ok lo,ρ2)) (h3:pu ρ2=some (.ok hi,ρ3)) (a:der ra ρ3=some (.ok da,ρ3)) (b:f da lo hi=some (d,fl)):mSl f ma pl pu ρ=some (.ok (.val d fl),ρ3):=by
 simp only[mSl,af,h1,h2,h3,a,aT,b,Fw]
theorem Bm:gc ρ=some (.ok none,ρ):=rfl
theorem Bk {k:Int} (h1:m ρ=some (.ok r,ρ1)) (h2:der r ρ1=some (.ok (.int k),ρ1)):fG m ρ=some (.ok (some k),ρ1):=by
 simp only[fG,af,h1,h2,aT,asI,Fw]
theorem yJ {ok:L3.D->Bool} {f:L3.D->List L3.D->Option (L3.D×L3.D)} {a b c:L3.D} (h0:(ρ[i]?).join=some (d,fl)) (g:ok d=true) (h1:ms ρ=some (.ok rs,ρ1)) (h2:gives rs ρ1=some (.ok ds,ρ2)) (h3:(ρ2[i]?).join=some (a,.u)) (h:f a ds=some (b,c)) (e:ρ2.set i (some (b,.u))=ρ3):mm ok f i ms ρ=some (.ok (.val c .z),ρ3):=by
 simp only[mm,af,aB h0,chk,h0,g,if_true,h1,h2,h3,h,e]
theorem i_sub {f:L3.D->List L3.D->Option (L3.D×L3.D)} {a b g:L3.D} (h1:mb ρ=some (.ok rb,ρ1)) (h0:(ρ1[i]?).join=some (d,fl)) (h2:ma ρ1=some (.ok ra,ρ2)) (h3:gives [ra,rb] ρ2=some (.ok ds,ρ3)) (e:(ρ3[i]?).join=some (a,.u)) (c:f a ds=some (b,g)):n9 f i ma mb ρ=some (.ok .nx,ρ3.set i (some (b,.u))):=by
 simp only[n9,af,h1,aB h0,h2,h3,e,c]
theorem a8 {mask:List Bool} {ps qs:List (L3.D×Fl)} (h1:ps.length=mask.length) (h0:entry n (List.zipWith mn mask ps)=ρ) (h2:sa ρ=some (.ok (.rt d fl),ρ1)) (h3:dC ρ1 0 (List.zipWith mn mask ps)=some qs):fnM mask n sa ps=some (.ok (d,fl),qs):=by
 subst h0;simp only[fnM,h1,if_true,fn0,h2,h3,Fw]
theorem d5 {i j:Int} (h:-18446744073709551616 < i/\i < 18446744073709551616):dy (.int i) (.int j)=some (.int (i * j),.z):=by
 simp[cR,h]
theorem xX {i j:Int} (h:-18446744073709551616 < j/\j < 18446744073709551616):dy (.int i) (.int j)=some (.int (i * j),.z):=by
 simp[cR,h]
theorem eK {im:IM} {bnd:L3.D->Sto->Option Sto} {o:Except L3.D Flw} (h1:im ρ=some (.ok (rs,ds),ρ1)) (b:us ρ1 (pls rs)=[]) (h2:df bnd sb ds ρ1=some (o,ρ2)):cY im bnd sb ρ=some (o,ρ2):=by
 have a:∀ f ρ,aG f [] ρ=ρ:=λ_ _=>rfl
 simp only[cY,af,h1,b,a,h2,Fw]
theorem Em {im:IM} {bnd:L3.D->Sto->Option Sto} {o:Except L3.D Flw} {is:List Nat} (h1:im ρ=some (.ok (rs,ds),ρ1)) (a:us ρ1 (pls rs)=is) (h2:df bnd sb ds (aG bU is ρ1)=some (o,ρ2)):cY im bnd sb ρ=some (o,aG eR is ρ2):=by
 simp only[cY,af,h1,a,h2,Fw]
theorem js (h1:m ρ=some (.ok r,ρ1)) (h2:der r ρ1=some (.ok d,ρ1)) (h3:sV d=some ds):cg m ρ=some (.ok ([r],ds),ρ1):=by
 simp only[cg,af,h1,h2,aT,h3,Fw]
theorem gm {f:List L3.D->Option (List L3.D)} {xs:List L3.D} (h1:ms ρ=some (.ok rs,ρ1)) (h2:cG rs ρ1=some (.ok ds,ρ1)) (h3:f ds=some xs):bH f ms ρ=some (.ok ([],xs),ρ1):=yF h1 h2 h3
end
theorem lT {α:Type} {bnd:L3.D->Sto->Option Sto} {c:M3 Bool} {elt:EM} (P:Sto->Prop) (D:α->L3.D) (g:α->Bool) (f:α->L3.D):∀ {xs:List α} {τ:Sto},P τ ->
  (∀ x∈xs,∀ τ,P τ->∃ τ1 τ2,bnd (D x) τ=some τ1/\c τ1=some (.ok (g x),τ2)/\(g x=false->P τ2)/\(g x=true->∃ r τ3 p τ4,elt τ2=some (.ok r,τ3)/\cX r τ3=some (.ok p,τ4)/\p.1=f x/\P τ4)) ->
  ∃ τ',bL bnd c elt (xs.map D) τ=some (.ok ((xs.filter g).map f),τ')/\P τ'
 | [],τ,h0,_=>⟨τ,rfl,h0⟩
 | x::xs,τ,h0,hs=>by
  obtain ⟨τ1,τ2,e1,b,hf,m⟩:=hs x EW τ h0
  cases a:g x with
  | false =>
   obtain ⟨τ',e,i⟩:=lT P D g f (xs:=xs) (τ:=τ2) (hf a) λd hd=>hs d (EY _ hd)
   refine ⟨τ',?_,i⟩
   rw[Fm]
   unfold bL
   rw[a] at b
   simp[e1,af,b,e,List.filter_cons,a]
  | true =>
   obtain ⟨r,τ3,p,τ4,k,l,j,h⟩:=m a
   obtain ⟨τ',e,i⟩:=lT P D g f (xs:=xs) (τ:=τ4) h λd hd=>hs d (EY _ hd)
   refine ⟨τ',?_,i⟩
   rw[Fm]
   unfold bL
   rw[a] at b
   simp[e1,af,b,k,l,e,List.filter_cons,a,aQ,j]
section
variable {α:Type} {P:List α->Prop} {us:List α}
theorem bnd0 (h:us.length=0) (f:P []):P us:=by
 cases us with
 | nil=>exact f
 | cons a us=>cases h
theorem EJ {n:Nat} (h:us.length=n+1) (f:∀ a r,r.length=n->P (a::r)):P us:=by
 cases us with
 | nil=>cases h
 | cons a us=>exact f a us (Nat.succ.inj h)
theorem bnd1 (h:us.length=1) (f:∀ a,P [a]):P us:=EJ h λa _ h=>bnd0 (P:=λr=>P (a::r)) h (f a)
theorem bnd2 (h:us.length=2) (f:∀ a b,P [a,b]):P us:=EJ h λa _ h=>bnd1 (P:=λr=>P (a::r)) h (f a)
theorem bnd3 (h:us.length=3) (f:∀ a b c,P [a,b,c]):P us:=EJ h λa _ h=>bnd2 (P:=λr=>P (a::r)) h (f a)
end
theorem hb1 {x:Str} {st:Stmt} {b:Str} (f:∀ (kV doc pm:Value) (an:Option Addr) (a ct a0:Value),bindArgs (PySem.W.fnOf x x (aH st) (aw st) (ad st) .none kV doc pm an a ct) ⟨[a0],[]⟩=pure ([b].zip [a0])) (kV doc pm:Value) (an:Option Addr) (a ct:Value) (us:List Value) (hl:us.length=[b].length):bindArgs (PySem.W.fnOf x x (aH st) (aw st) (ad st) .none kV doc pm an a ct) ⟨us,[]⟩=pure ([b].zip us) :=
 bnd1 (P:=λus=>bindArgs (PySem.W.fnOf x x (aH st) (aw st) (ad st) .none kV doc pm an a ct) ⟨us,[]⟩=pure ([b].zip us)) hl (f kV doc pm an a ct)
theorem hb2 {x:Str} {st:Stmt} {c b:Str} (f:∀ (kV doc pm:Value) (an:Option Addr) (a ct a0 a1:Value),bindArgs (PySem.W.fnOf x x (aH st) (aw st) (ad st) .none kV doc pm an a ct) ⟨[a0,a1],[]⟩=pure ([c,b].zip [a0,a1])) (kV doc pm:Value) (an:Option Addr) (a ct:Value) (us:List Value) (hl:us.length=[c,b].length):bindArgs (PySem.W.fnOf x x (aH st) (aw st) (ad st) .none kV doc pm an a ct) ⟨us,[]⟩=pure ([c,b].zip us) :=
 bnd2 (P:=λus=>bindArgs (PySem.W.fnOf x x (aH st) (aw st) (ad st) .none kV doc pm an a ct) ⟨us,[]⟩=pure ([c,b].zip us)) hl (f kV doc pm an a ct)
theorem hb3 {x:Str} {st:Stmt} {b c p2:Str} (f:∀ (kV doc pm:Value) (an:Option Addr) (a ct a0 a1 a2:Value),bindArgs (PySem.W.fnOf x x (aH st) (aw st) (ad st) .none kV doc pm an a ct) ⟨[a0,a1,a2],[]⟩=pure ([b,c,p2].zip [a0,a1,a2])) (kV doc pm:Value) (an:Option Addr) (a ct:Value) (us:List Value) (hl:us.length=[b,c,p2].length):bindArgs (PySem.W.fnOf x x (aH st) (aw st) (ad st) .none kV doc pm an a ct) ⟨us,[]⟩=pure ([b,c,p2].zip us) :=
 bnd3 (P:=λus=>bindArgs (PySem.W.fnOf x x (aH st) (aw st) (ad st) .none kV doc pm an a ct) ⟨us,[]⟩=pure ([b,c,p2].zip us)) hl (f kV doc pm an a ct)
end Bn
end
section
namespace L3
open PySem L2
def tgN:Expr->List Str
 | .Name x _=>[x]
 | .Tuple [.Name x _,.Name y _] _ _=>[x,y]
 | .Tuple [.Name x _,.Name y _,.Name z _] _ _=>[x,y,z]
 | _=>[]
def pY (tg:Expr) (N:List Str) (ix:List (Option Nat)):List Str:=tgN tg++ix.filterMap λo=>o.bind λi=>N[i]?
def ndB:List Str->Bool
 | []=>true
 | x::xs=>!(xs.any λy=>decide (y=x)) && ndB xs
theorem tQ:∀ {xs:List Str},ndB xs=true->xs.Nodup
 | [],_=>.nil
 | x::xs,h=>by
  simp only[ndB,Bool.and_eq_true,Bool.not_eq_true',List.any_eq_false,decide_eq_true_eq] at h
  exact List.nodup_cons.mpr ⟨λm=>h.1 x m rfl,tQ h.2⟩
section
variable {X:Cx} {G0:Gm} {W0:D->Sto->Prop} {pos:Pos}
theorem xi (e:X.calm=true) (hi:RI X G0 W0 tg iter im) (d:∀ s H C fp,PTs (aN X (pY tg X.N ix) scope s H C fp) ifs (tT X.K (bo ix) noX cm)) (he:∀ s H C fp,RE (aN X (pY tg X.N ix) scope s H C fp) (bo ix) noX elt em) (f:gr scope X.N X.env.scope (pY tg X.N ix) ix=true) (c:Inj ix) (hs:∀ x,foldedSetIterable iter X.env x=pure x) (b:∃ a,Bnd X.K (bo ix).pr a bnd/\∀ s H C fp,PG (aN X (pY tg X.N ix) scope s H C fp) tg a):RE X G0 W0 (.ListComp elt [⟨tg,iter,ifs,0⟩] scope pos) (cy im bnd cm em ix) :=
 Az _ ix e hi d he f c hs b
theorem pO {i:Nat} (g:X.N.Nodup) (f:X.N[i]?=some y) (j:Loc X.env.scope y) (e:X.calm=true) (hi:RI X G0 W0 tg iter im) (h:∀ s H C fp,PTs (aN X (pY tg X.N ix) scope s H C fp) ifs (tT X.K (bo ix) noX cm)) (he:∀ s H C fp,RE (aN X (pY tg X.N ix) scope s H C fp) (bo ix) noX elt em) (k:gr scope X.N X.env.scope (pY tg X.N ix) ix=true) (d:Inj ix) (b:swapsWith (.ListComp elt [⟨tg,iter,ifs,0⟩] scope pos) (some (.Name y py)) spos.line X.env=pure true) (hf:X.fn y=true\/X.env.scope.names.lookup y=some .local) (hs:∀ x,foldedSetIterable iter X.env x=pure x) (l:G0.pr i=false) (c:∃ a,Bnd X.K (bo ix).pr a bnd/\∀ s H C fp,PG (aN X (pY tg X.N ix) scope s H C fp) tg a):RS X G0 W0 (.Assign [.Name y py] (.ListComp elt [⟨tg,iter,ifs,0⟩] scope pos) spos) (aS i (cy im bnd cm em ix)) :=
 re g f j _ ix e hi h he k d b hf hs l c
theorem Ay (b:Gl X tn) (g:X.mg tn=some (.ref C)) (j:IsX X.K (.ref C) cs) (e:(tn == ("__debug__":Str))=false) (i:Gl X "isinstance") (hm:X.mg "isinstance"=none) (k:RE X G0 W0 a ma) (d:starEach [a,.Name tn pT] X.env=(false,eval a X.env)::starEach [.Name tn pT] X.env) (f:starEach [.Name tn pT] X.env=(false,eval (.Name tn pT) X.env)::starEach [] X.env) (c:(backTo pos (starEach [.Name tn pT] X.env)).any (·.1)=false):RE X G0 W0 (.Call (.Name "isinstance" p) [a,.Name tn pT] [] pos) (mUn (jn cs) ma) :=
 tj (t:=V.ref C) (λ_ h=>h) j i hm (tK b g rfl e) k d f c
end
section
variable {X:Cx} {G0:Gm} {W0:D->Sto->Prop} {p q r:Pos} {m:EM} {e e1:Expr} {es:List Expr} {t:M3 Bool} {sm:SM}
theorem gN {i:Nat} (h:RE X G0 W0 (.Name x p) (ac i)):RE X G0 W0 (.Name x p) (ac i):=h
theorem gG (h:RE X G0 W0 (.Name x p) (mC d)):RE X G0 W0 (.Name x p) (mC d):=h
theorem gK {k:Nat} (h:RE X G0 W0 (.Constant c k p) m):RE X G0 W0 (.Constant c k p) m:=h
theorem gB (op:Operator) (h:RE X G0 W0 (.BinOp e op e1 p) m):RE X G0 W0 (.BinOp e op e1 p) m:=h
theorem gU (op:UnaryOp) (h:RE X G0 W0 (.UnaryOp op e p) m):RE X G0 W0 (.UnaryOp op e p) m:=h
theorem gP (os:List CmpOp) (h:RE X G0 W0 (.Compare e os es p) m):RE X G0 W0 (.Compare e os es p) m:=h
theorem gO (h:RE X G0 W0 (.BoolOp op es p) m):RE X G0 W0 (.BoolOp op es p) m:=h
theorem gS (h:RE X G0 W0 (.Subscript e e1 p) m):RE X G0 W0 (.Subscript e e1 p) m:=h
theorem gL (h:RE X G0 W0 (.Subscript e (.Slice a b c p) q) m):RE X G0 W0 (.Subscript e (.Slice a b c p) q) m:=h
theorem gI (x:Str) (h:RE X G0 W0 (.Call (.Name s p) [e,.Name x q] [] r) m):RE X G0 W0 (.Call (.Name s p) [e,.Name x q] [] r) m:=h
theorem gC (x:Str) (h:RE X G0 W0 (.Call (.Name x p) es ks q) m):RE X G0 W0 (.Call (.Name x p) es ks q) m:=h
theorem gD (h:RE X G0 W0 (.Call (.Name x p) es ks q) m):RE X G0 W0 (.Call (.Name x p) es ks q) m:=h
theorem gM (x:Str) (h:RE X G0 W0 (.Call (.Attribute e x p) es ks q) m):RE X G0 W0 (.Call (.Attribute e x p) es ks q) m:=h
theorem gE (h:RE X G0 W0 e m):RE X G0 W0 e m:=h
theorem gA (h:RA X G0 W0 es ms):RA X G0 W0 es ms:=h
theorem gQ (os:List CmpOp) (h:RT X G0 W0 (.Compare e os es p) t):RT X G0 W0 (.Compare e os es p) t:=h
theorem gW (h:RT X G0 W0 (.BoolOp op es p) t):RT X G0 W0 (.BoolOp op es p) t:=h
theorem gV (h:RT X G0 W0 (.UnaryOp .Not e p) t):RT X G0 W0 (.UnaryOp .Not e p) t:=h
theorem gT (h:RT X G0 W0 e t):RT X G0 W0 e t:=h
theorem gR (h:RS X G0 W0 (.Return o p) sm):RS X G0 W0 (.Return o p) sm:=h
theorem gF (h:RS X G0 W0 (.If e ss tt p) sm):RS X G0 W0 (.If e ss tt p) sm:=h
theorem gX (h:RS X G0 W0 (.Assign [.Name x p] e q) sm):RS X G0 W0 (.Assign [.Name x p] e q) sm:=h
theorem gZ (h:RS X G0 W0 st sm):RS X G0 W0 st sm:=h
theorem gY (h:RSs X G0 W0 ss sm):RSs X G0 W0 ss sm:=h
end
end L3
end
section
namespace Bn
open PySem L2 L3
local macro_rules | `(tactic| infer_instance)=>`(tactic| first | with_reducible apply aB | with_reducible exact i_c | with_reducible apply dN | with_reducible apply iS | with_reducible apply aL | with_reducible exact aF | with_reducible apply ao | with_reducible apply yM | with_reducible apply qt | with_reducible apply i_asg | with_reducible apply yK | with_reducible apply c9 | with_reducible exact i_nilS | with_reducible apply dB | with_reducible apply bI | with_reducible apply i_mNot | with_reducible apply i_sl | with_reducible exact Bm | with_reducible apply Bk | with_reducible apply yJ | with_reducible apply i_sub | with_reducible apply js | with_reducible apply gm | with_reducible apply fv | with_reducible apply iC)
local macro_rules | `(tactic| eq_refl)=>`(tactic| first | exact rfl | exact Nat.le_of_ble_eq_true rfl)
local macro_rules | `(tactic| nofun) => `(tactic| repeat' (first | infer_instance | eq_refl))
local macro_rules | `(tactic| exists $es,*) => `(tactic| repeat' (first | infer_instance | (first $[| exact $es]*) | eq_refl))
local macro_rules | `(tactic| nomatch [$fs,*]) => `(tactic| repeat' (first | infer_instance | (first $[| with_reducible apply aD $fs]*) | eq_refl))
local macro_rules | `(tactic| nomatch [$fs,*], [$es,*]) => `(tactic| repeat' (first | infer_instance | (first $[| with_reducible apply aD $fs]*) | (first $[| exact $es]*) | eq_refl))
section
variable {X:Cx} {G0:Gm} {W0:L3.D->Sto->Prop} {pos:Pos}
end
section
variable {P:Program} {w:World} {K:FG} {mg:Str->Option Value} {base:Heap}
local macro_rules | `(tactic| ac_rfl) => `(tactic| exact ⟨rfl,rfl,rfl,by decide +kernel,rfl,by decide +kernel,by decide +kernel⟩)
set_option hygiene false
local macro_rules | `(tactic| and_intros)=>`(tactic| repeat' (first
 | ((with_reducible apply gA);first | refine tq ?_ ?_ rfl | refine xr)
 | ((with_reducible apply gN);first | refine oi _ rfl (Or.inl rfl) (by decide) (by decide) | refine oi _ rfl (Or.inr (Or.inl rfl)) (by decide) (by decide))
 | ((with_reducible apply gG);refine pQ rfl (by assumption) (by decide))
 | ((with_reducible apply gK);first | refine Dh | refine Db | refine re_bl | refine De)
 | ((with_reducible apply gL);refine xh ?_ ?_ ?_)
 | ((with_reducible apply gS);refine re_ix (Ei hr.hu) DN ?_ ?_ (λ_ _=>rfl))
 | ((with_reducible apply gB .Add);refine jF AO DP ?_ ?_)
 | ((with_reducible apply gB .Mult);refine jF DJ AU ?_ ?_)
 | ((with_reducible apply gB .Sub);refine jF DG AR ?_ ?_)
 | ((with_reducible apply gB .Mod);refine jF DK AV ?_ ?_)
 | ((with_reducible apply gB .FloorDiv);refine jF xQ AX ?_ ?_)
 | ((with_reducible apply gB .Pow);refine jF DH AS ?_ ?_)
 | ((with_reducible apply gQ [.Eq]);refine og (xR hr.units) xT ?_ ?_ (jG _))
 | ((with_reducible apply gQ [.NotEq]);refine og (DI hr.units) DO ?_ ?_ (jG _))
 | ((with_reducible apply gQ [.IsNot]);refine og AN AT ?_ ?_ (jG _))
 | ((with_reducible apply gQ [.Lt]);refine og B1 B2 ?_ ?_ (jG _))
 | ((with_reducible apply gW);refine rt_w ?_)
 | ((with_reducible apply gV);refine CZ ?_)
 | ((with_reducible apply gT);refine CY ?_ (λ_=>rfl))
 | ((with_reducible apply gP [.Eq]);refine xj (xR hr.units) xT ?_ ?_ (jG _))
 | ((with_reducible apply gP [.LtE,.LtE]);refine xk tN B3 tN B3 ?_ ?_ ?_ (λh1 h2 h3=>xO tN tN h1 h2 h3))
 | ((with_reducible apply gP [.Lt]);refine xj B1 B2 ?_ ?_ (jG _))
 | ((with_reducible apply gO);first | refine Dk ?_ ?_ | refine Dc ?_)
 | ((with_reducible apply gU .Not);refine Dd ?_)
 | ((with_reducible apply gU .USub);refine re_un Co Cp ?_)
 | ((with_reducible apply gI "int");refine ol o8 rfl B.isinstance (jf (v:=V.ty "int") rfl B.int b_int rfl (by decide) (by decide)) ?_ rfl rfl rfl)
 | ((with_reducible apply gI "bool");refine ol mw rfl B.isinstance (jf (v:=V.ty "bool") rfl B.bool EO rfl (by decide) (by decide)) ?_ rfl rfl rfl)
 | ((with_reducible apply gI "tuple");refine ol lU rfl B.isinstance (jf (v:=V.ty "tuple") rfl B.tuple uy rfl (by decide) (by decide)) ?_ rfl rfl rfl)
 | ((with_reducible apply gI "list");refine ol mr rfl B.isinstance (jf (v:=V.ty "list") rfl B.list zv rfl (by decide) (by decide)) ?_ rfl rfl rfl)
 | ((with_reducible apply gI "ValueError");refine tj (t:=V.ty "ValueError") (λ_ h=>h) T_ValueError rfl B.isinstance (jf rfl Z_ValueError ph rfl (by decide) (by decide)) ?_ rfl rfl rfl)
 | ((with_reducible apply gC "len");first | refine c0 o6 EG rfl B.len Ck ?_ (by decide) (by decide) rfl rfl | refine Dg rfl rfl B.len Ck rfl B.set b_set ?_ (by decide) (by decide) (by decide) (by decide) rfl rfl)
 | ((with_reducible apply gC "isinstance");refine Ay rfl (by assumption) (by assumption) (by decide) rfl B.isinstance ?_ rfl rfl rfl)
 | ((with_reducible apply gC "tuple");refine mR mq EC rfl B.tuple uy ?_ (by decide) (by decide) rfl rfl)
 | ((with_reducible apply gC "repr");refine c0 (o4 hr.gd hr.units) (zh S_sys) rfl B.repr EN ?_ (by decide) (by decide) rfl rfl)
 | ((with_reducible apply gC "all");refine c0 (zm rfl) EH rfl B.all b_all ?_ (by decide) (by decide) rfl rfl)
 | ((with_reducible apply gC "sorted");refine c0 (si (Nat.lt_of_le_of_lt (Nat.add_le_add_left (by decide:2<=64) _) hr.units)) zg rfl B.sorted zu ?_ (by decide) (by decide) rfl rfl)
 | ((with_reducible apply gC "list");refine mR o5 ED rfl B.list zv ?_ (by decide) (by decide) rfl rfl)
 | ((with_reducible apply gC "abs");refine c0 zn EI rfl B.abs b_abs ?_ (by decide) (by decide) rfl rfl)
 | ((with_reducible apply gC "divmod");refine c0 qI vU rfl B.divmod zw ?_ (by decide) (by decide) rfl rfl)
 | ((with_reducible apply gC "min");refine c0 (vX rfl) BD rfl B.min b_min ?_ (by decide) (by decide) rfl rfl)
 | ((with_reducible apply gC "max");refine c0 (vY rfl) BE rfl B.max b_max ?_ (by decide) (by decide) rfl rfl)
 | ((with_reducible apply gD);first | refine AA (by assumption) (hr.mono (by first | decide | omega)) ?_ rfl (by decide) rfl rfl | refine xp (by assumption) (hr.mono (by first | decide | omega)) hD ?_ rfl (by decide) rfl rfl | refine xo (by assumption) (hr.mono (by first | decide | omega)) pa ?_ rfl (by decide) rfl rfl)
 | ((with_reducible apply gM "append");refine oj (ok:=isL) PySem.F.plainAttrs_list PySem.F.slot_list_append PySem.F.type_list_append vn DU lI (lw rfl (Or.inl rfl) (by decide) (by decide)) ?_ rfl rfl rfl rfl rfl)
 | ((with_reducible apply gM "extend");refine oj (ok:=isL) PySem.F.plainAttrs_list PySem.F.slot_list_extend PySem.F.type_list_extend vj DT lI (lw rfl (Or.inl rfl) (by decide) (by decide)) ?_ rfl rfl rfl rfl rfl)
 | ((with_reducible apply gM "pop");refine oj (ok:=isL) PySem.F.plainAttrs_list PySem.F.slot_list_pop PySem.F.type_list_pop xY ye lI (lw rfl (Or.inl rfl) (by decide) (by decide)) ?_ rfl rfl rfl rfl rfl)
 | ((with_reducible apply gM "count");refine tf (ok:=isL) PySem.F.plainAttrs_list PySem.F.slot_list_count PySem.F.type_list_count vm vV lI ?_ ?_ rfl rfl rfl rfl rfl)
 | ((with_reducible apply gM "index");refine tf (ok:=isL) PySem.F.plainAttrs_list PySem.F.slot_list_index PySem.F.type_list_index xZ zj lI ?_ ?_ rfl rfl rfl rfl rfl)
 | ((with_reducible apply gH);first | refine oi _ rfl (Or.inl rfl) (by decide) (by decide) | refine oi _ rfl (Or.inr (Or.inl rfl)) (by decide) (by decide) | refine pQ rfl (by assumption) (by decide))
 | ((with_reducible apply gE);first | refine Df ?_ | refine Da ?_ | refine xi rfl ?_ (λs H C fp=>?_) (λs H C fp=>?_) (by rfl) (yE (by decide)) (λ_=>rfl) ⟨_,jw rfl,λs H C fp=>kE (tQ rfl) rfl (Or.inl rfl) (Or.inr rfl)⟩ | refine Dj (key:=.inr "a") xM oB | refine Di (ns:=[0,1]) hr.hu (by decide) (by decide) rfl oB | refine xq (by assumption) ?_ rfl)
 | ((with_reducible apply gY);first | refine wW ?_ ?_ | refine An ?_ | refine Ao)
 | ((with_reducible apply gR);refine C4 _ (λi hi=>by rw[hp] ;exact AG (by simpa using hi)) ?_)
 | ((with_reducible apply gF);refine rs_if ?_ ?_ ?_)
 | ((with_reducible apply gX);first | refine pO nd rfl (Or.inl rfl) rfl ?_ (λs H C fp=>?_) (λs H C fp=>?_) (by rfl) (yE (by decide)) rfl (Or.inl rfl) (λ_=>rfl) (by rw[hp] ;rfl) ⟨_,uw (jX (jw rfl) (jX (jw rfl) qL)),λs H C fp=>xK (n:=2) rfl (lu (kE (tQ rfl) rfl (Or.inl rfl) (Or.inr rfl)) (lu (kE (tQ rfl) rfl (Or.inl rfl) (Or.inr rfl)) tJ rfl) rfl) rfl rfl⟩ | refine C3 _ nd rfl (Or.inl rfl) ?_ rfl (Or.inl rfl) (by rw[hp] ;rfl))
 | ((with_reducible apply gZ);first | refine C6 PassesOwn.never rfl ?_ ?_ ?_ (λ_=>rfl) | refine Ap ?_ rfl | refine C7 ?_ ?_ rfl rfl rfl | refine wZ (by assumption) (by assumption) mk rfl rfl (by decide) ?_ rfl | refine wY PassesOwn.never ?_ ?_ | refine u5 (by assumption) (by assumption) mk hr rfl rfl rfl (by decide) ?_ rfl | refine C2 (Ag hr.hu) DS (lw rfl (Or.inl rfl) (by decide) (by decide)) ?_ ?_ (λ_=>rfl) rfl rfl rfl | refine C5 _ _ rfl nd rfl rfl (by decide) rfl rfl ?_ rfl rfl (by rw[hp] ;rfl) (by rw[hp] ;rfl))
 | refine sZ _ nd rfl (Or.inl rfl) (Or.inl rfl) (by rw[hp] ;rfl)
 | refine C8 ?_
 | refine xb
 | refine xg ?_ ?_ rfl
 | refine Av rfl B.range ?_ rfl
 | refine rw_or ?_ ?_
 | refine CV ?_
 | refine As
 | refine Aq ?_
 | refine Au rfl B.range ?_ rfl rfl
 | refine Ax
 | refine C9 rfl ?_ rfl rfl
 | refine sZ _ nd rfl (Or.inr rfl) (Or.inl rfl) (by rw[hp] ;rfl)
 | refine Aw rfl B.enumerate ?_ rfl
 | refine C0 rfl rfl rfl nd rfl (by decide) (by assumption) (by assumption) rfl (.inl rfl) (by rw[hp] ;rfl) (λE pn W pa=>?_) λae ob cls hD=>have hr:=hr.mark (some (.ref ae));?_
 | refine wX ?_))
local macro_rules | `(tactic| specialize $q) => `(tactic| exact bq D $q rfl rfl (by first | exact hb1 λ_ _ _ _ _ _ _=>rfl | exact hb2 λ_ _ _ _ _ _ _ _=>rfl | exact hb3 λ_ _ _ _ _ _ _ _ _=>rfl) λcdv A outer s H E f G hr hp=>have nd:=($q).nd;by and_intros)
set_option hygiene true
def rO:SM:=(aW 1 (dU (mUn (dl "int") (ac 0)) (qj (mUn (dl "bool") (ac 0)))))
def cb:Fn:=fnM [false] 1 rO
theorem sc_is_whole:FnScope ["thing"] ["thing"] (ad eY):=by ac_rfl
theorem pc (B:Bl mg) (D:Def K mg "is_whole" eY):aY P w K mg base "is_whole" 1 ["thing"] cb :=by specialize sc_is_whole
def rP:SM:=(aW 1 (dU (mUn (dl "tuple") (ac 0)) (dU (ai eqX (am bV (aa (ac 0) ag)) (mC (.int 2))) (dU (au cb (aa (ai aJ (ac 0) (mC (.int 0))) ag)) (au cb (aa (ai aJ (ac 0) (mC (.int 1))) ag))))))
def dS:Fn:=fnM [false] 1 rP
theorem sc_is_point:FnScope ["thing"] ["thing"] (ad eZ):=by ac_rfl
theorem pg (B:Bl mg) (D:Def K mg "is_point" eZ) (a:aY P w K mg base "is_whole" 1 ["thing"] cb):aY P w K mg base "is_point" 2 ["thing"] dS :=by specialize sc_is_point
def dj:EM:=(au dS (aa (ac 0) ag))
def fH:EM:=(cy (cg (ac 0)) (av 0) eO dj [none])
def oH:SM:=(aW 1 (dU (cO leI leI (mC (.int 1)) (am bV (aa (ac 0) ag)) (mC (.int (24)))) (am wo (aa fH ag))))
def bA:Fn:=fnM [false] 1 oH
theorem sc_are_points:FnScope ["things"] ["things"] (ad dw):=by ac_rfl
theorem lX (B:Bl mg) (D:Def K mg "are_points" dw) (c:aY P w K mg base "is_point" 2 ["thing"] dS) {a:Tok} (b:mg "MOST_POINTS"=some (.int (24) a)):aY P w K mg base "are_points" 3 ["things"] bA :=by specialize sc_are_points
def cw:EM:=(ai ltI (ai aJ (ai aJ (ac 1) (ac 0)) (mC (.int 0))) (ai aJ (ai aJ (ac 1) (ai bg (ac 0) (mC (.int 1)))) (mC (.int 0))))
def ee:EM:=(cy (bH fO (aa (ai eS (am bV (aa (ac 0) ag)) (mC (.int 1))) ag)) (av 0) eO cw [none,some 0])
def lE:SM:=(aW 1 (am wo (aa ee ag)))
def bK:Fn:=fnM [false] 1 lE
theorem sc_has_rising_x:FnScope ["points"] ["points"] (ad cn):=by ac_rfl
theorem jW (B:Bl mg) (D:Def K mg "has_rising_x" cn):aY P w K mg base "has_rising_x" 1 ["points"] bK :=by specialize sc_has_rising_x
def DW:SM:=(aE (aS 3 (ai dy (ai eS (ai aJ (ac 1) (mC (.int 0))) (ai aJ (ac 0) (mC (.int 0)))) (ai eS (ai aJ (ac 2) (mC (.int 1))) (ai aJ (ac 0) (mC (.int 1)))))) (aW 3 (ai eS (ac 3) (ai dy (ai eS (ai aJ (ac 1) (mC (.int 1))) (ai aJ (ac 0) (mC (.int 1)))) (ai eS (ai aJ (ac 2) (mC (.int 0))) (ai aJ (ac 0) (mC (.int 0))))))))
def iX:Fn:=fnM [false,false,false] 4 DW
theorem sc_bend:FnScope ["first","second","third","run"] ["first","second","third"] (ad n4):=by ac_rfl
theorem zo (B:Bl mg) (D:Def K mg "bend" n4):aY P w K mg base "bend" 1 ["first","second","third"] iX :=by specialize sc_bend
def gf:EM:=(bQ (aa (ac 1) (aa (ac 2) (aa (ac 0) ag))))
def j7:EM:=(cy (bH iM (aa (ai bg (ac 3) (mC (.int 1))) (aa (ac 0) ag))) (av 0) eO gf [none,some 2,some 3])
def gg:SM:=(fF (mm isL yV 1 (aa j7 ag)))
def j8:SM:=(cY (bH iM (aa (ai bg (ac 2) (mC (.int 1))) (aa (ac 0) ag))) (av 3) gg)
def yg:SM:=(aE (aS 1 (bT ag)) (aE (cY (bH fO (aa (ac 0) ag)) (av 2) j8) (aW 1 (ac 1))))
def gJ:Fn:=fnM [false] 4 yg
theorem sc_threes:FnScope ["many","found","i","j"] ["many"] (ad i6):=by ac_rfl
theorem sj (B:Bl mg) (D:Def K mg "threes" i6):aY P w K mg base "threes" 1 ["many"] gJ :=by specialize sc_threes
def a9:EM:=(ai aJ (ac 1) (ac 0))
def b8:EM:=(cy (cg (ac 1)) (av 0) eO a9 [none,some 0])
def aU:SM:=(aE (aS 2 (am kT (aa b8 ag))) (sIf (cB (ai eqX (au iX (aa (ai aJ (ac 2) (mC (.int 0))) (aa (ai aJ (ac 2) (mC (.int 1))) (aa (ai aJ (ac 2) (mC (.int 2))) ag)))) (mC (.int 0)))) (aW 1 (ac 2)) cE))
def kj:SM:=(aE (cY (cg (au gJ (aa (am bV (aa (ac 0) ag)) ag))) (av 1) aU) (aW 1 (mC .non)))
def bB:Fn:=fnM [false] 3 kj
theorem sc_first_on_line:FnScope ["points","three","found"] ["points"] (ad bY):=by ac_rfl
theorem jv (B:Bl mg) (D:Def K mg "first_on_line" bY) (b:aY P w K mg base "bend" 1 ["first","second","third"] iX) (a:aY P w K mg base "threes" 1 ["many"] gJ):aY P w K mg base "first_on_line" 2 ["points"] bB :=by specialize sc_first_on_line
def cq:SM:=(aE (sIf (cOr (cC (cB (mUn (dl "list") (ac 0)))) (cC (cB (au bA (aa (ac 0) ag))))) (iK "NoSheet" (aa (mC (.str "this is no list of 1 to 24 points")) ag)) cE) (aE (aS 1 (am kT (aa (am fU (aa (ac 0) ag)) ag))) (aE (sIf (cC (cB (au bK (aa (ac 1) ag)))) (iK "NoSheet" (aa (mC (.str "two points have one x")) ag)) cE) (aE (aS 2 (au bB (aa (ac 1) ag))) (aE (sIf (cB (ai lA (ac 2) (mC .non))) (ff "OnLine" "three" (aa (ac 2) ag)) cE) (aW 1 (ac 1)))))))
def bx:Fn:=fnM [false] 3 cq
theorem sc_sheet_of:FnScope ["points","sheet","three"] ["points"] (ad eW):=by ac_rfl
theorem lV (B:Bl mg) (D:Def K mg "sheet_of" eW) (e:aY P w K mg base "are_points" 3 ["things"] bA) (c:aY P w K mg base "first_on_line" 2 ["points"] bB) (d:aY P w K mg base "has_rising_x" 1 ["points"] bK) {a:Addr} (g:XName K "NoSheet" a) (h:ECls K mg "NoSheet" a) {b:Addr} (i:XName K "OnLine" b) (j:ICls K mg "OnLine" b (Str.ofString "three")):BK P w K mg base "sheet_of" 4 ["points"] bx :=
 Br (k:=3) D sc_sheet_of rfl rfl (hb1 λ_ _ _ _ _ _ _=>rfl) λcdv A outer s H E f G W hr hp pa mk =>
  have nd:=sc_sheet_of.nd;by and_intros
def yo:SM:=(aE (sIf (cB (ai ltI (ac 1) (am bV (aa (ac 0) ag)))) (aW 2 (ai aJ (ac 0) (ac 1))) cE) (aW 2 (mC (.int 0))))
def jA:Fn:=fnM [false,false] 2 yo
theorem sc_l_cell:FnScope ["_law_script","_law_k"] ["_law_script","_law_k"] (ad jb):=by ac_rfl
theorem sA (B:Bl mg) (D:Def K mg "_law_cell" jb):aY P w K mg base "_law_cell" 1 ["_law_script","_law_k"] jA :=by specialize sc_l_cell
def A7:SM:=(aE (aS 2 (bT (aa (mC (.int 48271)) (aa (mC (.int 69621)) (aa (mC (.int 16807)) (aa (mC (.int 39373)) (aa (mC (.int 30269)) (aa (mC (.int 40014)) (aa (mC (.int 40692)) (aa (mC (.int 50021)) (aa (mC (.int 61687)) (aa (mC (.int 71993)) (aa (mC (.int 83869)) (aa (mC (.int 95561)) (aa (mC (.int 30307)) ag))))))))))))))) (aE (aS 3 (ai bg (ai bg (ai dy (ai bg (ai rK (ac 0) (mC (.int 2147483647))) (mC (.int 12345))) (ai aJ (ac 2) (ai rK (ac 1) (mC (.int 13))))) (ai dy (mC (.int 977)) (ac 1))) (ai dy (mC (.int 7919)) (ai vQ (ac 1) (mC (.int 13)))))) (aE (aS 3 (ai rK (ac 3) (mC (.int 1000000007)))) (aW 2 (ai vQ (ai rK (ai bg (ai dy (ac 3) (ac 3)) (ai dy (mC (.int 48271)) (ac 1))) (mC (.int 1000000007))) (mC (.int 7)))))))
def kR:Fn:=fnM [false,false] 4 A7
theorem sc_l_mix:FnScope ["_law_cell_here","_law_k","_law_some","_law_stir"] ["_law_cell_here","_law_k"] (ad ky):=by ac_rfl
theorem wj (B:Bl mg) (D:Def K mg "_law_mix" ky):aY P w K mg base "_law_mix" 1 ["_law_cell_here","_law_k"] kR :=by specialize sc_l_mix
def iR:SM:=(aS 3 (ai bg (ai dy (ac 3) (mC (.int 142857143))) (au kR (aa (ac 2) (aa (ac 4) ag)))))
def A8:SM:=(aE (aS 2 (au jA (aa (ac 0) (aa (ac 1) ag)))) (aE (sIf (cB (ai eqX (ai rK (ac 2) (mC (.int 2))) (mC (.int 0)))) (aW 2 (bT (aa (ai vQ (am absD (aa (ac 2) ag)) (mC (.int 2))) ag))) cE) (aE (aS 3 (mC (.int 0))) (aE (cY (bH fO (aa (mC (.int 40)) ag)) (av 4) iR) (aW 2 (bT (aa (ac 3) ag)))))))
def kS:Fn:=fnM [false,false] 5 A8
theorem sc_l_box:FnScope ["_law_script","_law_k","_law_cell_here","_law_number","_law_j"] ["_law_script","_law_k"] (ad kA):=by ac_rfl
theorem wl (B:Bl mg) (D:Def K mg "_law_box" kA) (a:aY P w K mg base "_law_cell" 1 ["_law_script","_law_k"] jA) (b:aY P w K mg base "_law_mix" 1 ["_law_cell_here","_law_k"] kR):aY P w K mg base "_law_box" 2 ["_law_script","_law_k"] kS :=by specialize sc_l_box
def yi:SM:=(aE (la (iV 2 (bM (av 2) (bM (av 3) iW))) (am y8 (aa (ai aJ (ac 0) (mC (.int 0))) (aa (ac 1) ag)))) (aE (n9 setD 0 (mC (.int 0)) (ac 2)) (aW 2 (ac 3))))
def aR:Fn:=fnM [false,false] 4 yi
theorem sc_l_take:FnScope ["_law_box_here","_law_many","_law_left","_law_digit"] ["_law_box_here","_law_many"] (ad i7):=by ac_rfl
theorem sk (B:Bl mg) (D:Def K mg "_law_take" i7):aY P w K mg base "_law_take" 1 ["_law_box_here","_law_many"] aR :=by specialize sc_l_take
def vt:SM:=(aW 1 (dU (mUn (dl "int") (ac 0)) (qj (mUn (dl "bool") (ac 0)))))
def iy:Fn:=fnM [false] 1 vt
theorem sc_l_whole:FnScope ["_law_thing"] ["_law_thing"] (ad ie):=by ac_rfl
theorem qJ (B:Bl mg) (D:Def K mg "_law_whole" ie):aY P w K mg base "_law_whole" 1 ["_law_thing"] iy :=by specialize sc_l_whole
def bZ:M3 Bool:=(cB (ai neX (ac 2) (bT ag)))
def di:SM:=(fF (mm isL sF 3 (aa (mm isL iO 2 (aa (au aR (aa (ac 0) (aa (am bV (aa (ac 2) ag)) ag))) ag)) ag)))
def jj:SM:=(aE (aS 2 (am qk (aa (ac 1) ag))) (aE (aS 3 (bT ag)) (aE (fc bZ di) (aW 2 (ac 3)))))
def dE:Fn:=fnM [false,false] 4 jj
theorem sc_l_mixed_up:FnScope ["_law_box_here","_law_some","_law_left","_law_found"] ["_law_box_here","_law_some"] (ad du):=by ac_rfl
theorem lW (B:Bl mg) (D:Def K mg "_law_mixed_up" du) (a:aY P w K mg base "_law_take" 1 ["_law_box_here","_law_many"] aR):aY P w K mg base "_law_mixed_up" 2 ["_law_box_here","_law_some"] dE :=by specialize sc_l_mixed_up
def yp:SM:=(aE (la (iV 2 (bM (av 3) (bM (av 4) iW))) (ac 0)) (aE (aS 5 (ai dy (ai eS (ai aJ (ac 1) (mC (.int 0))) (ac 3)) (ai eS (ai aJ (ac 2) (mC (.int 1))) (ac 4)))) (aW 3 (ai eS (ac 5) (ai dy (ai eS (ai aJ (ac 1) (mC (.int 1))) (ac 4)) (ai eS (ai aJ (ac 2) (mC (.int 0))) (ac 3)))))))
def dg:Fn:=fnM [false,false,false] 6 yp
theorem sc_l_bend:FnScope ["_law_one","_law_two","_law_three","_law_x","_law_y","_law_wide"] ["_law_one","_law_two","_law_three"] (ad jc):=by ac_rfl
theorem sB (B:Bl mg) (D:Def K mg "_law_bend" jc):aY P w K mg base "_law_bend" 1 ["_law_one","_law_two","_law_three"] dg :=by specialize sc_l_bend
def c6:SM:=(sIf (cB (ai eqX (au dg (aa (ac 4) (aa (ac 3) (aa (ac 1) ag)))) (mC (.int 0)))) (aW 2 (mC (.bl false))) cE)
def d9:SM:=(cY (cg (mSl slD (ac 0) gc (fG (ac 2)))) (av 4) c6)
def lD:SM:=(aE (cY (lL (aa (ac 0) ag)) (iV 2 (bM (av 2) (bM (av 3) iW))) d9) (aW 2 (mC (.bl true))))
def eQ:Fn:=fnM [false,false] 5 lD
theorem sc_l_free:FnScope ["_law_found","_law_point","_law_at","_law_one","_law_two"] ["_law_found","_law_point"] (ad ja):=by ac_rfl
theorem sy (B:Bl mg) (D:Def K mg "_law_free" ja) (a:aY P w K mg base "_law_bend" 1 ["_law_one","_law_two","_law_three"] dg):aY P w K mg base "_law_free" 2 ["_law_found","_law_point"] eQ :=by specialize sc_l_free
def cr:M3 Bool:=(cC (cB (au eQ (aa (ac 5) (aa (bQ (aa (ac 4) (aa (ac 9) ag))) ag)))))
def dA:SM:=(aS 9 (ai bg (ac 9) (mC (.int 1))))
def cu:SM:=(aE (aS 4 (ai bg (ai bg (ac 4) (mC (.int 1))) (au aR (aa (ac 0) (aa (mC (.int 3)) ag))))) (aE (aS 7 (ai eS (au aR (aa (ac 0) (aa (mC (.int 31)) ag))) (mC (.int 15)))) (aE (aS 8 (bT (aa (ac 7) (aa (ac 7) (aa (ai bg (ai dy (ac 6) (ac 6)) (ai vQ (ac 7) (mC (.int 9)))) (aa (ai eS (ai vQ (ac 7) (mC (.int 9))) (ai dy (ac 6) (ac 6))) ag)))))) (aE (aS 8 (ai bg (ac 8) (bT (aa (ai dy (ai bg (ai dy (ac 6) (ac 6)) (mC (.int 30))) (ai eS (mC (.int 1)) (ai dy (mC (.int 2)) (ai rK (ac 6) (mC (.int 2)))))) (aa (ai dy (ac 7) (mC (.int 1000))) ag))))) (aE (aS 9 (ai aJ (ac 8) (ac 3))) (aE (fc cr dA) (fF (mm isL sF 5 (aa (bQ (aa (ac 4) (aa (ac 9) ag))) ag)))))))))
def fq:EM:=(bQ (aa (ai bg (ai dy (ai rD (mC (.int 10)) (mC (.int 12))) (ac 0)) (mC (.int 7))) (aa (ai dy (ai rD (mC (.int 10)) (mC (.int 9))) (ac 1)) ag)))
def dz:EM:=(cy (cg (ac 5)) (iV 2 (bM (av 0) (bM (av 1) iW))) eO fq [none,none])
def mZ:SM:=(aE (aS 2 (ai bg (mC (.int 1)) (au aR (aa (ac 0) (aa (ac 1) ag))))) (aE (aS 3 (au aR (aa (ac 0) (aa (mC (.int 6)) ag)))) (aE (aS 4 (ai eS (au aR (aa (ac 0) (aa (mC (.int 9)) ag))) (mC (.int 4)))) (aE (aS 5 (bT ag)) (aE (cY (bH fO (aa (ac 2) ag)) (av 6) cu) (aE (sIf (cB (ai eqX (au aR (aa (ac 0) (aa (mC (.int 6)) ag))) (mC (.int 5)))) (aS 5 dz) cE) (aW 2 (am kT (aa (ac 5) ag)))))))))
def eP:Fn:=fnM [false,false] 10 mZ
theorem sc_l_sheet:FnScope ["_law_box_here","_law_most","_law_many","_law_kind","_law_x","_law_found","_law_k","_law_given","_law_some","_law_y"] ["_law_box_here","_law_most"] (ad ig):=by ac_rfl
theorem qK (B:Bl mg) (D:Def K mg "_law_sheet" ig) (b:aY P w K mg base "_law_free" 2 ["_law_found","_law_point"] eQ) (a:aY P w K mg base "_law_take" 1 ["_law_box_here","_law_many"] aR):aY P w K mg base "_law_sheet" 3 ["_law_box_here","_law_most"] eP :=by specialize sc_l_sheet
def tV:SM:=(aE (aS 1 (bT (aa (mC .non) (aa (mC (.bl true)) (aa (mC (.bl false)) (aa (mC (.int 0)) (aa (mUn oF (mC (.int 1))) (aa (mC (.int 1)) (aa (mC (.str "")) (aa (mC (.str "1")) (aa (bQ ag) (aa (bT ag) (aa (bQ (aa (mC (.int 0)) ag)) (aa (bQ (aa (mC (.int 0)) (aa (mC (.int 1)) ag))) (aa (bT (aa (mC (.int 0)) ag)) (aa (DY (.inr "a") 1) ag)))))))))))))))) (aE (aS 1 (ai bg (ac 1) (bT (aa (ai rD (mC (.int 10)) (mC (.int 29))) (aa (bQ (aa (bQ (aa (mC (.int 0)) (aa (mC (.int 0)) ag))) ag)) (aa (bQ (aa (bQ (aa (mC (.int 0)) (aa (mC (.int 1)) ag))) (aa (bQ (aa (mC (.int 1)) (aa (mC (.int 2)) ag))) ag))) (aa (mC (.str "0,0")) (aa (bQ (aa (mC (.int 0)) (aa (mC (.int 1)) (aa (mC (.int 2)) ag)))) (aa (DX [0,1] 2) ag))))))))) (aW 1 (ai aJ (ac 1) (au aR (aa (ac 0) (aa (mC (.int 20)) ag)))))))
def kQ:Fn:=fnM [false] 2 tV
theorem sc_l_odd:FnScope ["_law_box_here","_law_some"] ["_law_box_here"] (ad ku):=by ac_rfl
theorem wg (B:Bl mg) (D:Def K mg "_law_odd" ku) (a:aY P w K mg base "_law_take" 1 ["_law_box_here","_law_many"] aR):aY P w K mg base "_law_odd" 2 ["_law_box_here"] kQ :=by specialize sc_l_odd
def eC:EM:=(au iy (aa (ac 0) ag))
def eB:EM:=(cy (cg (ac 1)) (av 0) eO eC [none])
def bj:SM:=(sIf (cOr (cC (cB (mUn (dl "tuple") (ac 1)))) (cOr (cB (ai neX (am bV (aa (ac 1) ag)) (mC (.int 2)))) (cC (cB (am wo (aa eB ag)))))) (aW 1 (mC (.bl false))) cE)
def cU:EM:=(ai aJ (ac 0) (mC (.int 0)))
def eA:EM:=(cy (cg (ac 0)) (av 0) eO cU [none])
def rN:SM:=(aE (cY (cg (ac 0)) (av 1) bj) (aW 1 (dU (cO leI leI (mC (.int 1)) (am bV (aa (ac 0) ag)) (mC (.int 24))) (ai eqX (am lsD (aa eA ag)) (am bV (aa (ac 0) ag))))))
def bz:Fn:=fnM [false] 2 rN
theorem sc_l_points:FnScope ["_law_things","_law_thing"] ["_law_things"] (ad eX):=by ac_rfl
theorem o9 (B:Bl mg) (D:Def K mg "_law_points" eX) (a:aY P w K mg base "_law_whole" 1 ["_law_thing"] iy):aY P w K mg base "_law_points" 2 ["_law_things"] bz :=by specialize sc_l_points
def d8:SM:=(sIf (cB (ai eqX (au dg (aa (ai aJ (ac 0) (ac 1)) (aa (ai aJ (ac 0) (ac 2)) (aa (ai aJ (ac 0) (ac 3)) ag)))) (mC (.int 0)))) (aW 1 (bQ (aa (ai aJ (ac 0) (ac 1)) (aa (ai aJ (ac 0) (ac 2)) (aa (ai aJ (ac 0) (ac 3)) ag))))) cE)
def d7:SM:=(cY (bH iM (aa (ai bg (ac 2) (mC (.int 1))) (aa (am bV (aa (ac 0) ag)) ag))) (av 3) d8)
def d6:SM:=(cY (bH iM (aa (ai bg (ac 1) (mC (.int 1))) (aa (am bV (aa (ac 0) ag)) ag))) (av 2) d7)
def yk:SM:=(aE (cY (bH fO (aa (am bV (aa (ac 0) ag)) ag)) (av 1) d6) (aW 1 (mC .non)))
def jz:Fn:=fnM [false] 4 yk
theorem sc_l_line:FnScope ["_law_points_here","_law_i","_law_j","_law_k"] ["_law_points_here"] (ad i9):=by ac_rfl
theorem su (B:Bl mg) (D:Def K mg "_law_line" i9) (a:aY P w K mg base "_law_bend" 1 ["_law_one","_law_two","_law_three"] dg):aY P w K mg base "_law_line" 2 ["_law_points_here"] jz :=by specialize sc_l_line
def qh:SM:=(aE (sIf (cOr (cC (cB (mUn (jn [("NoSheet",true),("OnLine",true)]) (ac 0)))) (cC (cB (mUn (jn [("NoSheet",true),("OnLine",true)]) (ac 0))))) (aW 1 (mC (.str "other"))) cE) (aE (aS 1 (bT (aa (mUn (jn [("NoSheet",true),("OnLine",false)]) (ac 0)) (aa (mUn (jn [("NoSheet",false),("OnLine",false)]) (ac 0)) (aa (mUn (jn [("NoSheet",false),("OnLine",false)]) (ac 0)) (aa (mUn (jn [("NoSheet",false),("OnLine",false)]) (ac 0)) ag)))))) (aE (aS 1 (ai bg (ac 1) (bT (aa (mUn (jn [("NoSheet",false),("OnLine",false)]) (ac 0)) (aa (mUn (jn [("NoSheet",false),("OnLine",false)]) (ac 0)) (aa (mUn (jn [("NoSheet",false),("OnLine",false)]) (ac 0)) (aa (mUn (jn [("NoSheet",false),("OnLine",false)]) (ac 0)) ag))))))) (aE (aS 1 (ai bg (ac 1) (bT (aa (mUn (jn [("NoSheet",false),("OnLine",true)]) (ac 0)) (aa (mUn (jn [("NoSheet",false),("OnLine",false)]) (ac 0)) ag))))) (aE (sIf (cB (ai neX (tW isL Cj (ac 1) (aa (mC (.bl true)) ag)) (mC (.int 1)))) (aW 1 (mC (.str "other"))) cE) (aE (aS 2 (bT (aa (mC (.str "sheet")) (aa (mC (.str "place")) (aa (mC (.str "number")) (aa (mC (.str "row")) (aa (mC (.str "apart")) (aa (mC (.str "ring")) (aa (mC (.str "many")) (aa (mC (.str "bare")) (aa (mC (.str "line")) (aa (mC (.str "text")) ag)))))))))))) (aW 1 (ai aJ (ac 2) (tW isL idxD (ac 1) (aa (mC (.bl true)) ag))))))))))
def ci:Fn:=fnM [false] 3 qh
theorem sc_l_marks:FnScope ["_law_e","_law_found","_law_words"] ["_law_e"] (ad io):=by ac_rfl
theorem mx (B:Bl mg) (D:Def K mg "_law_marks" io) {j:Addr} (O:mg "Apart"=some (.ref j)) (M:IsX K (.ref j) [("NoSheet",false),("OnLine",false)]) {m:Addr} (Q:mg "Bare"=some (.ref m)) (R:IsX K (.ref m) [("NoSheet",false),("OnLine",false)]) {a:Addr} (o:mg "BentError"=some (.ref a)) (n:IsX K (.ref a) [("NoSheet",true),("OnLine",true)]) {b:Addr} (q:mg "NoNumber"=some (.ref b)) (p:IsX K (.ref b) [("NoSheet",false),("OnLine",false)]) {d:Addr} (u:mg "NoPlace"=some (.ref d)) (y:IsX K (.ref d) [("NoSheet",false),("OnLine",false)]) {i:Addr} (J:mg "NoRing"=some (.ref i)) (F:IsX K (.ref i) [("NoSheet",false),("OnLine",false)]) {l:Addr} (L:mg "NoRow"=some (.ref l)) (N:IsX K (.ref l) [("NoSheet",false),("OnLine",false)]) {e:Addr} (v:mg "NoSheet"=some (.ref e)) (r:IsX K (.ref e) [("NoSheet",true),("OnLine",false)]) {g:Addr} (C:mg "NoText"=some (.ref g)) (z:IsX K (.ref g) [("NoSheet",false),("OnLine",false)]) {h:Addr} (I:mg "OnLine"=some (.ref h)) (E:IsX K (.ref h) [("NoSheet",false),("OnLine",true)]) {c:Addr} (t:mg "TooMany"=some (.ref c)) (x:IsX K (.ref c) [("NoSheet",false),("OnLine",false)]) (Z_ValueError:mg "ValueError"=none) (T_ValueError:IsX K (.type "ValueError") [("NoSheet",true),("OnLine",true)]):BL P w K mg base "_law_marks" 1 ["_law_e"] ci :=
 Bs (k:=0) D sc_l_marks rfl rfl (hb1 λ_ _ _ _ _ _ _=>rfl) λcdv A outer s H f G hr hD hp =>
  have nd:=sc_l_marks.nd;by and_intros
def gj:SM:=(aW 1 (lF bx (aa (ac 0) ag)))
def gi:SM:=(aE (sIf (cB (ai eqX (au ci (aa (ac 1) ag)) (mC (.str "line")))) (aW 1 (bQ (aa (mC (.str "line")) (aa (mUn (pk ["OnLine"] "three") (ac 1)) ag)))) cE) (aW 1 (au ci (aa (ac 1) ag))))
def yj:SM:=(n5 ["NoSheet","OnLine"] 1 gj gi)
def bJ:Fn:=fnM [false] 2 yj
theorem sc_l_said:FnScope ["_law_points_here","_law_e"] ["_law_points_here"] (ad i8):=by ac_rfl
theorem so (B:Bl mg) (D:Def K mg "_law_said" i8) (b:BL P w K mg base "_law_marks" 1 ["_law_e"] ci) (c:BK P w K mg base "sheet_of" 4 ["points"] bx) (g:AtX K "three" ["OnLine"]) {a:Addr} (d:mg "BentError"=some (.ref a)) (e:ExX K a ["NoSheet","OnLine"]):aY P w K mg base "_law_said" 5 ["_law_points_here"] bJ :=
 Bt (k:=4) D sc_l_said rfl rfl (hb1 λ_ _ _ _ _ _ _=>rfl) λcdv A outer s H E f G hr hp =>
  have nd:=sc_l_said.nd;by and_intros
def kH:SM:=(aE (sIf (cOr (cC (cB (mUn (dl "list") (ac 0)))) (cC (cB (au bz (aa (ac 0) ag))))) (aW 1 (mC (.str "sheet"))) cE) (aE (aS 1 (au jz (aa (am fU (aa (ac 0) ag)) ag))) (aE (sIf (cB (ai lA (ac 1) (mC .non))) (aW 1 (bQ (aa (mC (.str "line")) (aa (ac 1) ag)))) cE) (aW 1 (am kT (aa (am fU (aa (ac 0) ag)) ag))))))
def fD:Fn:=fnM [false] 2 kH
theorem sc_l_due:FnScope ["_law_points_here","_law_three"] ["_law_points_here"] (ad kz):=by ac_rfl
theorem wk (B:Bl mg) (D:Def K mg "_law_due" kz) (b:aY P w K mg base "_law_line" 2 ["_law_points_here"] jz) (a:aY P w K mg base "_law_points" 2 ["_law_things"] bz):aY P w K mg base "_law_due" 3 ["_law_points_here"] fD :=by specialize sc_l_due
def yh:EM:=(bQ (aa (ac 0) (aa (ai dy (ac 0) (ac 0)) ag)))
def qg:EM:=(cy (bH fO (aa (mC (.int 25)) ag)) (av 0) eO yh [none])
def gh:SM:=(aE (aS 13 (am iN (aa (ac 12) ag))) (sIf (cOr (cB (ai neX (am iN (aa (au bJ (aa (ac 12) ag)) ag)) (am iN (aa (au fD (aa (ac 12) ag)) ag)))) (cB (ai neX (am iN (aa (ac 12) ag)) (ac 13)))) (aW 1 (mC (.bl false))) cE))
def ji:SM:=(aE (aS 2 (au kS (aa (ac 0) (aa (ac 1) ag)))) (aE (aS 3 (au dE (aa (ac 2) (aa (am qk (aa (au eP (aa (ac 2) (aa (mC (.int 9)) ag))) ag)) ag)))) (aE (wR 4 5 (aa (ai aJ (ac 3) (mC (.int 0))) (aa (ai aJ (ac 3) (mUn oF (mC (.int 1)))) ag))) (aE (aS 6 (bQ (aa (ai eS (ai dy (mC (.int 2)) (ai aJ (ac 5) (mC (.int 0)))) (ai aJ (ac 4) (mC (.int 0)))) (aa (ai eS (ai dy (mC (.int 2)) (ai aJ (ac 5) (mC (.int 1)))) (ai aJ (ac 4) (mC (.int 1)))) ag)))) (aE (aS 7 (au aR (aa (ac 2) (aa (ai bg (am bV (aa (ac 3) ag)) (mC (.int 1))) ag)))) (aE (aS 8 (au kQ (aa (ac 2) ag))) (aE (la (iV 2 (bM (av 9) (bM (av 10) iW))) (ac 4)) (aE (aS 11 (bT (aa (ac 3) (aa (ai bg (ac 3) (bT (aa (bQ (aa (ac 9) (aa (ai bg (ac 10) (mC (.int 1))) ag))) ag))) (aa (ai bg (ai bg (mSl slD (ac 3) gc (fG (ac 7))) (bT (aa (ac 6) ag))) (mSl slD (ac 3) (fG (ac 7)) gc)) ag))))) (aE (fF (mm isL sF 11 (aa (ai bg (ai bg (mSl slD (ac 3) gc (fG (ac 7))) (bT (aa (ac 8) ag))) (mSl slD (ac 3) (fG (ac 7)) gc)) ag))) (aE (aS 11 (ai bg (ac 11) (bT (aa (am kT (aa (ac 3) ag)) (aa (bT ag) (aa (mC .non) (aa (ai bg (ac 3) (bT (aa (bQ (aa (ai eS (ac 9) (mC (.int 1))) (aa (ac 10) ag))) ag))) (aa (ai bg (ac 3) (bT (aa (bQ (aa (mC (.bl true)) (aa (mC (.int 0)) ag))) ag))) (aa (bT (aa (am qk (aa (ac 4) ag)) ag)) (aa (ac 8) ag)))))))))) (cY (cg (ac 11)) (av 12) gh)))))))))))
def m_law:SM:=(aE (sIf (cB (ai neX (au bJ (aa qg ag)) (mC (.str "sheet")))) (aW 1 (mC (.bl false))) cE) (aE (cY (bH fO (aa (am B6 (aa (mC (.int 1)) (aa (am B5 (aa (am bV (aa (ac 0) ag)) (aa (mC (.int 5)) ag))) ag))) ag)) (av 1) ji) (aW 1 (mC (.bl true)))))
def Cl:Fn:=fnM [false] 14 m_law
theorem sc_law:FnScope ["_law_script","_law_k","_law_box_here","_law_points_here","_law_first","_law_last","_law_middle","_law_at","_law_odd_here","_law_x","_law_y","_law_things","_law_thing","_law_kept"] ["_law_script"] (ad fX):=by ac_rfl
theorem Bq {f:Addr} {fd:FuncData} (B:Bl mg) (D:Fun K "law" "law" fX f fd) (g:aY P w K mg base "_law_box" 2 ["_law_script","_law_k"] kS) (h:aY P w K mg base "_law_due" 3 ["_law_points_here"] fD) (a:aY P w K mg base "_law_mixed_up" 2 ["_law_box_here","_law_some"] dE) (e:aY P w K mg base "_law_odd" 2 ["_law_box_here"] kQ) (c:aY P w K mg base "_law_said" 5 ["_law_points_here"] bJ) (b:aY P w K mg base "_law_sheet" 3 ["_law_box_here","_law_most"] eP) (d:aY P w K mg base "_law_take" 1 ["_law_box_here","_law_many"] aR) (S_sys:sI K):FnOk P w K mg base CX0 6 f fd ["_law_script"] (qX K Cl) :=
 Et (k:=5) D sc_law rfl rfl λcdv A outer s H E f G hr hp =>
  have nd:=sc_law.nd;by and_intros
end
theorem kI {f e:L3.D->L3.D->Option (L3.D×Fl)} {ma mb mc:EM} {ra rb rc:R3} {ρ ρ1 ρ2 ρ3:Sto} {da db b c d:L3.D} {fl a:Fl} (h1:ma ρ=some (.ok ra,ρ1)) (h2:mb ρ1=some (.ok rb,ρ2)) (h3:der ra ρ2=some (.ok da,ρ2)) (g:der rb ρ2=some (.ok db,ρ2)) (k:f da db=some (.bl true,fl)) (h:mc ρ2=some (.ok rc,ρ3)) (i:der rb ρ3=some (.ok b,ρ3)) (l:der rc ρ3=some (.ok c,ρ3)) (j:e b c=some (d,a)):cO f e ma mb mc ρ=some (.ok (.val d a),ρ3):=by
 simp only[cO,af,h1,h2,h3,g,k,aT,Option.bind_some,asB,Fw,if_true,h,i,l,j]
theorem fS {xs:List L3.D} {k:Int} {d:L3.D} (h:L2.atI xs k=some d):aJ (.tup xs) (.int k)=some (d,.z):=by
 show orD ixD ke (.tup xs) (.int k)=_
 simp[orD,ixD,h]
theorem hJ {xs:List L3.D} {k:Int} {d:L3.D} (h:L2.atI xs k=some d):aJ (.lst xs) (.int k)=some (d,.z):=by
 show orD ixD ke (.lst xs) (.int k)=_
 simp[orD,ixD,h]
theorem u3 (p q r:Int×Int) (h1:-18446744073709551616 < q.1 - p.1/\q.1 - p.1 < 18446744073709551616) (h2:-18446744073709551616 < q.2 - p.2/\q.2 - p.2 < 18446744073709551616):iX [(Pd p,.z),(Pd q,.z),(Pd r,.z)]=some (.ok (.int (ba p q r),.z),[(Pd p,.z),(Pd q,.z),(Pd r,.z)]):=by
 apply a8 (ρ:=[some (Pd p,.z),some (Pd q,.z),some (Pd r,.z),none]) rfl rfl
 ·apply al
  ·exists d5 h1
  ·exists d5 h2
 ·rfl
set_option tactic.hygienic true in
theorem wx {n i j:Nat} (xs:List L3.D) (k:n<=25) (l:j < n) (elt:EM) (he:∀ (a b c:L3.D),elt [some (c,.z),some (a,.z),some (b,.z)]=some (.ok (.val (.tup [a,b,c]) .z),[some (c,.z),some (a,.z),some (b,.z)])) :
  cy (bH iM (aa (ai bg (ac 3) (mC (.int 1))) (aa (ac 0) ag))) (av 0) eO elt [none,some 2,some 3] [some (.int n,.z),some (.lst xs,.u),some (.int i,.z),some (.int j,.z)]=some (.ok (.val (.lst ((iL i j (n - (j+1))).map Td)) .u),[some (.int n,.z),some (.lst xs,.u),some (.int i,.z),some (.int j,.z)]):=by
 obtain ⟨τ',e,a,rfl⟩:=dR (bnd:=av 0) (c:=eO) (elt:=elt) (λτ=>∃ a,τ=[a,some (.int i,.z),some (.int j,.z)]) (λ_=>true) (λd=>.tup [.int i,.int j,d]) (ds:=bh ((j:Int)+1) (n - (j+1))) (τ:=[none,some (.int i,.z),some (.int j,.z)]) ⟨none,rfl⟩ (by
  rintro d hd τ ⟨a,rfl⟩
  exact ⟨[some (d,.z),some (.int i,.z),some (.int j,.z)],_,rfl,rfl,(λh=>by cases h),λ_=>⟨_,_,(.tup [.int i,.int j,d],.z),_,he _ _ _,rfl,rfl,_,rfl⟩⟩)
 have g:((bh ((j:Int)+1) (n - (j+1))).filter λ_=>true).map (λd=>L3.D.tup [.int i,.int j,d])=(iL i j (n - (j+1))).map Td:=by
  rw[FI.mpr (λ_ _=>rfl)]
  simp[bh,iL,Function.comp_def]
 rw[g] at e
 have f:iM [.int ((j:Int)+1),.int n]=some (bh ((j:Int)+1) (n - (j+1))):=kB (by lia) (by lia) (by lia)
 exact c8 (rs:=[]) (by (repeat' (first | with_reducible apply gm (h3:=f) | infer_instance | eq_refl))) e (by rw[fZ];lia) rfl
theorem Ev {A B:List L3.D} (h:A.length+B.length<=16777216):yV (.lst A) [.lst B]=some (.lst (A++B),.non):=by simp[yV,h]
theorem zB {A:List L3.D} {d:L3.D} (h:A.length < 16777216):sF (.lst A) [d]=some (.lst (A++[d]),.non):=by simp[sF,h]
theorem fA {A B:List L3.D} (h:A.length+B.length<=16777216):bg (.lst A) (.lst B)=some (.lst (A++B),.u):=by simp[orD,cR,sg,sf,sh,h]
set_option tactic.hygienic true in
theorem uJ {n:Nat} (h:n<=25) {b1 b2:SM} (h2:b2=cY (bH iM (aa (ai bg (ac 2) (mC (.int 1))) (aa (ac 0) ag))) (av 3) b1)
  (h1:∀ (i j:Nat) (xs:List L3.D),j < n->xs.length<=20000->b1 [some (.int n,.z),some (.lst xs,.u),some (.int i,.z),some (.int j,.z)]=some (.ok .nx,[some (.int n,.z),some (.lst (xs++(iL i j (n - (j+1))).map Td),.u),some (.int i,.z),some (.int j,.z)])) :
  ∃ v2 v3,cY (bH fO (aa (ac 0) ag)) (av 2) b2 [some (.int n,.z),some (.lst [],.u),none,none]=some (.ok .nx,[some (.int n,.z),some (.lst ((kU n).map Td),.u),v2,v3]):=by
 have inner:∀ (i:Nat) (xs:List Tri) (v3:Option (L3.D×Fl)),i < n->xs.length<=15625->∃ a,b2 [some (.int n,.z),some (.lst (xs.map Td),.u),some (.int i,.z),v3]=some (.ok .nx,[some (.int n,.z),some (.lst ((xs++fN n i (n - (i+1))).map Td),.u),some (.int i,.z),a]):=by
  intro i xs v3 hi l
  obtain ⟨ρ',e,a,rfl⟩:=dO (bnd:=av 3) (b:=b1) (λm ρ=>∃ v3,ρ=[some (.int n,.z),some (.lst ((xs++fN n i m).map Td),.u),some (.int i,.z),v3]) (ds:=bh ((i:Int)+1) (n - (i+1))) (ρ:=[some (.int n,.z),some (.lst (xs.map Td),.u),some (.int i,.z),v3]) (k:=0) ⟨v3,by simp[fN]⟩ (by
   rintro m d ρ hd ⟨v3,rfl⟩
   obtain ⟨hm,rfl⟩:=dI hd
   have g:((xs++fN n i m).map Td).length<=20000:=by
    have:=rg (n:=n) (i:=i) (m:=m) h (by lia)
    simp only[Fa,Ft]
    lia
   have c:=h1 i (i+1+m) ((xs++fN n i m).map Td) (by lia) g
   rw[show ((i+1+m:Nat):Int)=(i:Int)+1+m by lia,<- List.map_append,List.append_assoc,<- mM] at c
   exact ⟨_,_,by rw[xZ7];rfl,.inl c,_,by rw[xZ7]⟩)
  refine ⟨a,?_⟩
  rw[fZ,xZ7] at e
  have f:iM [.int ((i:Int)+1),.int n]=some (bh ((i:Int)+1) (n - (i+1))):=kB (by lia) (by lia) (by lia)
  rw[h2]
  apply eK
  ·(repeat' (first | with_reducible apply gm (h3:=f) | infer_instance | eq_refl))
  ·rfl
  ·exact e
 obtain ⟨ρ',e,v2,v3,rfl⟩:=dO (bnd:=av 2) (b:=b2) (λm ρ=>∃ v2 v3,ρ=[some (.int n,.z),some (.lst ((mf n m).map Td),.u),v2,v3]) (ds:=bh 0 n) (ρ:=[some (.int n,.z),some (.lst [],.u),none,none]) (k:=0) ⟨none,none,rfl⟩ (by
  rintro m d ρ hd ⟨v2,v3,rfl⟩
  obtain ⟨hm,rfl⟩:=dI hd
  rw[xZ7,Int.zero_add]
  obtain ⟨a,e⟩:=inner m (mf n m) v3 hm (rh h (by lia))
  rw[<- mO] at e
  exact ⟨_,_,rfl,.inl e,_,_,rfl⟩)
 rw[fZ,xZ7] at e
 have f:fO [.int (n:Int)]=some (bh 0 n):=ip (by lia) (by lia)
 refine ⟨v2,v3,?_⟩
 apply eK
 ·(repeat' (first | with_reducible apply gm (h3:=f) | infer_instance | eq_refl))
 ·rfl
 ·exact e
set_option tactic.hygienic true in
theorem q8 (n:Nat) (d:n<=25):gJ [(.int n,.z)]=some (.ok (.lst ((kU n).map Td),.u),[(.int n,.z)]):=by
 obtain ⟨v2,v3,e⟩:=uJ (n:=n) d (b1:=gg) (b2:=j8) rfl (by
  intro i j xs f g
  have c:=wx (n:=n) (i:=i) (j:=j) xs d f gf (λa b c=>by unfold gf;(nofun))
  have hl:xs.length+((iL i j (n - (j+1))).map Td).length<=16777216:=by
   rw[Fa,pP];lia
  unfold gg j7
  (repeat' (first | with_reducible exact c | infer_instance | exact Ev hl | eq_refl)))
 apply a8 (ρ:=[some (.int n,.z),none,none,none]) rfl rfl
 ·apply al
  ·nofun
  ·apply al
   ·exact e
   ·nofun
 ·rfl
theorem cV (c:Int) (m:Int) (h:0 < m):0<=c % m/\c % m < m:=⟨Int.emod_nonneg _ (by lia),Int.emod_lt_of_pos _ h⟩
theorem fY (n m:Int) (h:0 < m/\m < 1073741824):aR [(.lst [.int n],.u),(.int m,.z)]=some (.ok (.int (n % m),.z),[(.lst [.int (n / m)],.u),(.int m,.z)]):=by
 have hd:y8 [.int n,.int m]=some (.tup [.int (n / m),.int (n % m)],.z):=by simp[c2,jp,h]
 apply a8 (ρ:=[some (.lst [.int n],.u),some (.int m,.z),none,none]) rfl rfl
 ·apply al
  ·exists hd
  ·apply al
   ·nofun
   ·nofun
 ·rfl
theorem pN (p q r:Int×Int) (h1:-18446744073709551616 < q.1 - p.1/\q.1 - p.1 < 18446744073709551616) (h2:-18446744073709551616 < q.2 - p.2/\q.2 - p.2 < 18446744073709551616):dg [(Pd p,.z),(Pd q,.z),(Pd r,.z)]=some (.ok (.int (ba p q r),.z),[(Pd p,.z),(Pd q,.z),(Pd r,.z)]):=by
 apply a8 (ρ:=[some (Pd p,.z),some (Pd q,.z),some (Pd r,.z),none,none,none]) rfl rfl
 ·apply al
  ·nofun
  apply al
  ·exists d5 h1
  ·exists d5 h2
 ·rfl
theorem wV (ns:List Int) (k:Nat):∃ n:Int,jA [(.fls (ns.map .int),.z),(.int k,.z)]=some (.ok (.int n,.z),[(.fls (ns.map .int),.z),(.int k,.z)]):=by
 by_cases h:k < ns.length
 ·refine ⟨ns[k],?_⟩
  have a:aJ (.fls (ns.map .int)) (.int (k:Int))=some (.int ns[k],.z):=by
   have:L2.atI (ns.map L3.D.int) (k:Int)=some (.int ns[k]):=kO (by simp[h])
   simp[orD,ixD,this]
  have b:(k:Int) < ((ns.map L3.D.int).length:Int):=by simp;lia
  generalize (k:Int)=kk at *
  apply a8 (ρ:=[some (.fls (ns.map .int),.z),some (.int kk,.z)]) rfl rfl
  ·apply fV
   apply eJ
   ·nofun
   ·exact Fo b
   ·exists a
  ·rfl
 ·refine ⟨0,?_⟩
  have b:¬ (k:Int) < ((ns.map L3.D.int).length:Int):=by simp;lia
  generalize (k:Int)=kk at *
  apply a8 (ρ:=[some (.fls (ns.map .int),.z),some (.int kk,.z)]) rfl rfl
  ·apply al
   ·apply dM
    ·nofun
    ·exact Fp b
    ·rfl
   ·nofun
  ·rfl
theorem Ak (c j:Int):∃ n:Int,kR [(.int c,.z),(.int j,.z)]=some (.ok (.int n,.z),[(.int c,.z),(.int j,.z)]):=by
 have a:=cV c 2147483647 (by decide)
 have b:=cV j 13 (by decide)
 obtain ⟨m,hm⟩:∃ m:Nat,j % 13=m:=⟨(j % 13).toNat,by lia⟩
 have d:m < 13:=by lia
 have e:∃ v:Int,aJ (.lst [.int 48271,.int 69621,.int 16807,.int 39373,.int 30269,.int 40014,.int 40692,.int 50021,.int 61687,.int 71993,.int 83869,.int 95561,.int 30307]) (.int (j % 13))=some (.int v,.z):=by
  rw[hm]
  clear hm
  match m,d with
  | 0,_=>exact ⟨_,rfl⟩
  | 1,_=>exact ⟨_,rfl⟩
  | 2,_=>exact ⟨_,rfl⟩
  | 3,_=>exact ⟨_,rfl⟩
  | 4,_=>exact ⟨_,rfl⟩
  | 5,_=>exact ⟨_,rfl⟩
  | 6,_=>exact ⟨_,rfl⟩
  | 7,_=>exact ⟨_,rfl⟩
  | 8,_=>exact ⟨_,rfl⟩
  | 9,_=>exact ⟨_,rfl⟩
  | 10,_=>exact ⟨_,rfl⟩
  | 11,_=>exact ⟨_,rfl⟩
  | 12,_=>exact ⟨_,rfl⟩
 obtain ⟨v,f⟩:=e
 have c1:-18446744073709551616 < c % 2147483647+12345/\c % 2147483647+12345 < 18446744073709551616:=by lia
 have c2:∀ z:Int,-18446744073709551616 < z % 1000000007/\z % 1000000007 < 18446744073709551616:=λz=>by
  have:=cV z 1000000007 (by decide)
  lia
 apply Exists.intro
 apply a8 (ρ:=[some (.int c,.z),some (.int j,.z),none,none]) rfl rfl
 ·apply al
  ·nofun
  apply al
  ·exists f,d5 (by decide),d5 c1
  apply al
  ·nofun
  ·exists d5 (by decide),d5 (c2 _)
 ·rfl
theorem Am (ns:List Int) (k:Nat):∃ n:Int,kS [(.fls (ns.map .int),.z),(.int k,.z)]=some (.ok (.lst [.int n],.u),[(.fls (ns.map .int),.z),(.int k,.z)]):=by
 obtain ⟨c,a⟩:=wV ns k
 generalize L3.D.fls (ns.map .int)=S at *
 generalize L3.D.int (k:Int)=kk at *
 by_cases h:c % 2=0
 ·apply Exists.intro
  apply a8 (ρ:=[some (S,.z),some (kk,.z),none,none,none]) rfl rfl
  ·apply al
   ·nomatch [a]
   apply fV
   apply eJ
   ·nofun
   ·exact Fo h
   ·nofun
  ·rfl
 ·obtain ⟨ρ',e,n,v4,rfl⟩:=dO (bnd:=av 4) (b:=iR) (λ_ ρ=>∃ (n:Int) (v4:Option (L3.D×Fl)),ρ=[some (S,.z),some (kk,.z),some (.int c,.z),some (.int n,.z),v4]) (ds:=bh 0 40) (ρ:=[some (S,.z),some (kk,.z),some (.int c,.z),some (.int 0,.z),none]) (k:=0) ⟨0,none,rfl⟩ (by
   rintro i d ρ hd ⟨n,v4,rfl⟩
   obtain ⟨hi,rfl⟩:=dI hd
   obtain ⟨m,hm⟩:=Ak c (0+(i:Int))
   generalize (0+(i:Int))=j at *
   exact ⟨_,[some (S,.z),some (kk,.z),some (.int c,.z),some (.int (n * 142857143+m),.z),some (.int j,.z)],rfl,.inl (by unfold iR;(nomatch [hm],[xX (by decide)])),_,_,rfl⟩)
  refine ⟨n,?_⟩
  apply a8 (ρ:=[some (S,.z),some (kk,.z),none,none,none]) rfl rfl
  ·apply al
   ·nomatch [a]
   apply al
   ·apply dM
    ·nofun
    ·exact Fp h
    ·rfl
   apply al
   ·nofun
   apply al
   ·apply eK
    ·exact gm (by (nofun)) rfl (ip (n:=40) (by decide) (by decide))
    ·rfl
    ·exact e
   ·nofun
  ·rfl
theorem yS {X Z:L3.D} {f:Fl} {k:L3.D} {p q:L3.D} {b:Int} (a:dg [(p,.z),(q,.z),(Z,.z)]=some (.ok (.int b,.z),[(p,.z),(q,.z),(Z,.z)])) :
  c6 [some (X,f),some (Z,.z),some (k,.z),some (q,.z),some (p,.z)]=some (.ok (if b=0 then .rt (.bl false) .z else .nx),[some (X,f),some (Z,.z),some (k,.z),some (q,.z),some (p,.z)]):=by
 by_cases h:b=0
 ·rw[if_pos h]
  apply eJ
  ·nomatch [a]
  ·exact Fo h
  ·nofun
 ·rw[if_neg h]
  apply dM
  ·nomatch [a]
  ·exact Fp h
  ·rfl
theorem wU (ps:List Pt) (z:Pt) (hs:∀ p∈ps,Small p) (hl:ps.length<=24):∃ b:Bool,eQ [(.lst (ps.map Pd),.u),(Pd z,.z)]=some (.ok (.bl b,.z),[(.lst (ps.map Pd),.u),(Pd z,.z)])/\(b=true->zK ps z)/\(b=false->∃ (i j:Nat) (p q:Pt),i < j/\ps[i]?=some p/\ps[j]?=some q/\ba p q z=0):=by
 have inner:∀ (i:Nat) (q:Pt) (v4:Option (L3.D×Fl)),ps[i]?=some q->∃ a,df (av 4) c6 ((ps.take i).map Pd) [some (.lst (ps.map Pd),.l),some (Pd z,.z),some (.int i,.z),some (Pd q,.z),v4]=some (.ok .nx,[some (.lst (ps.map Pd),.l),some (Pd z,.z),some (.int i,.z),some (Pd q,.z),a])/\(∀ j p,j < i->ps[j]?=some p->ba p q z≠0) \/
   df (av 4) c6 ((ps.take i).map Pd) [some (.lst (ps.map Pd),.l),some (Pd z,.z),some (.int i,.z),some (Pd q,.z),v4]=some (.ok (.rt (.bl false) .z),[some (.lst (ps.map Pd),.l),some (Pd z,.z),some (.int i,.z),some (Pd q,.z),a])/\∃ j p,j < i/\ps[j]?=some p/\ba p q z=0:=by
  intro i q v4 t
  have hi:i < ps.length:=(Fb.mp t).1
  obtain ⟨ρ',h⟩:=kK (bnd:=av 4) (b:=c6) (λm ρ=>∃ v4,ρ=[some (.lst (ps.map Pd),.l),some (Pd z,.z),some (.int i,.z),some (Pd q,.z),v4]/\∀ j p,j < m->ps[j]?=some p->ba p q z≠0)
   (λm r f ρ=>r=.bl false/\f=.z/\∃ v4,ρ=[some (.lst (ps.map Pd),.l),some (Pd z,.z),some (.int i,.z),some (Pd q,.z),v4]/\∃ p,ps[m]?=some p/\ba p q z=0)
   (ds:=(ps.take i).map Pd) (ρ:=[some (.lst (ps.map Pd),.l),some (Pd z,.z),some (.int i,.z),some (Pd q,.z),v4]) (k:=0) ⟨v4,rfl,λj p h=>absurd h (Nat.not_lt_zero _)⟩ (by
    rintro m d ρ hd ⟨v4,rfl,w⟩
    rw[Ff,E2] at hd
    obtain ⟨p,g,rfl⟩:=hd
    have o:ps[m]?=some p/\m < i:=by
     rw[List.getElem?_take] at g
     split at g
     ·exact ⟨g,by assumption⟩
     ·cases g
    have sm:=Small.sub (hs p (Fc o.1)) (hs q (Fc t))
    have rb:=pN p q z sm.1 sm.2
    have rb:=yS (X:=.lst (ps.map Pd)) (f:=.l) (k:=.int (i:Int)) rb
    by_cases h0:ba p q z=0
    ·rw[if_pos h0] at rb
     exact ⟨_,_,rfl,.inr ⟨.bl false,.z,rb,rfl,rfl,_,rfl,p,by simpa using o.1,h0⟩⟩
    ·rw[if_neg h0] at rb
     refine ⟨_,_,rfl,.inl ⟨.inl rb,_,rfl,λj x s v=>?_⟩⟩
     by_cases e:j=m
     ·subst e;rw[o.1] at v;cases v;exact h0
     ·exact w j x (by lia) v)
  rcases h with ⟨e,a,rfl,h⟩ | ⟨m,r,f,hm,e,rfl,rfl,a,rfl,p,g,h0⟩
  ·exact ⟨a,.inl ⟨e,λj p s=>h j p (by simp;lia)⟩⟩
  ·refine ⟨a,.inr ⟨e,m,p,by simp at hm;lia,by simpa using g,h0⟩⟩
 obtain ⟨ρ',h⟩:=kK (bnd:=iV 2 (bM (av 2) (bM (av 3) iW))) (b:=d9) (λm ρ=>∃ v2 v3 v4,ρ=[some (.lst (ps.map Pd),.l),some (Pd z,.z),v2,v3,v4]/\∀ i j p q,i < j->j < m->ps[i]?=some p->ps[j]?=some q->ba p q z≠0)
   (λm r f ρ=>r=.bl false/\f=.z/\∃ v2 v3 v4,ρ=[some (.lst (ps.map Pd),.l),some (Pd z,.z),v2,v3,v4]/\∃ (i j:Nat) (p q:Pt),i < j/\ps[i]?=some p/\ps[j]?=some q/\ba p q z=0)
   (ds:=gp 0 (ps.map Pd)) (ρ:=[some (.lst (ps.map Pd),.l),some (Pd z,.z),none,none,none]) (k:=0) ⟨_,_,_,rfl,λi j p q _ h=>absurd h (Nat.not_lt_zero _)⟩ (by
    rintro m d ρ hd ⟨v2,v3,v4,rfl,w⟩
    rw[jT,Ff,Option.map_map,E2] at hd
    obtain ⟨q,t,rfl⟩:=hd
    have hm:m < ps.length:=(Fb.mp t).1
    obtain ⟨a,h⟩:=inner m q v4 t
    have sl:=BC (xs:=ps.map Pd) (m:=m) (by simp;lia)
    rw[<- List.map_take] at sl
    rcases h with ⟨e,h⟩ | ⟨e,j,p,s,g,h0⟩
    ·refine ⟨_,[some (.lst (ps.map Pd),.l),some (Pd z,.z),some (.int m,.z),some (Pd q,.z),a],by simp[av,iV,bM,iW];rfl,.inl ⟨.inl (by simp[d9,af,aQ,aT,der,ac,mC,ai,mUn,ag,aa,cG,am,cE,aE,aW,sW,aS,la,sIf,fF,cX,lowAt,nol,frz,vH,pls,gives,qi,orD,cR,ixD,ke,av,iW,bM,iV,fnM,fn0,entry,dC,mn,c1,c2,jp,n9,pL,rG,j5,mSl,slD,gc,fG,asI,cB,BF,cOr,cC,dU,mOr,qj,mIf,cO,asB,eqS,eqA,au,prs,dQ,back,dl,ng,jO,oF,isN,lA,kc,qp,zE,uI,vv,orC,sg,sf,sh,L2.atI,ixN,cY,cg,sV,-List.map_take,sl,aG,us,e]),_,_,_,rfl,λi j p A c s hi n=>?_⟩⟩
     by_cases y:j=m
     ·subst y;rw[t] at n;cases n;exact h i p c hi
     ·exact w i j p A c (by lia) hi n
    ·refine ⟨_,[some (.lst (ps.map Pd),.l),some (Pd z,.z),some (.int m,.z),some (Pd q,.z),a],by simp[av,iV,bM,iW];rfl,.inr ⟨.bl false,.z,by simp[d9,af,aQ,aT,der,ac,mC,ai,mUn,ag,aa,cG,am,cE,aE,aW,sW,aS,la,sIf,fF,cX,lowAt,nol,frz,vH,pls,gives,qi,orD,cR,ixD,ke,av,iW,bM,iV,fnM,fn0,entry,dC,mn,c1,c2,jp,n9,pL,rG,j5,mSl,slD,gc,fG,asI,cB,BF,cOr,cC,dU,mOr,qj,mIf,cO,asB,eqS,eqA,au,prs,dQ,back,dl,ng,jO,oF,isN,lA,kc,qp,zE,uI,vv,orC,sg,sf,sh,L2.atI,ixN,cY,cg,sV,-List.map_take,sl,aG,us,e],rfl,rfl,_,_,_,rfl,j,m,p,q,s,g,t,h0⟩⟩)
 rcases h with ⟨e,v2,v3,v4,rfl,h⟩ | ⟨m,r,f,hm,e,rfl,rfl,v2,v3,v4,rfl,B⟩
 ·refine ⟨true,?_,λ_ i j p q c hi s=>h i j p q c ?_ hi s,λh=>by cases h⟩
  ·simp[eQ,lD,af,aQ,aT,der,ac,mC,ai,mUn,ag,aa,cG,am,cE,aE,aW,sW,aS,la,sIf,fF,cX,lowAt,nol,frz,vH,pls,gives,qi,orD,cR,ixD,ke,av,iW,bM,iV,fnM,fn0,entry,dC,mn,c1,c2,jp,n9,pL,rG,j5,mSl,slD,gc,fG,asI,cB,BF,cOr,cC,dU,mOr,qj,mIf,cO,asB,eqS,eqA,au,prs,dQ,back,dl,ng,jO,oF,isN,lA,kc,qp,zE,uI,vv,orC,sg,sf,sh,L2.atI,ixN,cY,lL,aG,us,jh,bU,eR,e]
  ·have:=(Fb.mp s).1
   simp[jS];lia
 ·refine ⟨false,?_,λh=>(by cases h),λ_=>B⟩
  simp[eQ,lD,af,aQ,aT,der,ac,mC,ai,mUn,ag,aa,cG,am,cE,aE,aW,sW,aS,la,sIf,fF,cX,lowAt,nol,frz,vH,pls,gives,qi,orD,cR,ixD,ke,av,iW,bM,iV,fnM,fn0,entry,dC,mn,c1,c2,jp,n9,pL,rG,j5,mSl,slD,gc,fG,asI,cB,BF,cOr,cC,dU,mOr,qj,mIf,cO,asB,eqS,eqA,au,prs,dQ,back,dl,ng,jO,oF,isN,lA,kc,qp,zE,uI,vv,orC,sg,sf,sh,L2.atI,ixN,cY,lL,aG,us,jh,bU,eR,e]
theorem sq_le {i:Nat} (h:i < 12):0<=(i:Int) * (i:Int)/\(i:Int) * (i:Int)<=144:=by
 have h1:i * i<=12 * 12:=Nat.mul_le_mul (by lia) (by lia)
 have h2:(i:Int) * (i:Int)=((i * i:Nat):Int):=by simp
 rw[h2];lia
theorem zP {i:Nat} {g kd:Int} (hi:i < 12) (d:-15<=g) (g1:g<=15) (k0:0<=kd) (k1:kd < 6) :
  ∃ y:Int,aJ (.lst [.int g,.int g,.int ((i:Int) * i+g / 9),.int (g / 9 - (i:Int) * i),.int (((i:Int) * i+30) * (1 - 2 * ((i:Int) % 2))),.int (g * 1000)]) (.int kd)=some (.int y,.z)/\-16000<=y/\y<=16000:=by
 obtain ⟨b,c⟩:=sq_le hi
 obtain ⟨j,rfl⟩:∃ j:Nat,kd=(j:Int):=⟨kd.toNat,by lia⟩
 have a:j < 6:=by lia
 generalize (i:Int) * (i:Int)=qq at *
 have hm:(qq+30) * (1 - 2 * ((i:Int) % 2))<=16000/\-16000<=(qq+30) * (1 - 2 * ((i:Int) % 2)):=by
  rcases Int.emod_two_eq (i:Int) with e | e
  ·rw[e];simp;lia
  ·rw[e];simp;lia
 generalize (qq+30) * (1 - 2 * ((i:Int) % 2))=zz at *
 match j,a with
 | 0,_=>exact ⟨_,rfl,by lia,by lia⟩
 | 1,_=>exact ⟨_,rfl,by lia,by lia⟩
 | 2,_=>exact ⟨_,rfl,by lia,by lia⟩
 | 3,_=>exact ⟨_,rfl,by lia,by lia⟩
 | 4,_=>exact ⟨_,rfl,by lia,by lia⟩
 | 5,_=>exact ⟨_,rfl,by lia,by lia⟩
abbrev cK (n most many kd x:Int) (ps:List Pt) (v6 v7 v8 v9:Option (L3.D×Fl)):Sto:=[some (.lst [.int n],.u),some (.int most,.z),some (.int many,.z),some (.int kd,.z),some (.int x,.z),some (.lst (ps.map Pd),.u),v6,v7,v8,v9]
theorem q9 {n most many kd x y0:Int} {ps:List Pt} {v6 v7 v8:Option (L3.D×Fl)} (R:Rising ps) (hs:∀ p∈ps,Small p) (hl:ps.length<=12) :
  ∃ y,fc cr dA (cK n most many kd x ps v6 v7 v8 (some (.int y0,.z)))=some (.ok .nx,cK n most many kd x ps v6 v7 v8 (some (.int y,.z)))/\zK ps (x,y)/\y0<=y/\y<=y0+144:=by
 have f:above ps x y0<=144:=by
  have h1:=zG ps x y0
  have h2:ps.length * ps.length<=12 * 12:=Nat.mul_le_mul (by lia) (by lia)
  lia
 obtain ⟨ρ',e,y,rfl,hf,h1,h2⟩:=my (c:=cr) (b:=dA) (λm ρ=>∃ y:Int,ρ=cK n most many kd x ps v6 v7 v8 (some (.int y,.z))/\m=above ps x y/\y0<=y/\y+(above ps x y:Int)<=y0+(above ps x y0:Int))
  (λρ=>∃ y:Int,ρ=cK n most many kd x ps v6 v7 v8 (some (.int y,.z))/\zK ps (x,y)/\y0<=y/\y<=y0+144) (ρ:=cK n most many kd x ps v6 v7 v8 (some (.int y0,.z))) ⟨y0,rfl,rfl,Int.le_refl _,Int.le_refl _⟩ (by
   rintro m ρ ⟨y,rfl,rfl,h1,h2⟩
   obtain ⟨b,h,k,hf⟩:=wU ps (x,y) hs (by lia)
   have g:cr (cK n most many kd x ps v6 v7 v8 (some (.int y,.z)))=some (.ok (!b),cK n most many kd x ps v6 v7 v8 (some (.int y,.z))):=by
    unfold cr
    nomatch [h]
   cases b with
   | true=>exact .inl ⟨_,g,y,rfl,k rfl,h1,by lia⟩
   | false =>
    obtain ⟨i,j,p,q,d,e1,l,h0⟩:=hf rfl
    have a:=zF R d e1 l h0
    exact .inr ⟨_,cK n most many kd x ps v6 v7 v8 (some (.int (y+1),.z)),_,g,.inl (by unfold dA;(nofun)),a,y+1,rfl,rfl,by lia,by lia⟩)
 exact ⟨y,e,hf,h1,h2⟩
theorem wS {n most many kd x:Int} {i:Nat} {ps:List Pt} {v7 v8 v9:Option (L3.D×Fl)} (R:Rising ps) (hs:∀ p∈ps,Small p) (hl:ps.length<=12) (hi:i < 12) (k0:0<=kd) (k1:kd < 6) :
  ∃ (o d y:Int) (e c b:Option (L3.D×Fl)),cu (cK n most many kd x ps (some (.int i,.z)) v7 v8 v9)=some (.ok .nx,cK o most many kd (x+1+d) (ps++[(x+1+d,y)]) (some (.int i,.z)) e c b)/\0<=d/\d < 3/\zK ps (x+1+d,y)/\-16000<=y/\y<=16144:=by
 have t:=fY
 have v:=cV (n / 3) 31 (by decide)
 have j:=cV n 3 (by decide)
 generalize q:n / 3 % 31 - 15=G at *
 obtain ⟨y0,r,w,s⟩:=zP (i:=i) (g:=G) (kd:=kd) hi (by lia) (by lia) k0 k1
 have h:-18446744073709551616 < (i:Int)/\(i:Int) < 18446744073709551616:=by lia
 have k:-18446744073709551616 < 1 - 2 * ((i:Int) % 2)/\1 - 2 * ((i:Int) % 2) < 18446744073709551616:=by lia
 generalize a:x+1+n % 3=X at *
 obtain ⟨y,m,hf,h1,h2⟩:=q9 (n:=n / 3 / 31) (most:=most) (many:=many) (kd:=kd) (x:=X) (y0:=y0) (ps:=ps) (v6:=some (.int i,.z)) (v7:=some (.int G,.z)) (v8:=some (.lst [.int G,.int G,.int ((i:Int) * i+G / 9),.int (G / 9 - (i:Int) * i),.int (((i:Int) * i+30) * (1 - 2 * ((i:Int) % 2))),.int (G * 1000)],.u)) R hs hl
 refine ⟨n / 3 / 31,n % 3,y,some (.int G,.z),some (.lst [.int G,.int G,.int ((i:Int) * i+G / 9),.int (G / 9 - (i:Int) * i),.int (((i:Int) * i+30) * (1 - 2 * ((i:Int) % 2))),.int (G * 1000)],.u),some (.int y,.z),?_,j.1,j.2,by rw[a];exact hf,by lia,by lia⟩
 rw[a]
 have l:(ps.map Pd).length < 16777216:=by simp;lia
 have f:=zB (d:=Pd (X,y)) l
 rw[show ps.map Pd++[Pd (X,y)]=(ps++[(X,y)]).map Pd by simp] at f
 clear hi
 generalize (i:Int)=zi at *
 unfold cu
 apply al (ρ1:=cK (n / 3) most many kd X ps (some (.int zi,.z)) v7 v8 v9)
 ·rw[<- a]
  nomatch [(t _ _ (by decide))]
 apply al (ρ1:=cK (n / 3 / 31) most many kd X ps (some (.int zi,.z)) (some (.int G,.z)) v8 v9)
 ·rw[<- q]
  nomatch [(t _ _ (by decide))]
 apply al (ρ1:=cK (n / 3 / 31) most many kd X ps (some (.int zi,.z)) (some (.int G,.z)) (some (.lst [.int G,.int G,.int (zi * zi+G / 9),.int (G / 9 - zi * zi)],.u)) v9)
 ·exists d5 h
 apply al (ρ1:=cK (n / 3 / 31) most many kd X ps (some (.int zi,.z)) (some (.int G,.z)) (some (.lst [.int G,.int G,.int (zi * zi+G / 9),.int (G / 9 - zi * zi),.int ((zi * zi+30) * (1 - 2 * (zi % 2))),.int (G * 1000)],.u)) v9)
 ·exists d5 h,d5 (by decide),xX k,xX (by decide)
 apply al (ρ1:=cK (n / 3 / 31) most many kd X ps (some (.int zi,.z)) (some (.int G,.z)) (some (.lst [.int G,.int G,.int (zi * zi+G / 9),.int (G / 9 - zi * zi),.int ((zi * zi+30) * (1 - 2 * (zi % 2))),.int (G * 1000)],.u)) (some (.int y0,.z)))
 ·exists r
 apply al
 ·exact m
 ·exists f
set_option tactic.hygienic true in
theorem wT {n most many kd x:Int} (hm:0<=many/\many<=12) (k0:0<=kd) (k1:kd < 6) (x0:-4<=x) (x1:x<=4) :
  ∃ (g j:Int) (ps:List Pt) (v6 v7 v8 v9:Option (L3.D×Fl)),cY (bH fO (aa (ac 2) ag)) (av 6) cu (cK n most many kd x [] none none none none)=some (.ok .nx,cK g most many kd j ps v6 v7 v8 v9)/\(ps.length:Int)=many/\Rising ps/\NoLine ps/\(∀ q∈ps,-5<=q.1/\q.1<=100/\-17000<=q.2/\q.2<=17000):=by
 obtain ⟨ρ',e,g,j,ps,v6,v7,v8,v9,rfl,hl,c,f,bnd,h1,h2⟩:=dO (bnd:=av 6) (b:=cu) (λi ρ=>∃ (n x:Int) (ps:List Pt) (v6 v7 v8 v9:Option (L3.D×Fl)),ρ=cK n most many kd x ps v6 v7 v8 v9/\ps.length=i/\Rising ps/\NoLine ps/\(∀ q∈ps,q.1<=x/\-5<=q.1/\-17000<=q.2/\q.2<=17000)/\-4<=x/\x<=4+3 * (i:Int))
  (ds:=bh 0 many.toNat) (ρ:=cK n most many kd x [] none none none none) (k:=0) ⟨n,x,[],none,none,none,none,rfl,rfl,λ_ _ _ _ _ e _=>by simp at e,λ_ _ _ _ _ _ _ _ e _ _=>by simp at e,λ_ e=>by simp at e,by lia,by lia⟩ (by
   rintro i d ρ hd ⟨n,x,ps,v6,v7,v8,v9,rfl,hl,c,f,bnd,h1,h2⟩
   obtain ⟨hi,rfl⟩:=dI hd
   have h:∀ q∈ps,Small q:=λq a=>by
    obtain ⟨a1,a2,m,l⟩:=bnd q a
    exact ⟨by lia,by lia,by lia,by lia⟩
   obtain ⟨g,dd,y,s,p,o,e,u,d1,fr,y0,t⟩:=wS (n:=n) (most:=most) (many:=many) (kd:=kd) (x:=x) (i:=i) (ps:=ps) (v7:=v7) (v8:=v8) (v9:=v9) c h (by lia) (by lia) k0 k1
   refine ⟨cK n most many kd x ps (some (.int i,.z)) v7 v8 v9,_,by rw[Int.zero_add];rfl,.inl e,g,x+1+dd,ps++[(x+1+dd,y)],_,_,_,_,rfl,by simp;lia,c.snoc λq a=>?_,f.snoc fr,λq a=>?_,by lia,by lia⟩
   ·show q.1 < x+1+dd
    have:=(bnd q a).1
    lia
   ·rcases E8.mp a with a | a
    ·obtain ⟨a1,a2,m,l⟩:=bnd q a
     exact ⟨by lia,by lia,by lia,by lia⟩
    ·have e:q=(x+1+dd,y):=by simpa using a
     subst e
     exact ⟨Int.le_refl _,by show -5<=x+1+dd;lia,by show -17000<=y;lia,by show y<=17000;lia⟩)
 rw[fZ] at hl h2
 have r:fO [.int many]=some (bh 0 many.toNat):=ip (by lia) rfl
 refine ⟨g,j,ps,v6,v7,v8,v9,?_,by lia,c,f,λq a=>?_⟩
 ·apply eK
  ·(repeat' (first | with_reducible apply gm (h3:=r) | infer_instance | eq_refl))
  ·rfl
  ·exact e
 ·obtain ⟨a1,a2,m,l⟩:=bnd q a
  exact ⟨by lia,by lia,by lia,by lia⟩
abbrev scJ (p:Pt):Pt:=iI 1000000000000 1000000000 7 p
theorem pow12:rD (.int 10) (.int 12)=some (.int 1000000000000,.z):=rfl
theorem pow9:rD (.int 10) (.int 9)=some (.int 1000000000,.z):=rfl
def zI (p:Pt):Prop:=-(2 ^ 50) < p.1/\p.1 < 2 ^ 50/\-(2 ^ 50) < p.2/\p.2 < 2 ^ 50
theorem uY (ps:List Pt) (hl:ps.length<=24) {n most many kd x:Int} {v6 v7 v8 v9:Option (L3.D×Fl)}:aS 5 dz (cK n most many kd x ps v6 v7 v8 v9)=some (.ok .nx,cK n most many kd x (ps.map scJ) v6 v7 v8 v9):=by
 obtain ⟨τ',e,a,b,rfl⟩:=lT (bnd:=iV 2 (bM (av 0) (bM (av 1) iW))) (c:=eO) (elt:=fq) (λτ=>∃ a b,τ=[a,b]) Pd (λ_=>true) (λp=>Pd (scJ p)) (xs:=ps) (τ:=[none,none]) ⟨none,none,rfl⟩ (by
  rintro p f τ ⟨a,b,rfl⟩
  exact ⟨[some (.int p.1,.z),some (.int p.2,.z)],_,rfl,rfl,(λh=>by cases h),λ_=>⟨.val (Pd (scJ p)) .z,[some (.int p.1,.z),some (.int p.2,.z)],(Pd (scJ p),.z),_,by unfold fq;(exists pow12,pow9,d5 (by decide)),rfl,rfl,_,_,rfl⟩⟩)
 rw[FI.mpr (λ_ _=>rfl)] at e
 have d:dz (cK n most many kd x ps v6 v7 v8 v9)=some (.ok (.val (.lst (ps.map λp=>Pd (scJ p))) .u),cK n most many kd x ps v6 v7 v8 v9):=c8 (rs:=[.pl 5]) (ρ1:=cK n most many kd x ps v6 v7 v8 v9) (ρ2:=[some (.lst [.int n],.u),some (.int most,.z),some (.int many,.z),some (.int kd,.z),some (.int x,.z),some (.lst (ps.map Pd),.l),v6,v7,v8,v9]) rfl e (by simp;lia) rfl
 rw[show (ps.map λp=>Pd (scJ p))=(ps.map scJ).map Pd by simp] at d
 exact qt d rfl (Nat.le_of_ble_eq_true rfl) rfl
theorem uX (n most:Int) (h1:1<=most) (h2:most<=12):∃ (c:Int) (ps:List Pt),eP [(.lst [.int n],.u),(.int most,.z)]=some (.ok (.tup (ps.map Pd),.z),[(.lst [.int c],.u),(.int most,.z)])/\GoodSh ps/\(ps.length:Int)<=most/\∀ p∈ps,zI p:=by
 have t:=fY
 have a0:=cV n most (by lia)
 have b0:=cV (n / most) 6 (by decide)
 have l:=cV (n / most / 6) 9 (by decide)
 obtain ⟨c,k,ps,v6,v7,v8,v9,e,hl,f,g,bnd⟩:=wT (n:=n / most / 6 / 9) (most:=most) (many:=1+n % most) (kd:=n / most % 6) (x:=n / most / 6 % 9 - 4) ⟨by lia,by lia⟩ b0.1 b0.2 (by lia) (by lia)
 have good:GoodSh ps:=⟨by lia,by lia,λq a=>by
  obtain ⟨a1,a2,i,h⟩:=bnd q a
  exact ⟨by lia,by lia,by lia,by lia⟩,f,g⟩
 have b:GoodSh (ps.map scJ):=⟨by simpa using good.pos,by simpa using good.most,λq a=>by
  obtain ⟨r,d,rfl⟩:=Fe.mp a
  obtain ⟨a1,a2,i,h⟩:=bnd r d
  exact ⟨by show -(2 ^ 62) < (1000000000000:Int) * r.1+7;lia,by show (1000000000000:Int) * r.1+7 < 2 ^ 62;lia,by show -(2 ^ 62) < (1000000000:Int) * r.2;lia,by show (1000000000:Int) * r.2 < 2 ^ 62;lia⟩,f.scale (by decide),g.scale (by decide) (by decide)⟩
 have pre:∀ {r:Option (Except L3.D Flw×Sto)},aE (sIf (cB (ai eqX (au aR (aa (ac 0) (aa (mC (.int 6)) ag))) (mC (.int 5)))) (aS 5 dz) cE) (aW 2 (am kT (aa (ac 5) ag))) (cK c most (1+n % most) (n / most % 6) k ps v6 v7 v8 v9)=r->mZ [some (.lst [.int n],.u),some (.int most,.z),none,none,none,none,none,none,none,none]=r:=by
  intro r d
  apply al (ρ1:=[some (.lst [.int (n / most)],.u),some (.int most,.z),some (.int (1+n % most),.z),none,none,none,none,none,none,none])
  ·nomatch [(t n most (by lia))]
  apply al (ρ1:=[some (.lst [.int (n / most / 6)],.u),some (.int most,.z),some (.int (1+n % most),.z),some (.int (n / most % 6),.z),none,none,none,none,none,none])
  ·nomatch [(t _ _ (by decide))]
  apply al (ρ1:=[some (.lst [.int (n / most / 6 / 9)],.u),some (.int most,.z),some (.int (1+n % most),.z),some (.int (n / most % 6),.z),some (.int (n / most / 6 % 9 - 4),.z),none,none,none,none,none])
  ·nomatch [(t _ _ (by decide))]
  apply al (ρ1:=cK (n / most / 6 / 9) most (1+n % most) (n / most % 6) (n / most / 6 % 9 - 4) [] none none none none)
  ·nofun
  exact al e d
 by_cases j:c % 6=5
 ·refine ⟨c / 6,ps.map scJ,?_,b,by rw[Fa];omega,λq a=>by
   obtain ⟨r,d,rfl⟩:=Fe.mp a
   obtain ⟨a1,a2,i,h⟩:=bnd r d
   exact ⟨by show -(2 ^ 50) < (1000000000000:Int) * r.1+7;omega,by show (1000000000000:Int) * r.1+7 < 2 ^ 50;omega,by show -(2 ^ 50) < (1000000000:Int) * r.2;omega,by show (1000000000:Int) * r.2 < 2 ^ 50;omega⟩⟩
  apply a8 (ρ:=[some (.lst [.int n],.u),some (.int most,.z),none,none,none,none,none,none,none,none]) rfl rfl
  ·apply pre
   apply al
   ·apply eJ
    ·nomatch [(t _ _ (by decide))]
    ·exact Fo j
    ·exact uY ps (by lia)
   ·nofun
  ·rfl
 ·refine ⟨c / 6,ps,?_,good,by omega,λq a=>by
   obtain ⟨a1,a2,i,h⟩:=bnd q a
   exact ⟨by omega,by omega,by omega,by omega⟩⟩
  apply a8 (ρ:=[some (.lst [.int n],.u),some (.int most,.z),none,none,none,none,none,none,none,none]) rfl rfl
  ·apply pre
   apply al
   ·apply dM
    ·nomatch [(t _ _ (by decide))]
    ·exact Fp j
    ·rfl
   ·nofun
  ·rfl
theorem uA {α:Type} (b:α->Bool):∀ xs:List α,fM (xs.map λx=>L3.D.bl (b x))=some (xs.map b)
 | []=>rfl
 | x::xs=>by simp[fM,uA b xs]
theorem sG {α:Type} (b:α->Bool) (xs:List α):wo [.lst (xs.map λx=>L3.D.bl (b x))]=some (.bl (xs.all b),.z):=by
 show (fM _).map _=_
 rw[uA]
 simp[List.all_map]
def nox:L3.D->Bool
 | .exc _ _=>false
 | _=>true
def wh:L3.D->Bool
 | .int _=>true
 | _=>false
theorem wh_l {d:L3.D} (h:nox d=true):iy [(d,.z)]=some (.ok (.bl (wh d),.z),[(d,.z)]):=by
 cases d <;> first | exact (Fh h).elim | kernel_rfl
theorem wh_p {d:L3.D} (h:nox d=true):cb [(d,.z)]=some (.ok (.bl (wh d),.z),[(d,.z)]):=by
 cases d <;> first | exact (Fh h).elim | kernel_rfl
theorem qu {f b:L3.D->L3.D->Option (L3.D×Fl)} {ma mb mc:EM} {ra rb:R3} {ρ ρ1 ρ2:Sto} {da db:L3.D} {fl:Fl} (h1:ma ρ=some (.ok ra,ρ1)) (h2:mb ρ1=some (.ok rb,ρ2)) (h3:der ra ρ2=some (.ok da,ρ2)) (a:der rb ρ2=some (.ok db,ρ2)) (c:f da db=some (.bl false,fl)):cO f b ma mb mc ρ=some (.ok (.val (.bl false) .z),ρ2):=by
 simp only[cO,af,h1,h2,h3,a,c,aT,Option.bind_some,asB,Fw,FA,if_false]
 rfl
def okp:L3.D->Bool
 | .exc _ _=>false
 | .tup xs=>xs.all nox && decide (xs.length<=16000)
 | _=>true
def cQ:L3.D->Bool
 | .tup [.int _,.int _]=>true
 | _=>false
theorem xD {a b:L3.D}:cQ (.tup [a,b])=(wh a && wh b):=by
 cases a <;> cases b <;> rfl
set_option tactic.hygienic true in
theorem ot {xs:List L3.D} (h:xs.length≠2):cQ (.tup xs)=false:=by
 unfold cQ
 split
 ·rename_i e
  cases e
  exact absurd rfl h
 ·rfl
theorem En {ma mb:EM} {r:R3} {ρ ρ1:Sto} {x y:Bool} (h1:ma ρ=some (.ok r,ρ1)) (h2:der r ρ1=some (.ok (.bl x),ρ1)) (h3:x=true->mb ρ1=some (.ok (.val (.bl y) .z),ρ1)):dU ma mb ρ=some (.ok (.val (.bl (x && y)) .z),ρ1):=by
 cases x with
 | false=>exact fw h1 h2 rfl
 | true=>exact fv h1 h2 rfl (h3 rfl)
theorem ww {xs:List L3.D} (h:xs.length=2):∃ a b,xs=[a,b]:=by
 match xs,h with
 | [a,b],_=>exact ⟨a,b,rfl⟩
theorem oJ (xs:List L3.D):bV [.tup xs]=some (.int (xs.length:Int),.z):=by simp[qp,c1]
theorem pt_p {d:L3.D} (h:okp d=true):dS [(d,.z)]=some (.ok (.bl (cQ d),.z),[(d,.z)]):=by
 have run:∀ {x:Bool},dU (mUn (dl "tuple") (ac 0)) (dU (ai eqX (am bV (aa (ac 0) ag)) (mC (.int 2))) (dU (au cb (aa (ai aJ (ac 0) (mC (.int 0))) ag)) (au cb (aa (ai aJ (ac 0) (mC (.int 1))) ag)))) [some (d,.z)]=some (.ok (.val (.bl x) .z),[some (d,.z)])->dS [(d,.z)]=some (.ok (.bl x,.z),[(d,.z)]):=λe =>
  a8 (ρ:=[some (d,.z)]) (ρ1:=[some (d,.z)]) rfl rfl (c9 e rfl) rfl
 by_cases g:∃ xs,d=.tup xs
 ·obtain ⟨xs,rfl⟩:=g
  have f:=List.all_eq_true.mp (Bool.and_eq_true_iff.mp (show (xs.all nox && decide (xs.length<=16000))=true from h)).1
  have i:=oJ xs
  have c:dl "tuple" (.tup xs)=some (.bl true,.z):=rfl
  have eq:eqX (.int (xs.length:Int)) (.int 2)=some (.bl (decide ((xs.length:Int)=2)),.z):=rfl
  by_cases h2:xs.length=2
  ·obtain ⟨a,b,rfl⟩:=ww h2
   have j:=wh_p (f a (by simp))
   have k:=wh_p (f b (by simp))
   have sa:aJ (.tup [a,b]) (.int 0)=some (a,.z):=fS rfl
   have sb:aJ (.tup [a,b]) (.int 1)=some (b,.z):=fS rfl
   rw[xD]
   refine run ?_
   clear h f h2 run
   generalize L3.D.tup [a,b]=T at *
   exact fv (iS (aB rfl) rfl c) rfl rfl (fv (dN (aL (ao (aB rfl) aF) rfl i) i_c rfl rfl eq) rfl rfl (En (aD j (ao (dN (aB rfl) i_c rfl rfl sa) aF) rfl rfl rfl) rfl λ_=>aD k (ao (dN (aB rfl) i_c rfl rfl sb) aF) rfl rfl rfl))
  ·rw[ot h2]
   refine run ?_
   clear h f run
   generalize L3.D.tup xs=T at *
   exact fv (iS (aB rfl) rfl c) rfl rfl (fw (dN (aL (ao (aB rfl) aF) rfl i) i_c rfl rfl eq) rfl (Fp (by omega)))
 ·have e:cQ d=false:=by
   unfold cQ
   split
   ·exact absurd ⟨_,rfl⟩ g
   ·rfl
  have c:dl "tuple" d=some (.bl false,.z):=by
   cases d <;> first | exact (Fh h).elim | exact absurd ⟨_,rfl⟩ g | rfl
  rw[e]
  exact run (fw (iS (aB rfl) rfl c) rfl rfl)
theorem A9 {T d:L3.D} (h:okp d=true):bj [some (T,.z),some (d,.z)]=some (.ok (if cQ d then .nx else .rt (.bl false) .z),[some (T,.z),some (d,.z)]):=by
 have run:∀ {x:Bool},(cOr (cC (cB (mUn (dl "tuple") (ac 1)))) (cOr (cB (ai neX (am bV (aa (ac 1) ag)) (mC (.int 2)))) (cC (cB (am wo (aa eB ag)))))) [some (T,.z),some (d,.z)]=some (.ok (!x),[some (T,.z),some (d,.z)])->bj [some (T,.z),some (d,.z)]=some (.ok (if x then .nx else .rt (.bl false) .z),[some (T,.z),some (d,.z)]):=λ{x} e=>by
  unfold bj
  cases x with
  | true=>exact dM e rfl rfl
  | false=>exact eJ e rfl (c9 i_c rfl)
 by_cases g:∃ xs,d=.tup xs
 ·obtain ⟨xs,rfl⟩:=g
  have i:=List.all_eq_true.mp (Bool.and_eq_true_iff.mp (show (xs.all nox && decide (xs.length<=16000))=true from h)).1
  have k:=oJ xs
  have f:dl "tuple" (.tup xs)=some (.bl true,.z):=rfl
  have eq:neX (.int (xs.length:Int)) (.int 2)=some (.bl (!decide ((xs.length:Int)=2)),.z):=rfl
  by_cases h2:xs.length=2
  ·obtain ⟨a,b,rfl⟩:=ww h2
   obtain ⟨τ',e,u,rfl⟩:=dR (bnd:=av 0) (c:=eO) (elt:=eC) (λτ=>∃ a,τ=[a]) (λ_=>true) (λd=>.bl (wh d)) (ds:=[a,b]) (τ:=[none]) ⟨none,rfl⟩ (by
    rintro d hd τ ⟨u,rfl⟩
    have w:=wh_l (i d hd)
    exact ⟨[some (d,.z)],_,rfl,rfl,(λh=>by cases h),λ_=>⟨.val (.bl (wh d)) .z,[some (d,.z)],(.bl (wh d),.z),[some (d,.z)],by unfold eC;exact aD w (ao (aB rfl) aF) rfl rfl rfl,rfl,rfl,_,rfl⟩⟩)
   rw[FI.mpr λ_ _=>rfl] at e
   have j:=sG wh [a,b]
   have m:eB [some (T,.z),some (.tup [a,b],.z)]=some (.ok (.val (.lst ([a,b].map λd=>L3.D.bl (wh d))) .u),[some (T,.z),some (.tup [a,b],.z)]):=c8 (im:=cg (ac 1)) (ix:=[none]) (ρ1:=[some (T,.z),some (.tup [a,b],.z)]) (ρ2:=[some (T,.z),some (.tup [a,b],.z)]) (ds:=[a,b]) (rs:=[.pl 1]) rfl e (by simp) rfl
   rw[xD]
   have l:[a,b].all wh=(wh a && wh b):=by simp
   rw[l] at j
   refine run ?_
   clear h i h2 run e
   generalize ([a,b].map λd=>L3.D.bl (wh d))=out at *
   generalize L3.D.tup [a,b]=D2 at *
   exact iC (bI (dB (iS (aB rfl) rfl f) rfl)) rfl (iC (dB (dN (aL (ao (aB rfl) aF) rfl k) i_c rfl rfl eq) rfl) rfl (bI (dB (aL (ao m aF) rfl j) rfl)))
  ·rw[ot h2]
   refine run ?_
   rw[Fp (by omega)] at eq
   clear h i run
   generalize L3.D.tup xs=D2 at *
   exact iC (bI (dB (iS (aB rfl) rfl f) rfl)) rfl (t9 (dB (dN (aL (ao (aB rfl) aF) rfl k) i_c rfl rfl eq) rfl) rfl)
 ·have e:cQ d=false:=by
   unfold cQ
   split
   ·exact absurd ⟨_,rfl⟩ g
   ·rfl
  have f:dl "tuple" d=some (.bl false,.z):=by
   cases d <;> first | exact (Fh h).elim | exact absurd ⟨_,rfl⟩ g | rfl
  rw[e]
  exact run (t9 (bI (dB (iS (aB rfl) rfl f) rfl)) rfl)
theorem xB:∀ {xs:List L3.D},xs.all cQ=true->∃ ps:List Pt,xs=ps.map Pd
 | [],_=>⟨[],rfl⟩
 | d::xs,h=>by
  rw[List.all_cons,Bool.and_eq_true] at h
  obtain ⟨ps,rfl⟩:=xB h.2
  have h1:=h.1
  unfold cQ at h1
  split at h1
  ·exact ⟨(_,_)::ps,rfl⟩
  ·cases h1
theorem tG (ps:List Pt):(ps.map Pd).all cQ=true:=by
 refine List.all_eq_true.mpr λd hd=>?_
 obtain ⟨p,_,rfl⟩:=Fe.mp hd
 rfl
theorem xA (ps:List Pt):∀ d∈ps.map Pd,okp d=true:=λd hd=>by
 obtain ⟨p,_,rfl⟩:=Fe.mp hd
 rfl
def dst (zs:List Int):Bool:=decide ((zs.foldl met []).length=zs.length)
def rb (ps:List Pt):L3.D->Bool
 | .int i=>decide ((ps.getD i.toNat (0,0)).1 < (ps.getD (i.toNat+1) (0,0)).1)
 | _=>false
set_option tactic.hygienic true in
theorem xc (ps:List Pt) (h0:0 < ps.length) (h1:ps.length<=24):bK [(Shd ps,.z)]=some (.ok (.bl ((bh 0 (ps.length - 1)).all (rb ps)),.z),[(Shd ps,.z)]):=by
 obtain ⟨τ',e,a,rfl⟩:=dR (bnd:=av 0) (c:=eO) (elt:=cw) (λτ=>∃ a,τ=[a,some (Shd ps,.z)]) (λ_=>true) (λd=>.bl (rb ps d)) (ds:=bh 0 (ps.length - 1)) (τ:=[none,some (Shd ps,.z)]) ⟨none,rfl⟩ (by
  rintro d hd τ ⟨a,rfl⟩
  obtain ⟨i,hi⟩:=List.getElem?_of_mem hd
  obtain ⟨hi,rfl⟩:=dI hi
  have g:ps[i]?=some (ps[i]'(by omega)):=E6 _
  have f:ps[i+1]?=some (ps[i+1]'(by omega)):=E6 _
  have k:rb ps (.int (0+(i:Int)))=decide ((ps[i]'(by omega)).1 < (ps[i+1]'(by omega)).1):=by
   rw[Int.zero_add]
   show decide ((ps.getD (i:Int).toNat (0,0)).1 < (ps.getD ((i:Int).toNat+1) (0,0)).1)=_
   rw[Int.toNat_natCast,List.getD_eq_getElem?_getD,List.getD_eq_getElem?_getD,g,f]
   rfl
  have a1:aJ (Shd ps) (.int (0+(i:Int)))=some (Pd (ps[i]'(by omega)),.z):=fS (by rw[Int.zero_add];exact qM g)
  have a2:aJ (Shd ps) (.int (0+(i:Int)+1))=some (Pd (ps[i+1]'(by omega)),.z):=fS (by rw[Int.zero_add];exact qM f)
  have hl:ltI (.int (ps[i]'(by omega)).1) (.int (ps[i+1]'(by omega)).1)=some (.bl (rb ps (.int (0+(i:Int)))),.z):=by rw[k];simp[cR]
  generalize rb ps (.int (0+(i:Int)))=c at *
  generalize (0+(i:Int))=j at *
  refine ⟨[some (.int j,.z),some (Shd ps,.z)],_,rfl,rfl,(λh=>by cases h),λ_=>⟨.val (.bl c) .z,[some (.int j,.z),some (Shd ps,.z)],(.bl c,.z),[some (.int j,.z),some (Shd ps,.z)],?_,rfl,rfl,_,rfl⟩⟩
  unfold cw
  (exists a1,a2,hl))
 rw[FI.mpr λ_ _=>rfl] at e
 have m:fO [.int (((ps.map Pd).length:Int) - 1)]=some (bh 0 (ps.length - 1)):=ip (by simp;lia) (by simp)
 have l:=sG (rb ps) (bh 0 (ps.length - 1))
 generalize ((bh 0 (ps.length - 1)).map λd=>L3.D.bl (rb ps d))=out at *
 have n:ee [some (Shd ps,.z)]=some (.ok (.val (.lst out) .u),[some (Shd ps,.z)]):=c8 (ρ1:=[some (Shd ps,.z)]) (rs:=[]) (by (repeat' (first | with_reducible apply gm (h3:=m) | infer_instance | eq_refl))) e (by rw[fZ];lia) rfl
 generalize (bh 0 (ps.length - 1)).all (rb ps)=b at *
 exact a8 (ρ:=[some (Shd ps,.z)]) (ρ1:=[some (Shd ps,.z)]) rfl rfl (c9 (aL (ao n aF) rfl l) rfl) rfl
theorem sY (ps:List Pt):(bh 0 (ps.length - 1)).all (rb ps)=true ↔ Rising ps:=by
 rw[List.all_eq_true]
 constructor
 ·intro h
  have st:∀ (i:Nat) (p q:Pt),ps[i]?=some p->ps[i+1]?=some q->p.1 < q.1:=λi p q b a=>by
   have hi:=(Fb.mp a).1
   have:=h (.int (0+(i:Int))) (by unfold bh;exact Fe.mpr ⟨i,List.mem_range.mpr (by omega),rfl⟩)
   rw[Int.zero_add] at this
   have this:decide ((ps.getD (i:Int).toNat (0,0)).1 < (ps.getD ((i:Int).toNat+1) (0,0)).1)=true:=this
   rw[Int.toNat_natCast,List.getD_eq_getElem?_getD,List.getD_eq_getElem?_getD,b,a] at this
   exact of_decide_eq_true this
  have up:∀ (m i:Nat) (p q:Pt),ps[i]?=some p->ps[i+1+m]?=some q->p.1 < q.1:=by
   intro m
   induction m with
   | zero=>exact λi p q b a=>st i p q b a
   | succ m ih =>
    intro i p q b a
    have hl:=(Fb.mp a).1
    have hm:ps[i+1+m]?=some (ps[i+1+m]'(by omega)):=E6 _
    exact Int.lt_trans (ih i p _ b hm) (st (i+1+m) _ q hm a)
  intro i j p q f b a
  exact up (j - (i+1)) i p q b (by rwa [show i+1+(j - (i+1))=j by omega])
 ·intro R d hd
  obtain ⟨i,hi⟩:=List.getElem?_of_mem hd
  obtain ⟨hi,rfl⟩:=dI hi
  have e:ps[i]?=some (ps[i]'(by omega)):=E6 _
  have c:ps[i+1]?=some (ps[i+1]'(by omega)):=E6 _
  rw[Int.zero_add]
  show decide ((ps.getD (i:Int).toNat (0,0)).1 < (ps.getD ((i:Int).toNat+1) (0,0)).1)=true
  rw[Int.toNat_natCast,List.getD_eq_getElem?_getD,List.getD_eq_getElem?_getD,e,c]
  exact Fo (R i (i+1) _ _ (by omega) e c)
theorem iq (xs:List L3.D):bV [.lst xs]=some (.int (xs.length:Int),.z):=by simp[qp,c1]
theorem nN {xs:List L3.D} (f:∀ d∈xs,okp d=true) (hl:xs.length<=16000):bA [(.lst xs,.z)]=some (.ok (.bl (decide (1<=xs.length/\xs.length<=24) && xs.all cQ),.z),[(.lst xs,.z)]):=by
 have g:=iq xs
 by_cases h1:1<=xs.length
 ·by_cases h2:xs.length<=24
  ·obtain ⟨τ',e,a,rfl⟩:=dR (bnd:=av 0) (c:=eO) (elt:=dj) (λτ=>∃ a,τ=[a]) (λ_=>true) (λd=>.bl (cQ d)) (ds:=xs) (τ:=[none]) ⟨none,rfl⟩ (by
    rintro d hd τ ⟨a,rfl⟩
    have pt:=pt_p (f d hd)
    exact ⟨[some (d,.z)],_,rfl,rfl,(λh=>by cases h),λ_=>⟨.val (.bl (cQ d)) .z,[some (d,.z)],(.bl (cQ d),.z),[some (d,.z)],by unfold dj;exact aD pt (ao (aB rfl) aF) rfl rfl rfl,rfl,rfl,_,rfl⟩⟩)
   rw[FI.mpr λ_ _=>rfl] at e
   have i:=sG cQ xs
   have j:fH [some (.lst xs,.z)]=some (.ok (.val (.lst (xs.map λd=>L3.D.bl (cQ d))) .u),[some (.lst xs,.z)]):=c8 (im:=cg (ac 0)) (ix:=[none]) (ρ1:=[some (.lst xs,.z)]) (ρ2:=[some (.lst xs,.z)]) (ds:=xs) (rs:=[.pl 0]) rfl e (by omega) rfl
   have g1:leI (.int 1) (.int (xs.length:Int))=some (.bl true,.z):=by simp[cR];omega
   have g2:leI (.int (xs.length:Int)) (.int 24)=some (.bl true,.z):=by simp[cR];omega
   rw[Fo ⟨h1,h2⟩,Bool.true_and]
   clear e f
   generalize (xs.map λd=>L3.D.bl (cQ d))=out at *
   generalize xs.all cQ=b at *
   generalize L3.D.int (xs.length:Int)=N at *
   generalize L3.D.lst xs=T at *
   refine a8 (ρ:=[some (T,.z)]) (ρ1:=[some (T,.z)]) rfl rfl (c9 (fv (kI i_c (aL (ao (aB rfl) aF) rfl g) rfl rfl g1 i_c rfl rfl g2) rfl rfl (aL (ao j aF) rfl i)) rfl) rfl
  ·have g1:leI (.int 1) (.int (xs.length:Int))=some (.bl true,.z):=by simp[cR];omega
   have g2:leI (.int (xs.length:Int)) (.int 24)=some (.bl false,.z):=by simp[cR];omega
   rw[Fp (λh=>h2 h.2),Bool.false_and]
   clear f
   generalize L3.D.int (xs.length:Int)=N at *
   generalize L3.D.lst xs=T at *
   refine a8 (ρ:=[some (T,.z)]) (ρ1:=[some (T,.z)]) rfl rfl (c9 (fw (kI i_c (aL (ao (aB rfl) aF) rfl g) rfl rfl g1 i_c rfl rfl g2) rfl rfl) rfl) rfl
 ·have g1:leI (.int 1) (.int (xs.length:Int))=some (.bl false,.z):=by simp[cR];omega
  rw[Fp (λh=>h1 h.1),Bool.false_and]
  clear f
  generalize L3.D.int (xs.length:Int)=N at *
  generalize L3.D.lst xs=T at *
  refine a8 (ρ:=[some (T,.z)]) (ρ1:=[some (T,.z)]) rfl rfl (c9 (fw (qu i_c (aL (ao (aB rfl) aF) rfl g) rfl rfl g1) rfl rfl) rfl) rfl
theorem lG {xs:List L3.D} (g:∀ d∈xs,okp d=true):∃ w,df (av 1) bj xs [some (.lst xs,.z),none]=some (.ok (if xs.all cQ then .nx else .rt (.bl false) .z),[some (.lst xs,.z),w]):=by
 have key:∀ (ds:List L3.D) (v:Option (L3.D×Fl)),(∀ d∈ds,okp d=true)->∃ w,df (av 1) bj ds [some (.lst xs,.z),v]=some (.ok (if ds.all cQ then .nx else .rt (.bl false) .z),[some (.lst xs,.z),w]):=by
  intro ds v hd
  obtain ⟨ρ',h⟩:=kK (bnd:=av 1) (b:=bj) (λk ρ=>(∃ w,ρ=[some (.lst xs,.z),w])/\∀ (i:Nat) d,i < k->ds[i]?=some d->cQ d=true) (λi r f ρ=>(∃ w,ρ=[some (.lst xs,.z),w])/\r=.bl false/\f=.z/\∃ d∈ds,cQ d=false) (ds:=ds) (ρ:=[some (.lst xs,.z),v]) (k:=0) ⟨⟨v,rfl⟩,λi d h=>by omega⟩ (by
   rintro i d ρ hi ⟨⟨w,rfl⟩,c⟩
   have one:=A9 (T:=.lst xs) (hd d (Fc hi))
   refine ⟨[some (.lst xs,.z),some (d,.z)],[some (.lst xs,.z),some (d,.z)],rfl,?_⟩
   cases a:cQ d with
   | true =>
    rw[a] at one
    refine .inl ⟨.inl one,⟨_,rfl⟩,λj e l he=>?_⟩
    by_cases z:j=i
    ·subst z;rw[hi] at he;cases he;exact a
    ·exact c j e (by omega) he
   | false =>
    rw[a] at one
    exact .inr ⟨.bl false,.z,one,⟨_,rfl⟩,rfl,rfl,d,Fc hi,a⟩)
  rcases h with ⟨e,⟨w,rfl⟩,c⟩ | ⟨i,r,f,hi,e,⟨w,rfl⟩,rfl,rfl,d,hd,a⟩
  ·refine ⟨w,?_⟩
   rw[if_pos]
   ·exact e
   ·refine List.all_eq_true.mpr λd hd=>?_
    obtain ⟨i,hi⟩:=List.getElem?_of_mem hd
    exact c i d (by have:=(Fb.mp hi).1;omega) hi
  ·refine ⟨w,?_⟩
   rw[if_neg]
   ·exact e
   ·intro h
    have:=List.all_eq_true.mp h d hd
    rw[a] at this
    cases this
 exact key xs none g
theorem yr {xs:List L3.D} (a:∀ d∈xs,okp d=true) (h:xs.all cQ=false):bz [(.lst xs,.z)]=some (.ok (.bl false,.z),[(.lst xs,.z)]):=by
 obtain ⟨w,e⟩:=lG a
 rw[h] at e
 refine a8 (ρ:=[some (.lst xs,.z),none]) (ρ1:=[some (.lst xs,.z),w]) rfl rfl (fV (eK (js (aB rfl) rfl rfl) rfl e)) rfl
theorem m5 (ps:List Pt) (hl:ps.length<=60):bz [(L3.D.lst (ps.map Pd),.z)]=some (.ok (.bl (decide (1<=ps.length/\ps.length<=24) && dst (ps.map (·.1))),.z),[(L3.D.lst (ps.map Pd),.z)]):=by
 obtain ⟨w,e⟩:=lG (xA ps)
 rw[tG] at e
 have f:bV [L3.D.lst (ps.map Pd)]=some (.int (ps.length:Int),.z):=by
  have:=iq (ps.map Pd)
  rwa [Fa] at this
 have fin:∀ {x:Bool},dU (cO leI leI (mC (.int 1)) (am bV (aa (ac 0) ag)) (mC (.int 24))) (ai eqX (am lsD (aa eA ag)) (am bV (aa (ac 0) ag))) [some (L3.D.lst (ps.map Pd),.z),w]=some (.ok (.val (.bl x) .z),[some (L3.D.lst (ps.map Pd),.z),w])->bz [(L3.D.lst (ps.map Pd),.z)]=some (.ok (.bl x,.z),[(L3.D.lst (ps.map Pd),.z)]):=λ{x} h=>by
  refine a8 (ρ:=[some (L3.D.lst (ps.map Pd),.z),none]) (ρ1:=[some (L3.D.lst (ps.map Pd),.z),w]) rfl rfl (al (eK (js (aB rfl) rfl rfl) rfl e) ?_) rfl
  exact c9 h rfl
 refine fin ?_
 by_cases h1:1<=ps.length
 ·have g1:leI (.int 1) (.int (ps.length:Int))=some (.bl true,.z):=by simp[cR];omega
  by_cases h2:ps.length<=24
  ·obtain ⟨τ',e,a,rfl⟩:=dR (bnd:=av 0) (c:=eO) (elt:=cU) (λτ=>∃ a,τ=[a]) (λ_=>true) (λd=>match d with | .tup (x::_)=>x | _=>.non) (ds:=ps.map Pd) (τ:=[none]) ⟨none,rfl⟩ (by
    rintro d hd τ ⟨a,rfl⟩
    obtain ⟨p,j,rfl⟩:=Fe.mp hd
    have s0:aJ (Pd p) (.int 0)=some (.int p.1,.z):=fS rfl
    exact ⟨[some (Pd p,.z)],_,rfl,rfl,(λh=>by cases h),λ_=>⟨.val (.int p.1) .z,[some (Pd p,.z)],(.int p.1,.z),[some (Pd p,.z)],by unfold cU;exact dN (aB rfl) i_c rfl rfl s0,rfl,rfl,_,rfl⟩⟩)
   rw[FI.mpr λ_ _=>rfl,FJ] at e
   have e:bL (av 0) eO cU (ps.map Pd) [none]=some (.ok ((ps.map (·.1)).map L3.D.int),[a]):=by
    rw[e,FJ]
    rfl
   have i:eA [some (L3.D.lst (ps.map Pd),.z),w]=some (.ok (.val (.lst ((ps.map (·.1)).map L3.D.int)) .u),[some (L3.D.lst (ps.map Pd),.z),w]):=c8 (im:=cg (ac 0)) (ix:=[none]) (ρ1:=[some (L3.D.lst (ps.map Pd),.z),w]) (ρ2:=[some (L3.D.lst (ps.map Pd),.z),w]) (ds:=ps.map Pd) (rs:=[.pl 0]) rfl e (by simp;omega) rfl
   have g2:leI (.int (ps.length:Int)) (.int 24)=some (.bl true,.z):=by simp[cR];omega
   have g:lsD [.lst ((ps.map (·.1)).map L3.D.int)]=some (.int (((ps.map (·.1)).foldl met []).length:Int),.z):=by
    show (bR _).bind _=_
    rw[lJ]
    show (if _ then _ else _)=_
    rw[if_pos (by rw[Fa];omega)]
   have eq:eqX (.int (((ps.map (·.1)).foldl met []).length:Int)) (.int (ps.length:Int))=some (.bl (dst (ps.map (·.1))),.z):=by
    have:dst (ps.map (·.1))=decide ((((ps.map (·.1)).foldl met []).length:Int)=(ps.length:Int)):=by
     unfold dst
     rw[Fa]
     exact decide_eq_decide.mpr (by omega)
    rw[this]
    rfl
   rw[Fo ⟨h1,h2⟩,Bool.true_and]
   clear e fin
   generalize (ps.map (·.1)).map L3.D.int=out at *
   generalize dst (ps.map (·.1))=b at *
   generalize L3.D.int (((ps.map (·.1)).foldl met []).length:Int)=M at *
   generalize L3.D.int (ps.length:Int)=N at *
   generalize L3.D.lst (ps.map Pd)=T at *
   exact fv (kI i_c (aL (ao (aB rfl) aF) rfl f) rfl rfl g1 i_c rfl rfl g2) rfl rfl (dN (aL (ao i aF) rfl g) (aL (ao (aB rfl) aF) rfl f) rfl rfl eq)
  ·have g2:leI (.int (ps.length:Int)) (.int 24)=some (.bl false,.z):=by simp[cR];omega
   rw[Fp (λh=>h2 h.2),Bool.false_and]
   exact fw (kI i_c (aL (ao (aB rfl) aF) rfl f) rfl rfl g1 i_c rfl rfl g2) rfl rfl
 ·have g1:leI (.int 1) (.int (ps.length:Int))=some (.bl false,.z):=by simp[cR];omega
  rw[Fp (λh=>h1 h.1),Bool.false_and]
  exact fw (qu i_c (aL (ao (aB rfl) aF) rfl f) rfl rfl g1) rfl rfl
set_option tactic.hygienic true in
theorem vK {S:List L3.D} {i j k:Int} {p q r:Pt} {v2:Option (L3.D×Fl)} (a1:aJ (.tup S) (.int i)=some (Pd p,.z)) (a2:aJ (.tup S) (.int j)=some (Pd q,.z)) (g:aJ (.tup S) (.int k)=some (Pd r,.z)) (b:iX [(Pd p,.z),(Pd q,.z),(Pd r,.z)]=some (.ok (.int (ba p q r),.z),[(Pd p,.z),(Pd q,.z),(Pd r,.z)])) (h0:ba p q r≠0):aU [some (.tup S,.z),some (.tup [.int i,.int j,.int k],.z),v2]=some (.ok .nx,[some (.tup S,.z),some (.tup [.int i,.int j,.int k],.z),some (.tup [Pd p,Pd q,Pd r],.z)]):=by
 have one:∀ (x d:L3.D) (a:Option (L3.D×Fl)),aJ (.tup S) x=some (d,.z)->a9 [some (x,.z),some (.tup S,.z)]=some (.ok (.val d .z),[some (x,.z),some (.tup S,.z)]):=λx d a h=>by unfold a9;(exists h)
 have c:b8 [some (.tup S,.z),some (.tup [.int i,.int j,.int k],.z),v2]=some (.ok (.val (.lst [Pd p,Pd q,Pd r]) .u),[some (.tup S,.z),some (.tup [.int i,.int j,.int k],.z),v2]):=by
  refine c8 (ρ1:=[some (.tup S,.z),some (.tup [.int i,.int j,.int k],.z),v2]) (ρ2:=[some (.tup S,.z),some (.tup [.int i,.int j,.int k],.z),v2]) (ds:=[.int i,.int j,.int k]) (rs:=[.pl 1]) (τ:=[some (.int k,.z),some (.tup S,.z)]) rfl ?_ (by simp) rfl
  have e1:=one (.int i) _ none a1
  have l:=one (.int j) _ none a2
  have f:=one (.int k) _ none g
  have e:∀ d a,av 0 d [a,some (L3.D.tup S,.z)]=some [some (d,.z),some (.tup S,.z)]:=λ_ _=>rfl
  have cs:qH [none,some 0] (aG bU (us [some (L3.D.tup S,.z),some (.tup [.int i,.int j,.int k],.z),v2] (pls [R3.pl 1])) [some (.tup S,.z),some (.tup [.int i,.int j,.int k],.z),v2])=[none,some (.tup S,.z)]:=rfl
  rw[cs]
  simp only[bL,e,eO,af,aQ,if_true,e1,l,f,cX,nol]
 unfold aU
 apply al
 ·(repeat' (first | with_reducible exact c | infer_instance | eq_refl))
 ·apply dM
  ·nomatch [b]
  ·exact Fp h0
  ·rfl
set_option tactic.hygienic true in
theorem vL {S:List L3.D} {i j k:Int} {p q r:Pt} {v2:Option (L3.D×Fl)} (a1:aJ (.tup S) (.int i)=some (Pd p,.z)) (a2:aJ (.tup S) (.int j)=some (Pd q,.z)) (g:aJ (.tup S) (.int k)=some (Pd r,.z)) (b:iX [(Pd p,.z),(Pd q,.z),(Pd r,.z)]=some (.ok (.int (ba p q r),.z),[(Pd p,.z),(Pd q,.z),(Pd r,.z)])) (h0:ba p q r=0):aU [some (.tup S,.z),some (.tup [.int i,.int j,.int k],.z),v2]=some (.ok (.rt (.tup [Pd p,Pd q,Pd r]) .z),[some (.tup S,.z),some (.tup [.int i,.int j,.int k],.z),some (.tup [Pd p,Pd q,Pd r],.z)]):=by
 have one:∀ (x d:L3.D) (a:Option (L3.D×Fl)),aJ (.tup S) x=some (d,.z)->a9 [some (x,.z),some (.tup S,.z)]=some (.ok (.val d .z),[some (x,.z),some (.tup S,.z)]):=λx d a h=>by unfold a9;(exists h)
 have c:b8 [some (.tup S,.z),some (.tup [.int i,.int j,.int k],.z),v2]=some (.ok (.val (.lst [Pd p,Pd q,Pd r]) .u),[some (.tup S,.z),some (.tup [.int i,.int j,.int k],.z),v2]):=by
  refine c8 (ρ1:=[some (.tup S,.z),some (.tup [.int i,.int j,.int k],.z),v2]) (ρ2:=[some (.tup S,.z),some (.tup [.int i,.int j,.int k],.z),v2]) (ds:=[.int i,.int j,.int k]) (rs:=[.pl 1]) (τ:=[some (.int k,.z),some (.tup S,.z)]) rfl ?_ (by simp) rfl
  have e1:=one (.int i) _ none a1
  have l:=one (.int j) _ none a2
  have f:=one (.int k) _ none g
  have e:∀ d a,av 0 d [a,some (L3.D.tup S,.z)]=some [some (d,.z),some (.tup S,.z)]:=λ_ _=>rfl
  have cs:qH [none,some 0] (aG bU (us [some (L3.D.tup S,.z),some (.tup [.int i,.int j,.int k],.z),v2] (pls [R3.pl 1])) [some (.tup S,.z),some (.tup [.int i,.int j,.int k],.z),v2])=[none,some (.tup S,.z)]:=rfl
  rw[cs]
  simp only[bL,e,eO,af,aQ,if_true,e1,l,f,cX,nol]
 unfold aU
 apply al (ρ1:=[some (.tup S,.z),some (.tup [.int i,.int j,.int k],.z),some (.tup [Pd p,Pd q,Pd r],.z)])
 ·(repeat' (first | with_reducible exact c | infer_instance | eq_refl))
 ·apply eJ
  ·nomatch [b]
  ·exact Fo h0
  ·exact c9 (aB rfl) rfl
theorem eqiq {i j:Int}:eqX (.int i) (.int j)=some (.bl (decide (i=j)),.z):=rfl
abbrev fnd:Option L3.D->Flw
 | none=>.nx
 | some o=>.rt o .z
theorem eL {α:Type} {bnd:L3.D->Sto->Option Sto} {b:SM} (P:Sto->Prop) (D:α->L3.D) (f:α->Option L3.D):∀ {xs:List α} {ρ:Sto},P ρ ->
  (∀ x∈xs,∀ ρ,P ρ->∃ ρ1 ρ2,bnd (D x) ρ=some ρ1/\P ρ2/\b ρ1=some (.ok (fnd (f x)),ρ2))->∃ ρ',P ρ'/\df bnd b (xs.map D) ρ=some (.ok (fnd (xs.findSome? f)),ρ')
 | [],ρ,h,_=>⟨ρ,h,rfl⟩
 | x::xs,ρ,h,hs=>by
  obtain ⟨ρ1,ρ2,e1,h2,a⟩:=hs x EW ρ h
  cases hf:f x with
  | some o =>
   rw[hf] at a
   refine ⟨ρ2,h2,?_⟩
   rw[Fm,List.findSome?_cons,hf]
   unfold df
   simp only[e1,af,a,aQ]
  | none =>
   rw[hf] at a
   obtain ⟨ρ',h3,c⟩:=eL P D f h2 λy d=>hs y (EY _ d)
   refine ⟨ρ',h3,?_⟩
   rw[Fm,List.findSome?_cons,hf]
   unfold df
   simp only[e1,af,a]
   exact c
theorem jR {α β γ:Type} (f:α->List β) (g:β->Option γ):∀ xs:List α,(xs.flatMap f).findSome? g=xs.findSome? λx=>(f x).findSome? g
 | []=>rfl
 | x::xs=>by
  rw[List.flatMap_cons,List.findSome?_append,jR f g xs,List.findSome?_cons]
  cases (f x).findSome? g <;> rfl
def bP (ps:List Pt) (i:Nat):Pt:=ps.getD i (0,0)
theorem bG {ps:List Pt} {i:Nat} (h:i < ps.length):ps[i]?=some (bP ps i):=by
 simp[bP,List.getD,h]
abbrev bX (ps:List Pt) (t:Tri):L3.D:=.tup [Pd (bP ps t.1),Pd (bP ps t.2.1),Pd (bP ps t.2.2)]
def bv (ps:List Pt) (t:Tri):Option L3.D:=if ba (bP ps t.1) (bP ps t.2.1) (bP ps t.2.2)=0 then some (bX ps t) else none
def iU (ps:List Pt):Option L3.D:=(kU ps.length).findSome? (bv ps)
def dh (ps:List Pt):L3.D:=(iU ps).getD .non
section
variable {ps:List Pt} (hl:ps.length<=24) (hs:∀ p∈ps,Small p)
include hl hs
theorem zp {i j k:Nat} (d:i < j) (c:j < k) (e:k < ps.length):iX [(Pd (bP ps i),.z),(Pd (bP ps j),.z),(Pd (bP ps k),.z)]=some (.ok (.int (ba (bP ps i) (bP ps j) (bP ps k)),.z),[(Pd (bP ps i),.z),(Pd (bP ps j),.z),(Pd (bP ps k),.z)]):=by
 have a:=hs _ (Fc (bG (show i < ps.length by omega)))
 have b:=hs _ (Fc (bG (show j < ps.length by omega)))
 exact u3 _ _ _ (Small.sub a b).1 (Small.sub a b).2
theorem zq {i j k:Nat} (d:i < j) (c:j < k) (e:k < ps.length):dg [(Pd (bP ps i),.z),(Pd (bP ps j),.z),(Pd (bP ps k),.z)]=some (.ok (.int (ba (bP ps i) (bP ps j) (bP ps k)),.z),[(Pd (bP ps i),.z),(Pd (bP ps j),.z),(Pd (bP ps k),.z)]):=by
 have a:=hs _ (Fc (bG (show i < ps.length by omega)))
 have b:=hs _ (Fc (bG (show j < ps.length by omega)))
 exact pN _ _ _ (Small.sub a b).1 (Small.sub a b).2
theorem Es:bB [(Shd ps,.z)]=some (.ok (dh ps,.z),[(Shd ps,.z)]):=by
 have a:=q8 ps.length (by lia)
 have i:bV [Shd ps]=some (.int (ps.length:Int),.z):=by
  have:=oJ (ps.map Pd)
  rwa [Fa] at this
 obtain ⟨ρ',⟨v1,v2,rfl⟩,e⟩:=eL (bnd:=av 1) (b:=aU) (λρ=>∃ v1 v2,ρ=[some (Shd ps,.z),v1,v2]) Td (bv ps) (xs:=kU ps.length) (ρ:=[some (Shd ps,.z),none,none]) ⟨none,none,rfl⟩ (by
  rintro t a ρ ⟨v1,v2,rfl⟩
  obtain ⟨g,f,c⟩:=qd a
  have a1:=fS (qM (bG (show t.1 < ps.length by omega)))
  have a2:=fS (qM (bG (show t.2.1 < ps.length by omega)))
  have d:=fS (qM (bG c))
  have b:=zp hl hs g f c
  by_cases h0:ba (bP ps t.1) (bP ps t.2.1) (bP ps t.2.2)=0
  ·refine ⟨[some (Shd ps,.z),some (Td t,.z),v2],[some (Shd ps,.z),some (Td t,.z),some (bX ps t,.z)],rfl,⟨_,_,rfl⟩,?_⟩
   rw[show bv ps t=some (bX ps t) from if_pos h0]
   exact vL a1 a2 d b h0
  ·refine ⟨[some (Shd ps,.z),some (Td t,.z),v2],[some (Shd ps,.z),some (Td t,.z),some (bX ps t,.z)],rfl,⟨_,_,rfl⟩,?_⟩
   rw[show bv ps t=none from if_neg h0]
   exact vK a1 a2 d b h0)
 have im:cg (au gJ (aa (am bV (aa (ac 0) ag)) ag)) [some (Shd ps,.z),none,none]=some (.ok ([.val (.lst ((kU ps.length).map Td)) .u],(kU ps.length).map Td),[some (Shd ps,.z),none,none]):=js (aD a (ao (aL (ao (aB rfl) aF) rfl i) aF) rfl rfl rfl) rfl rfl
 unfold dh iU
 cases h:(kU ps.length).findSome? (bv ps) with
 | none =>
  rw[h] at e
  exact a8 (ρ:=[some (Shd ps,.z),none,none]) rfl rfl (al (eK im rfl e) (c9 i_c rfl)) rfl
 | some o =>
  rw[h] at e
  exact a8 (ρ:=[some (Shd ps,.z),none,none]) rfl rfl (fV (eK im rfl e)) rfl
theorem Eb {i j k:Nat} (c:i < j) (a:j < k) (e:k < ps.length):d8 [some (L3.D.lst (ps.map Pd),.u),some (.int (i:Int),.z),some (.int (j:Int),.z),some (.int (k:Int),.z)]=some (.ok (fnd (bv ps (i,j,k))),[some (L3.D.lst (ps.map Pd),.u),some (.int (i:Int),.z),some (.int (j:Int),.z),some (.int (k:Int),.z)]):=by
 have a1:aJ (L3.D.lst (ps.map Pd)) (.int (i:Int))=_:=hJ (qM (bG (show i < ps.length by omega)))
 have a2:aJ (L3.D.lst (ps.map Pd)) (.int (j:Int))=_:=hJ (qM (bG (show j < ps.length by omega)))
 have d:aJ (L3.D.lst (ps.map Pd)) (.int (k:Int))=_:=hJ (qM (bG e))
 have b:=zq hl hs c a e
 unfold d8
 by_cases h0:ba (bP ps i) (bP ps j) (bP ps k)=0
 ·rw[show bv ps (i,j,k)=some (bX ps (i,j,k)) from if_pos h0]
  apply eJ
  ·nomatch [b],[a1,a2,d,eqiq]
  ·exact Fo h0
  ·exists a1,a2,d
 ·rw[show bv ps (i,j,k)=none from if_neg h0]
  apply dM
  ·nomatch [b],[a1,a2,d,eqiq]
  ·exact Fp h0
  ·rfl
set_option tactic.hygienic true in
theorem Ea {i j:Nat} {v3:Option (L3.D×Fl)} (a:i < j) (h:j < ps.length):∃ c,d7 [some (L3.D.lst (ps.map Pd),.u),some (.int (i:Int),.z),some (.int (j:Int),.z),v3]=some (.ok (fnd ((iL i j (ps.length - (j+1))).findSome? (bv ps))),[some (L3.D.lst (ps.map Pd),.u),some (.int (i:Int),.z),some (.int (j:Int),.z),c]):=by
 have hm:=hl
 have g:bV [L3.D.lst (ps.map Pd)]=some (.int (ps.length:Int),.z):=by
  have:=iq (ps.map Pd)
  rwa [Fa] at this
 obtain ⟨ρ',⟨d,rfl⟩,e⟩:=eL (bnd:=av 3) (b:=d8) (λρ=>∃ v3,ρ=[some (L3.D.lst (ps.map Pd),.u),some (.int (i:Int),.z),some (.int (j:Int),.z),v3]) (λm:Nat=>L3.D.int (((j:Int)+1)+(m:Int))) (λm=>bv ps (i,j,j+1+m)) (xs:=List.range (ps.length - (j+1))) (ρ:=[some (L3.D.lst (ps.map Pd),.u),some (.int (i:Int),.z),some (.int (j:Int),.z),v3]) ⟨v3,rfl⟩ (by
  rintro m hm ρ ⟨v3,rfl⟩
  have hm:=List.mem_range.mp hm
  refine ⟨[some (L3.D.lst (ps.map Pd),.u),some (.int (i:Int),.z),some (.int (j:Int),.z),some (.int (((j:Int)+1)+(m:Int)),.z)],[some (L3.D.lst (ps.map Pd),.u),some (.int (i:Int),.z),some (.int (j:Int),.z),some (.int (((j:Int)+1)+(m:Int)),.z)],rfl,⟨_,rfl⟩,?_⟩
  have:=Eb hl hs a (show j < j+1+m by omega) (by omega)
  rw[show (((j:Int)+1)+(m:Int))=((j+1+m:Nat):Int) by omega]
  exact this)
 have f:iM [.int ((j:Int)+1),.int (ps.length:Int)]=some (bh ((j:Int)+1) (ps.length - (j+1))):=kB (by omega) (by omega) (by omega)
 refine ⟨d,?_⟩
 unfold d7
 have:(iL i j (ps.length - (j+1))).findSome? (bv ps)=(List.range (ps.length - (j+1))).findSome? λm=>bv ps (i,j,j+1+m):=by
  unfold iL;rw[List.findSome?_map];rfl
 rw[this]
 apply eK
 ·(repeat' (first | with_reducible apply gm (h3:=f) | infer_instance | exact g | eq_refl))
 ·rfl
 ·exact e
set_option tactic.hygienic true in
theorem DZ {i:Nat} {v2 v3:Option (L3.D×Fl)} (hi:i < ps.length):∃ a c,d6 [some (L3.D.lst (ps.map Pd),.u),some (.int (i:Int),.z),v2,v3]=some (.ok (fnd ((fN ps.length i (ps.length - (i+1))).findSome? (bv ps))),[some (L3.D.lst (ps.map Pd),.u),some (.int (i:Int),.z),a,c]):=by
 have hm:=hl
 have f:bV [L3.D.lst (ps.map Pd)]=some (.int (ps.length:Int),.z):=by
  have:=iq (ps.map Pd)
  rwa [Fa] at this
 obtain ⟨ρ',⟨g,h,rfl⟩,e⟩:=eL (bnd:=av 2) (b:=d7) (λρ=>∃ v2 v3,ρ=[some (L3.D.lst (ps.map Pd),.u),some (.int (i:Int),.z),v2,v3]) (λm:Nat=>L3.D.int (((i:Int)+1)+(m:Int))) (λm=>(iL i (i+1+m) (ps.length - (i+1+m+1))).findSome? (bv ps)) (xs:=List.range (ps.length - (i+1))) (ρ:=[some (L3.D.lst (ps.map Pd),.u),some (.int (i:Int),.z),v2,v3]) ⟨v2,v3,rfl⟩ (by
  rintro m hm ρ ⟨v2,v3,rfl⟩
  have hm:=List.mem_range.mp hm
  obtain ⟨w,e⟩:=Ea hl hs (v3:=v3) (show i < i+1+m by omega) (by omega)
  refine ⟨[some (L3.D.lst (ps.map Pd),.u),some (.int (i:Int),.z),some (.int (((i:Int)+1)+(m:Int)),.z),v3],[some (L3.D.lst (ps.map Pd),.u),some (.int (i:Int),.z),some (.int (((i:Int)+1)+(m:Int)),.z),w],rfl,⟨_,w,rfl⟩,?_⟩
  rw[show (((i:Int)+1)+(m:Int))=((i+1+m:Nat):Int) by omega]
  exact e)
 have d:iM [.int ((i:Int)+1),.int (ps.length:Int)]=some (bh ((i:Int)+1) (ps.length - (i+1))):=kB (by omega) (by omega) (by omega)
 refine ⟨g,h,?_⟩
 unfold d6
 have:(fN ps.length i (ps.length - (i+1))).findSome? (bv ps)=(List.range (ps.length - (i+1))).findSome? λm=>(iL i (i+1+m) (ps.length - (i+1+m+1))).findSome? (bv ps):=by
  unfold fN;rw[jR]
 rw[this]
 apply eK
 ·(repeat' (first | with_reducible apply gm (h3:=d) | infer_instance | exact f | eq_refl))
 ·rfl
 ·exact e
set_option tactic.hygienic true in
theorem Ba:jz [(L3.D.lst (ps.map Pd),.u)]=some (.ok (dh ps,.z),[(L3.D.lst (ps.map Pd),.u)]):=by
 have hm:=hl
 have d:bV [L3.D.lst (ps.map Pd)]=some (.int (ps.length:Int),.z):=by
  have:=iq (ps.map Pd)
  rwa [Fa] at this
 obtain ⟨ρ',⟨f,g,i,rfl⟩,e⟩:=eL (bnd:=av 1) (b:=d6) (λρ=>∃ v1 v2 v3,ρ=[some (L3.D.lst (ps.map Pd),.u),v1,v2,v3]) (λm:Nat=>L3.D.int (0+(m:Int))) (λm=>(fN ps.length m (ps.length - (m+1))).findSome? (bv ps)) (xs:=List.range ps.length) (ρ:=[some (L3.D.lst (ps.map Pd),.u),none,none,none]) ⟨none,none,none,rfl⟩ (by
  rintro m hm ρ ⟨v1,v2,v3,rfl⟩
  have hm:=List.mem_range.mp hm
  obtain ⟨w,a,e⟩:=DZ hl hs (v2:=v2) (v3:=v3) hm
  refine ⟨[some (L3.D.lst (ps.map Pd),.u),some (.int (0+(m:Int)),.z),v2,v3],[some (L3.D.lst (ps.map Pd),.u),some (.int (0+(m:Int)),.z),w,a],rfl,⟨_,w,a,rfl⟩,?_⟩
  rw[show (0+(m:Int))=(m:Int) by omega]
  exact e)
 have c:fO [.int (ps.length:Int)]=some (bh 0 ps.length):=ip (by omega) (by omega)
 have im:bH fO (aa (am bV (aa (ac 0) ag)) ag) [some (L3.D.lst (ps.map Pd),.u),none,none,none]=some (.ok ([],bh 0 ps.length),[some (L3.D.lst (ps.map Pd),.u),none,none,none]):=by (repeat' (first | with_reducible apply gm (h3:=c) | infer_instance | exact d | eq_refl))
 have:iU ps=(List.range ps.length).findSome? λm=>(fN ps.length m (ps.length - (m+1))).findSome? (bv ps):=by
  unfold iU kU mf;rw[jR]
 unfold dh
 rw[<- this] at e
 cases h:iU ps with
 | none =>
  rw[h] at e
  exact a8 (ρ:=[some (L3.D.lst (ps.map Pd),.u),none,none,none]) rfl rfl (al (eK im rfl e) (c9 i_c rfl)) rfl
 | some o =>
  rw[h] at e
  exact a8 (ρ:=[some (L3.D.lst (ps.map Pd),.u),none,none,none]) rfl rfl (fV (eK im rfl e)) rfl
end
theorem mE:∀ ns:List (List Int),jZ (ns.map ntD)=some ns
 | []=>rfl
 | n::ns=>by
  have a:=mE ns
  have e:bR (n.map L3.D.int)=some n:=by
   clear a
   induction n with
   | nil=>rfl
   | cons x n a=>simp[bR,a]
  show (bR (n.map L3.D.int)).bind (λn=>(jZ (ns.map ntD)).map (n::·))=_
  rw[e,a];rfl
theorem uM {ns:List (List Int)} {is:List Nat} (h1:rS ns=true) (h2:ns.length<=16777216) (h3:bb ns=some is) (a:is.length<=16777216) (b:(is.all λi=>decide (i < ns.length))=true):fU [.lst (ns.map ntD)]=some (.lst (is.map λi=>ntD (ns.getD i [])),.u):=by
 show (jZ (ns.map ntD)).bind _=_
 rw[mE]
 show (if (rS ns && decide (ns.length<=16777216))=true then _ else _)=_
 rw[h1,Fo h2,Bool.and_self,if_pos rfl,h3]
 show (if (decide (is.length<=16777216) && is.all λi=>decide (i < ns.length))=true then _ else _)=_
 rw[b,Fo a,Bool.and_self,if_pos rfl]
theorem rj {α:Type} (xs:List α) (d:α):(List.range xs.length).map (λi=>xs.getD i d)=xs:=by
 refine List.ext_getElem? λi=>?_
 rw[Ff]
 by_cases h:i < xs.length
 ·rw[List.getElem?_range h]
  simp[List.getD,h]
 ·rw[List.getElem?_eq_none (by simpa using h),List.getElem?_eq_none (by omega)]
  rfl
theorem qv {ps:List Pt} {i:Nat} (h:i < ps.length):(ps.map λp=>[p.1,p.2]).getD i []=[(ps.getD i (0,0)).1,(ps.getD i (0,0)).2]:=by
 rw[List.getD_eq_getElem?_getD,Ff,E6 h,List.getD_eq_getElem?_getD,E6 h]
 rfl
theorem Bf (ps:List Pt):rS (ps.map λp=>[p.1,p.2])=true:=by
 unfold rS
 rw[Bool.or_eq_true]
 refine .inl (List.all_eq_true.mpr λn a=>?_)
 obtain ⟨p,_,rfl⟩:=Fe.mp a
 rfl
theorem sP {ps:List Pt} {is:List Nat} (c:ps.length < 64) (e1:bb (ps.map λp=>[p.1,p.2])=some is) (a:is.Perm (List.range ps.length)):fU [.lst (ps.map Pd)]=some (.lst ((is.map λi=>ps.getD i (0,0)).map Pd),.u)/\(is.map λi=>ps.getD i (0,0)).Perm ps:=by
 have ln:(ps.map λp=>[p.1,p.2]).length=ps.length:=Fa ..
 have b:∀ i∈is,i < ps.length:=λi hi=>by simpa using a.mem_iff.mp hi
 have d:is.length=ps.length:=by rw[a.length_eq,List.length_range]
 refine ⟨?_,?_⟩
 ·have es:(ps.map λp=>[p.1,p.2]).map ntD=ps.map Pd:=by rw[FJ];rfl
  have h:=uM (ns:=ps.map λp=>[p.1,p.2]) (Bf ps) (by rw[ln];omega) e1 (by omega) (List.all_eq_true.mpr λi hi=>Fo (by rw[ln];exact b i hi))
  rw[es] at h
  rw[h,FJ]
  have:(is.map λi=>ntD ((ps.map λp=>[p.1,p.2]).getD i []))=is.map (Pd ∘ λi=>ps.getD i (0,0)):=FK λi hi=>by
   rw[qv (b i hi)]
   rfl
  rw[this]
 ·have:=a.map λi=>ps.getD i (0,0)
  rwa [rj] at this
theorem iF {ps:List Pt} (c:ps.length < 64):∃ qs:List Pt,fU [.lst (ps.map Pd)]=some (.lst (qs.map Pd),.u)/\qs.Perm ps/\((ps.map (·.1)).Nodup->Rising qs):=by
 have ln:(ps.map λp=>[p.1,p.2]).length=ps.length:=Fa ..
 by_cases nd:(ps.map (·.1)).Nodup
 ·have r:∀ i j:Nat,i < ps.length->j < ps.length->(ps.getD i (0,0)).1=(ps.getD j (0,0)).1->i=j:=λi j hi f e=>by
   refine (List.getElem_inj (i:=i) (j:=j) (h₀:=by simpa using hi) (h₁:=by simpa using f) nd).mp ?_
   rw[List.getElem_map,List.getElem_map]
   rwa [List.getD_eq_getElem?_getD,E6 hi,List.getD_eq_getElem?_getD,E6 f] at e
  obtain ⟨is,e1,d,w⟩:=kX (ns:=ps.map λp=>[p.1,p.2]) (by rw[ln];exact c) (λi j hi f e=>by
   rw[ln] at hi f
   rw[qv hi,qv f] at e
   exact r i j hi f (by injection e))
  rw[ln] at d
  obtain ⟨a,b⟩:=sP c e1 d
  refine ⟨_,a,b,λ_ i j p q l v s=>?_⟩
  have n:∀ i∈is,i < ps.length:=λi hi=>by simpa using d.mem_iff.mp hi
  rw[Ff,E2] at v s
  obtain ⟨x,m,rfl⟩:=v
  obtain ⟨y,k,rfl⟩:=s
  have t:=n x (Fc m)
  have o:=n y (Fc k)
  have lt:=w i j x y l m k
  rw[qv t,qv o,HT.lexLt_cons] at lt
  by_cases ex:(ps.getD x (0,0)).1=(ps.getD y (0,0)).1
  ·have:=r x y t o ex
   subst this
   have g:is.Nodup:=d.nodup_iff.mpr List.nodup_range
   obtain ⟨h1,k1⟩:=Fb.mp m
   obtain ⟨h2,k2⟩:=Fb.mp k
   have:=(List.getElem_inj g).mp (k1.trans k2.symm)
   lia
  ·rw[if_neg ex] at lt
   exact of_decide_eq_true lt
 ·obtain ⟨is,e1,d⟩:=nU (ns:=ps.map λp=>[p.1,p.2]) (by rw[ln];exact c)
  rw[ln] at d
  obtain ⟨a,b⟩:=sP c e1 d
  exact ⟨_,a,b,λh=>absurd h nd⟩
theorem oh {qs:List Pt} (R:Rising qs):(qs.map (·.1)).Nodup:=by
 rw[List.nodup_iff_pairwise_ne,List.pairwise_iff_getElem]
 intro i j hi b a
 rw[List.getElem_map,List.getElem_map]
 have:=R i j _ _ a (E6 (by simpa using hi)) (E6 (by simpa using b))
 lia
section
variable {ρ ρ1 ρ2:Sto} {ms:M3 (List R3)} {rs:List R3} {d:L3.D} {fl:Fl} {e:L3.D} {m:EM} {sa sb:SM} {n:Nat}
theorem Bo {F:Fn} {ps qs:List (L3.D×Fl)} (a:F ps=some (.ok (d,fl),qs)) (h1:ms ρ=some (.ok rs,ρ1)) (h2:prs (frz (dQ rs) ρ1) rs=some ps) (h3:qs.length=ps.length) (b:back rs ps qs (frz (dQ rs) ρ1)=ρ2):lF F ms ρ=some (.ok (.val d fl),ρ2):=by
 simp only[lF,af,h1,h2,a,h3,if_true,b]
theorem ua {F:Fn} {ps qs:List (L3.D×Fl)} (a:F ps=some (.error e,qs)) (h1:ms ρ=some (.ok rs,ρ1)) (h2:prs (frz (dQ rs) ρ1) rs=some ps) (h3:qs.length=ps.length) (b:back rs ps qs (frz (dQ rs) ρ1)=ρ2):lF F ms ρ=some (.error e,ρ2):=by
 simp only[lF,af,h1,h2,a,h3,if_true,b]
theorem rV (h:sa ρ=some (.error e,ρ1)):aE sa sb ρ=some (.error e,ρ1):=by simp only[aE,af,h]
theorem yH (h:m ρ=some (.error e,ρ1)):aW n m ρ=some (.error e,ρ1):=by simp only[aW,af,h]
theorem t8 {c:String} (h:ms ρ=some (.ok rs,ρ1)) (hl:rs.length<=1000):iK c ms ρ=some (.error (.exc c []),ρ1):=by simp only[iK,af,h,hl,if_true]
theorem zL {mask:List Bool} {ps qs:List (L3.D×Fl)} (h1:ps.length=mask.length) (h0:entry n (List.zipWith mn mask ps)=ρ) (h2:sa ρ=some (.error e,ρ1)) (h3:dC ρ1 0 (List.zipWith mn mask ps)=some qs):fnM mask n sa ps=some (.error e,qs):=by
 subst h0;simp only[fnM,h1,if_true,fn0,h2,h3,Fw]
theorem El {cs:List String} {i:Nat} (h1:sa ρ=some (.ok (.rt d fl),ρ1)):n5 cs i sa sb ρ=some (.ok (.rt d fl),ρ1):=by
 simp only[n5,h1]
end
theorem x4:∀ (l ns:List Int),(l.foldl met ns).length<=ns.length+l.length
 | [],ns=>by simp
 | y::l,ns=>by
  have h:=x4 l (met ns y)
  have:(met ns y).length<=ns.length+1:=by
   unfold met
   split <;> simp
  rw[List.foldl_cons,Fu]
  lia
theorem x5:∀ (zs ns:List Int),(zs.foldl met ns).length=ns.length+zs.length ↔ zs.Nodup/\∀ z∈zs,z ∉ ns
 | [],ns=>by simp
 | z::zs,ns=>by
  rw[List.foldl_cons]
  by_cases h:z∈ns
  ·have e:met ns z=ns:=by unfold met;rw[if_pos h]
   rw[e]
   have:=x4 zs ns
   constructor
   ·intro h1
    rw[Fu] at h1
    lia
   ·intro h1
    exact absurd h (h1.2 z EW)
  ·have e:met ns z=ns++[z]:=by unfold met;rw[if_neg h]
   rw[e]
   have b:=x5 zs (ns++[z])
   rw[Ft,List.length_singleton] at b
   rw[Fu,show ns.length+(zs.length+1)=ns.length+1+zs.length by omega,b,List.nodup_cons]
   constructor
   ·rintro ⟨h1,h2⟩
    refine ⟨⟨λhz=>?_,h1⟩,λy a=>?_⟩
    ·have:=h2 z hz
     simp at this
    ·rcases E5.mp a with rfl | a
     ·exact h
     ·have:=h2 y a
      simp at this
      exact this.1
   ·rintro ⟨⟨h1,h2⟩,h3⟩
    refine ⟨h2,λy a hm=>?_⟩
    rcases E8.mp hm with hm | hm
    ·exact h3 y (EY _ a) hm
    ·rw[Fz.mp hm] at a
     exact h1 a
theorem uj (zs:List Int):dst zs=true ↔ zs.Nodup:=by
 unfold dst
 rw[decide_eq_true_iff]
 have:=x5 zs []
 rw[List.length_nil,xZ7] at this
 rw[this]
 simp
theorem yI {c n:String} {ms:M3 (List R3)} {r:R3} {d:L3.D} {ρ ρ1:Sto} (h:ms ρ=some (.ok [r],ρ1)) (hd:der r ρ1=some (.ok d,ρ1)) (hi:imm d=true):ff c n ms ρ=some (.error (.exc c [(n,d)]),ρ1):=by
 simp only[ff,af,h,hd,hi,if_true]
theorem yG {cs:List String} {i:Nat} {c:String} {fs:List (String×L3.D)} {sa sb:SM} {ρ ρ1 ρ2:Sto} {d:L3.D} {fl:Fl} (h1:sa ρ=some (.error (.exc c fs),ρ1)) (a:c∈cs) (h2:sb (ρ1.set i (some (.exc c fs,.z)))=some (.ok (.rt d fl),ρ2)):n5 cs i sa sb ρ=some (.ok (.rt d fl),ρ2):=by
 simp only[n5,h1,a,if_true,h2]
theorem sK {xs:List L3.D} (h:xs.length<=16777216):kT [.lst xs]=some (.tup xs,.z):=by simp[kT,c1,uI,h]
theorem qz {ps:List Pt} {o:L3.D} (h:iU ps=some o):∃ t∈kU ps.length,o=bX ps t:=by
 obtain ⟨t,a,e⟩:=List.exists_of_findSome?_eq_some h
 unfold bv at e
 split at e
 ·cases e;exact ⟨t,a,rfl⟩
 ·cases e
theorem A6:ci [(.exc "NoSheet" [],.z)]=some (.ok (.str "sheet",.z),[(.exc "NoSheet" [],.z)]):=by kernel_rfl
theorem vp (o:L3.D):ci [(.exc "OnLine" [("three",o)],.z)]=some (.ok (.str "line",.z),[(.exc "OnLine" [("three",o)],.z)]):=by kernel_rfl
theorem eq_sl:eqX (.str "sheet") (.str "line")=some (.bl false,.z):=rfl
theorem eq_ll:eqX (.str "line") (.str "line")=some (.bl true,.z):=rfl
theorem nY {d:L3.D} (h:bx [(d,.z)]=some (.error (.exc "NoSheet" []),[(d,.z)])):bJ [(d,.z)]=some (.ok (.str "sheet",.z),[(d,.z)]):=by
 have a:gj [some (d,.z),none]=some (.error (.exc "NoSheet" []),[some (d,.z),none]):=yH (ua h (ao (aB rfl) aF) rfl rfl rfl)
 have m:=A6
 refine a8 (ρ:=[some (d,.z),none]) (ρ1:=[some (d,.z),some (.exc "NoSheet" [],.z)]) rfl rfl (yG a (by decide) ?_) rfl
 unfold gi
 apply al (ρ1:=[some (d,.z),some (.exc "NoSheet" [],.z)])
 ·apply dM
  ·exact dB (dN (aD m (ao (aB rfl) aF) rfl rfl rfl) i_c rfl rfl eq_sl) rfl
  ·rfl
  ·rfl
 ·exact c9 (aD m (ao (aB rfl) aF) rfl rfl rfl) rfl
theorem uT {d o:L3.D} (h:bx [(d,.z)]=some (.error (.exc "OnLine" [("three",o)]),[(d,.z)])):bJ [(d,.z)]=some (.ok (.tup [.str "line",o],.z),[(d,.z)]):=by
 have b:gj [some (d,.z),none]=some (.error (.exc "OnLine" [("three",o)]),[some (d,.z),none]):=yH (ua h (ao (aB rfl) aF) rfl rfl rfl)
 have m:=vp o
 have a:pk ["OnLine"] "three" (.exc "OnLine" [("three",o)])=some (o,.z):=by simp[pk]
 refine a8 (ρ:=[some (d,.z),none]) (ρ1:=[some (d,.z),some (.exc "OnLine" [("three",o)],.z)]) rfl rfl (yG b (by decide) ?_) rfl
 unfold gi
 apply fV
 apply eJ
 ·exact dB (dN (aD m (ao (aB rfl) aF) rfl rfl rfl) i_c rfl rfl eq_ll) rfl
 ·rfl
 ·exact c9 (yM (ao i_c (ao (iS (aB rfl) rfl a) aF)) rfl (Nat.le_of_ble_eq_true rfl)) rfl
theorem Ai {d r:L3.D} (h:bx [(d,.z)]=some (.ok (r,.z),[(d,.z)])):bJ [(d,.z)]=some (.ok (r,.z),[(d,.z)]) :=
 a8 (ρ:=[some (d,.z),none]) (ρ1:=[some (d,.z),none]) rfl rfl (El (c9 (Bo h (ao (aB rfl) aF) rfl rfl rfl) rfl)) rfl
theorem BT {d:L3.D} (h:(cOr (cC (cB (mUn (dl "list") (ac 0)))) (cC (cB (au bA (aa (ac 0) ag))))) [some (d,.z),none,none]=some (.ok true,[some (d,.z),none,none])):bx [(d,.z)]=some (.error (.exc "NoSheet" []),[(d,.z)]):=by
 refine zL (ρ:=[some (d,.z),none,none]) (ρ1:=[some (d,.z),none,none]) rfl rfl ?_ rfl
 unfold cq
 exact rV (eJ h rfl (t8 (ao i_c aF) (Nat.le_of_ble_eq_true rfl)))
theorem y6 {d:L3.D} (h:(cOr (cC (cB (mUn (dl "list") (ac 0)))) (cC (cB (au bz (aa (ac 0) ag))))) [some (d,.z),none]=some (.ok true,[some (d,.z),none])):fD [(d,.z)]=some (.ok (.str "sheet",.z),[(d,.z)]):=by
 refine a8 (ρ:=[some (d,.z),none]) (ρ1:=[some (d,.z),none]) rfl rfl ?_ rfl
 unfold kH
 exact fV (eJ h rfl (c9 i_c rfl))
theorem yq (xs:List L3.D):dl "list" (.lst xs)=some (.bl true,.z):=rfl
def Rr (r:L3.D):Prop:=r=.str "sheet"\/(∃ (ps:List Pt) (t:Tri),(∀ p∈ps,Small p)/\t∈kU ps.length/\r=.tup [.str "line",bX ps t])\/∃ qs:List Pt,(∀ p∈qs,Small p)/\qs.length<=24/\r=Shd qs
theorem xC {ps:List Pt} (h1:1<=ps.length) (f:ps.length<=24) (hs:∀ p∈ps,Small p):∃ r,bJ [(.lst (ps.map Pd),.z)]=some (.ok (r,.z),[(.lst (ps.map Pd),.z)])/\fD [(.lst (ps.map Pd),.z)]=some (.ok (r,.z),[(.lst (ps.map Pd),.z)])/\Rr r:=by
 obtain ⟨qs,e1,j,m⟩:=iF (ps:=ps) (by omega)
 have w:qs.length=ps.length:=j.length_eq
 have a:∀ p∈qs,Small p:=λp v=>hs p (j.mem_iff.mp v)
 have ap:=nN (xs:=ps.map Pd) (xA ps) (by simp;omega)
 rw[tG,Fa,Fo ⟨h1,f⟩,Bool.true_and] at ap
 have c:=m5 ps (by omega)
 rw[Fo ⟨h1,f⟩,Bool.true_and] at c
 have i:=xc qs (by omega) (by omega)
 have l:=sK (xs:=qs.map Pd) (by simp;omega)
 have li:=yq (ps.map Pd)
 have c1:(cOr (cC (cB (mUn (dl "list") (ac 0)))) (cC (cB (au bA (aa (ac 0) ag))))) [some (.lst (ps.map Pd),.z),none,none]=some (.ok false,[some (.lst (ps.map Pd),.z),none,none]):=iC (bI (dB (iS (aB rfl) rfl li) rfl)) rfl (bI (dB (aD ap (ao (aB rfl) aF) rfl rfl rfl) rfl))
 have st:∀ (r:Option (Except L3.D Flw×Sto)),(aE (sIf (cC (cB (au bK (aa (ac 1) ag)))) (iK "NoSheet" (aa (mC (.str "two points have one x")) ag)) cE) (aE (aS 2 (au bB (aa (ac 1) ag))) (aE (sIf (cB (ai lA (ac 2) (mC .non))) (ff "OnLine" "three" (aa (ac 2) ag)) cE) (aW 1 (ac 1))))) [some (.lst (ps.map Pd),.z),some (Shd qs,.z),none]=r->cq [some (.lst (ps.map Pd),.z),none,none]=r:=λr d=>by
  unfold cq
  apply al (ρ1:=[some (.lst (ps.map Pd),.z),none,none])
  ·exact dM c1 rfl rfl
  apply al (ρ1:=[some (.lst (ps.map Pd),.z),some (Shd qs,.z),none])
  ·exact qt (aL (ao (aL (ao (aB rfl) aF) rfl e1) aF) rfl l) rfl (show 1 < 3 by decide) rfl
  ·exact d
 by_cases nd:(ps.map (·.1)).Nodup
 ·have R:=m nd
  rw[(sY qs).mpr R] at i
  have dd:dst (ps.map (·.1))=true:=(uj _).mpr nd
  rw[dd] at c
  have c2:(cOr (cC (cB (mUn (dl "list") (ac 0)))) (cC (cB (au bz (aa (ac 0) ag))))) [some (.lst (ps.map Pd),.z),none]=some (.ok false,[some (.lst (ps.map Pd),.z),none]):=iC (bI (dB (iS (aB rfl) rfl li) rfl)) rfl (bI (dB (aD c (ao (aB rfl) aF) rfl rfl rfl) rfl))
  have q:=Es (by omega) a
  have ln:=Ba (by omega) a
  have g:∀ (r:Option (Except L3.D Flw×Sto)),(aE (sIf (cB (ai lA (ac 1) (mC .non))) (aW 1 (bQ (aa (mC (.str "line")) (aa (ac 1) ag)))) cE) (aW 1 (am kT (aa (am fU (aa (ac 0) ag)) ag)))) [some (.lst (ps.map Pd),.z),some (dh qs,.z)]=r->kH [some (.lst (ps.map Pd),.z),none]=r:=λr d=>by
   unfold kH
   apply al (ρ1:=[some (.lst (ps.map Pd),.z),none])
   ·exact dM c2 rfl rfl
   apply al (ρ1:=[some (.lst (ps.map Pd),.z),some (dh qs,.z)])
   ·exact qt (aD ln (ao (aL (ao (aB rfl) aF) rfl e1) aF) rfl rfl rfl) rfl (show 1 < 2 by decide) rfl
   ·exact d
  have b:∀ (r:Option (Except L3.D Flw×Sto)),(aE (sIf (cB (ai lA (ac 2) (mC .non))) (ff "OnLine" "three" (aa (ac 2) ag)) cE) (aW 1 (ac 1))) [some (.lst (ps.map Pd),.z),some (Shd qs,.z),some (dh qs,.z)]=r->cq [some (.lst (ps.map Pd),.z),none,none]=r:=λr d=>by
   refine st r ?_
   apply al (ρ1:=[some (.lst (ps.map Pd),.z),some (Shd qs,.z),none])
   ·apply dM
    ·nomatch [i]
    ·rfl
    ·rfl
   apply al (ρ1:=[some (.lst (ps.map Pd),.z),some (Shd qs,.z),some (dh qs,.z)])
   ·nomatch [q]
   ·exact d
  cases h:iU qs with
  | none =>
   have e:dh qs=.non:=by unfold dh;rw[h];rfl
   rw[e] at g b
   refine ⟨Shd qs,Ai ?_,?_,.inr (.inr ⟨qs,a,by omega,rfl⟩)⟩
   ·refine a8 (ρ:=[some (.lst (ps.map Pd),.z),none,none]) (ρ1:=[some (.lst (ps.map Pd),.z),some (Shd qs,.z),some (.non,.z)]) rfl rfl (b _ ?_) rfl
    apply al
    ·apply dM
     ·nofun
     ·rfl
     ·rfl
    ·nofun
   ·refine a8 (ρ:=[some (.lst (ps.map Pd),.z),none]) (ρ1:=[some (.lst (ps.map Pd),.z),some (.non,.z)]) rfl rfl (g _ ?_) rfl
    apply al
    ·apply dM
     ·nofun
     ·rfl
     ·rfl
    ·exact c9 (aL (ao (aL (ao (aB rfl) aF) rfl e1) aF) rfl l) rfl
  | some o =>
   obtain ⟨t,u,rfl⟩:=qz h
   have e:dh qs=bX qs t:=by unfold dh;rw[h];rfl
   rw[e] at g b
   refine ⟨.tup [.str "line",bX qs t],uT ?_,?_,.inr (.inl ⟨qs,t,a,u,rfl⟩)⟩
   ·refine zL (ρ:=[some (.lst (ps.map Pd),.z),none,none]) (ρ1:=[some (.lst (ps.map Pd),.z),some (Shd qs,.z),some (bX qs t,.z)]) rfl rfl (b _ ?_) rfl
    apply rV
    apply eJ
    ·nofun
    ·rfl
    ·exact yI (r:=.pl 2) (ao (aB rfl) aF) rfl rfl
   ·refine a8 (ρ:=[some (.lst (ps.map Pd),.z),none]) (ρ1:=[some (.lst (ps.map Pd),.z),some (bX qs t,.z)]) rfl rfl (g _ ?_) rfl
    apply fV
    apply eJ
    ·nofun
    ·rfl
    ·nofun
 ·have n:¬ Rising qs:=λR=>nd ((j.map (·.1)).nodup_iff.mp (oh R))
  have s:((bh 0 (qs.length - 1)).all (rb qs))=false:=by
   cases k:(bh 0 (qs.length - 1)).all (rb qs) with
   | false=>rfl
   | true=>exact absurd ((sY qs).mp k) n
  rw[s] at i
  have dd:dst (ps.map (·.1))=false:=by
   cases k:dst (ps.map (·.1)) with
   | false=>rfl
   | true=>exact absurd ((uj _).mp k) nd
  rw[dd] at c
  refine ⟨.str "sheet",nY ?_,y6 (iC (bI (dB (iS (aB rfl) rfl li) rfl)) rfl (bI (dB (aD c (ao (aB rfl) aF) rfl rfl rfl) rfl))),.inl rfl⟩
  refine zL (ρ:=[some (.lst (ps.map Pd),.z),none,none]) (ρ1:=[some (.lst (ps.map Pd),.z),some (Shd qs,.z),none]) rfl rfl (st _ ?_) rfl
  apply rV
  apply eJ
  ·nomatch [i]
  ·rfl
  ·exact t8 (ao i_c aF) (Nat.le_of_ble_eq_true rfl)
theorem pV {m:Nat}:∀ {ts:List Str},(∀ t∈ts,t.length<=m)->piled ts<=ts.length * (m+2)
 | [],_=>by simp[piled]
 | t::ts,h=>by
  have h1:=h t EW
  have h2:=pV (ts:=ts) λu hu=>h u (EY _ hu)
  rw[piled_cons,Fu,Nat.succ_mul]
  lia
theorem qQ {m:Nat} {ts:List Str} (h:∀ t∈ts,t.length<=m):(tupleText ts).length<=ts.length * (m+2)+3:=by
 have c:=pV h
 have b:(Str.join ", " ts).length<=ts.length * (m+2):=by
  by_cases e:ts=[]
  ·subst e;exact Nat.zero_le _
  ·have:=join_length_add ts e
   lia
 unfold tupleText
 rw[strLen_append,strLen_append]
 have e1:(("(":String):Str).length=1:=rfl
 have a:((if ts.length == 1 then ",)" else ")":String):Str).length<=2:=by
  cases ts.length == 1 <;> decide
 lia
theorem fQ {m:Nat}:∀ {ts:List Str} {k:Nat} {acc:Str},(∀ t∈ts,t.length<=m)->(textFrom k acc ts).length<=acc.length+ts.length * (m+2)
 | [],_,_,_=>by simp[textFrom]
 | t::ts,k,acc,h=>by
  have h1:=h t EW
  have h2:=fQ (ts:=ts) (k:=k+1) (acc:=acc++(if k > 0 then ", " else "":String)++t) λu hu=>h u (EY _ hu)
  have b:((if k > 0 then ", " else "":String):Str).length<=2:=by
   by_cases a:k > 0
   ·rw[if_pos a] <;> decide
   ·rw[if_neg a] <;> decide
  rw[strLen_append,strLen_append] at h2
  rw[Fu,Nat.succ_mul]
  show (textFrom (k+1) _ ts).length<=_
  lia
mutual
theorem xy:∀ (d:L3.D) (p:PyData),pyD d=some p->p.hasDict=false
 | .non,p,e=>by unfold pyD at e;cases e;rfl
 | .bl _,p,e=>by unfold pyD at e;cases e;rfl
 | .int _,p,e=>by unfold pyD at e;cases e;rfl
 | .str _,p,e=>by unfold pyD at e;cases e;rfl
 | .tup xs,p,e=>by
  unfold pyD at e
  obtain ⟨ps,e1,rfl⟩:=E2.mp e
  simpa[PyData.hasDict] using kD xs ps e1
 | .lst xs,p,e=>by
  unfold pyD at e
  obtain ⟨ps,e1,rfl⟩:=E2.mp e
  simpa[PyData.hasDict] using kD xs ps e1
 | .fls xs,p,e=>by
  unfold pyD at e
  obtain ⟨ps,e1,rfl⟩:=E2.mp e
  simpa[PyData.hasDict] using kD xs ps e1
 | .dk _,p,e=>by unfold pyD at e;cases e
 | .dt _,p,e=>by unfold pyD at e;cases e
 | .exc _ _,p,e=>by unfold pyD at e;cases e
theorem kD:∀ (ds:List L3.D) (ps:List PyData),eh ds=some ps->PyData.hasDictAll ps=false
 | [],ps,e=>by unfold eh at e;cases e;rfl
 | d::ds,ps,e=>by
  unfold eh at e
  cases h1:pyD d with
  | none=>rw[h1] at e;cases e
  | some p =>
   cases h2:eh ds with
   | none=>rw[h1,h2] at e;cases e
   | some qs =>
    rw[h1,h2] at e
    cases e
    simp[PyData.hasDictAll,xy d p h1,kD ds qs h2]
end
def sm (f:L3.D->Option PyData) (k m:Nat) (d:L3.D):Bool:=match f d with
 | some p=>p.showable && decide (p.depth<=k) && decide (p.shown.length<=m)
 | none=>false
structure Sml (k m:Nat) (p:PyData):Prop where
 s:p.showable=true
 d:p.depth<=k
 l:p.shown.length<=m
theorem nV {f:L3.D->Option PyData} {k m:Nat} {d:L3.D} (h:sm f k m d=true):∃ p,f d=some p/\Sml k m p:=by
 unfold sm at h
 cases e:f d with
 | none=>rw[e] at h;cases h
 | some p =>
  rw[e] at h
  simp only[Bool.and_eq_true,decide_eq_true_eq] at h
  exact ⟨p,rfl,h.1.1,h.1.2,h.2⟩
theorem mH {f:L3.D->Option PyData} {k m:Nat} {d:L3.D} {p:PyData} (e:f d=some p) (h:Sml k m p):sm f k m d=true:=by
 unfold sm
 rw[e]
 simp[h.s,h.d,h.l]
theorem cS {f:L3.D->Option PyData} {k m k' m':Nat} {d:L3.D} (h:sm f k m d=true) (a:k<=k') (hm:m<=m'):sm f k' m' d=true:=by
 obtain ⟨p,e,q⟩:=nV h
 exact mH e ⟨q.s,FH q.d a,FH q.l hm⟩
structure Rdg (f:L3.D->Option PyData) (fs:List L3.D->Option (List PyData)):Prop where
 n:fs []=some []
 c:∀ d ds p ps,f d=some p->fs ds=some ps->fs (d::ds)=some (p::ps)
 t:∀ xs ps,fs xs=some ps->f (.tup xs)=some (.tuple ps)
theorem rdD:Rdg pyD eh:=⟨rfl,λd ds p ps h1 h2=>by unfold eh;rw[h1,h2],λxs ps h=>by unfold pyD;rw[h];rfl⟩
theorem rdN:Rdg pyN oq:=⟨rfl,λd ds p ps h1 h2=>by unfold oq;rw[h1,h2],λxs ps h=>by unfold pyN;rw[h];rfl⟩
theorem nW {f:L3.D->Option PyData} {fs:List L3.D->Option (List PyData)} (R:Rdg f fs) {k m:Nat}:∀ {xs:List L3.D},(∀ x∈xs,sm f k m x=true)->∃ ps,fs xs=some ps/\PyData.showableAll ps=true/\PyData.depthAll ps<=k/\(∀ t∈PyData.shownAll ps,t.length<=m)/\(PyData.shownAll ps).length=xs.length
 | [],_=>⟨[],R.n,rfl,Nat.zero_le _,(λt a=>by cases a),rfl⟩
 | x::xs,h=>by
  obtain ⟨p,a1,a2⟩:=nV (h x EW)
  obtain ⟨ps,b1,b2,i,g,e⟩:=nW R (xs:=xs) λy b=>h y (EY _ b)
  refine ⟨p::ps,R.c _ _ _ _ a1 b1,by simp[PyData.showableAll,a2.s,b2],by have:=a2.d;simp only[PyData.depthAll];lia,λt a=>?_,by simp[PyData.shownAll,e]⟩
  rcases E5.mp (show t∈p.shown::PyData.shownAll ps from a) with rfl | a
  ·exact a2.l
  ·exact g t a
theorem kY {f:L3.D->Option PyData} {fs:List L3.D->Option (List PyData)} (R:Rdg f fs) {k m:Nat} {xs:List L3.D} (h:∀ x∈xs,sm f k m x=true):sm f (k+1) (xs.length * (m+2)+3) (.tup xs)=true:=by
 obtain ⟨ps,b1,b2,c,a,b⟩:=nW R h
 have:=qQ a
 rw[b] at this
 exact mH (R.t xs ps b1) ⟨by simpa[PyData.showable] using b2,by simp only[PyData.depth];lia,by simpa only [PyData.shown] using this⟩
theorem qY {k m:Nat} {xs:List L3.D} (h:∀ x∈xs,sm pyD k m x=true):sm pyD (k+1) (xs.length * (m+2)+3) (.lst xs)=true:=by
 obtain ⟨ps,b1,b2,d,b,c⟩:=nW rdD h
 have h1:=fQ (k:=0) (acc:="[") b
 rw[c] at h1
 have e1:(("[":String):Str).length=1:=rfl
 have e:(("]":String):Str).length=1:=rfl
 have:(listText (PyData.shownAll ps)).length<=xs.length * (m+2)+3:=by
  unfold listText
  rw[strLen_append]
  lia
 have a:pyD (.lst xs)=some (.list ps):=by unfold pyD;rw[b1];rfl
 exact mH a ⟨by simpa[PyData.showable] using b2,by simp only[PyData.depth];lia,by simpa only [PyData.shown] using this⟩
def Sh' (d:L3.D):Prop:=∃ t,jE d=some (.str t,.z)
theorem BU {d:L3.D} {p:PyData} (e:jE d=shA d) (h:pyA d=some p) (q:Sml 16 16777216 p):Sh' d:=⟨p.shown,by
 have a:k6 p=true:=by unfold k6;simp[q.s,q.d,q.l]
 rw[e]
 unfold shA
 rw[h]
 show (if k6 p=true then _ else _)=_
 rw[if_pos a]⟩
theorem Ae {d:L3.D} (e:jE d=shA d) (h:sm pyD 16 16777216 d=true):Sh' d:=by
 obtain ⟨p,h1,q⟩:=nV h
 refine BU e ?_ q
 unfold pyA
 rw[h1]
 show (if p.hasDict then none else some p)=_
 rw[xy d p h1]
 rfl
theorem sh_N {d:L3.D} (e:jE d=shA d) (h0:pyD d=none) (h:sm pyN 16 16777216 d=true):Sh' d:=by
 obtain ⟨p,h1,q⟩:=nV h
 refine BU e ?_ q
 unfold pyA
 rw[h0]
 exact h1
theorem vg {i:Int} (h0:-(2 ^ 100) < i) (h1:i < 2 ^ 100):(mi i).length<=40:=by
 have e:(mi i).length=(mi i).cps.toList.length:=by simp[Str.length]
 have hd:(dig i.natAbs).length<=31:=BA (by decide) (by omega)
 rw[e,numC]
 split
 ·simp only[Fu];lia
 ·lia
theorem yt {i:Int} (h0:-(2 ^ 100) < i) (h1:i < 2 ^ 100):i.natAbs.log2 < 1920:=by
 by_cases h:i.natAbs=0
 ·rw[h];decide
 ·rw[Nat.log2_lt h]
  have:i.natAbs < 2 ^ 100:=by omega
  exact Nat.lt_trans this (Nat.pow_lt_pow_right (by decide) (by decide))
theorem sQ {i:Int} (h0:-(2 ^ 100) < i) (h1:i < 2 ^ 100):Sml 0 40 (.int i):=⟨by simp only[PyData.showable];exact Fo (yt h0 h1),by simp[PyData.depth],by
 show (mi i).length<=40
 exact vg h0 h1⟩
theorem kr {i:Int} (h0:-(2 ^ 100) < i) (h1:i < 2 ^ 100):sm pyD 0 40 (.int i)=true:=mH rfl (sQ h0 h1)
theorem sR {i:Int} (h0:-(2 ^ 100) < i) (h1:i < 2 ^ 100):sm pyN 0 40 (.int i)=true:=mH rfl (sQ h0 h1)
def smB:L3.D->Bool
 | .tup [.int a,.int b]=>decide ((-(2 ^ 62) < a/\a < 2 ^ 62)/\-(2 ^ 62) < b/\b < 2 ^ 62)
 | _=>true
def inB (d:L3.D):Bool:=okp d && smB d && (sm pyD 3 400 d || ((pyD d).isNone && sm pyN 3 400 d))
def plB (d:L3.D):Bool:=okp d && smB d && sm pyD 3 400 d && sm pyN 3 400 d
def pkB (d:L3.D):Bool:=okp d && smB d && sm pyD 3 400 d
theorem lq {d:L3.D} (h:plB d=true):okp d=true/\smB d=true/\sm pyD 3 400 d=true/\sm pyN 3 400 d=true:=by
 unfold plB at h
 simp only[Bool.and_eq_true] at h
 exact ⟨h.1.1.1,h.1.1.2,h.1.2,h.2⟩
theorem iP {d:L3.D} (h:pkB d=true):okp d=true/\smB d=true/\sm pyD 3 400 d=true:=by
 unfold pkB at h
 simp only[Bool.and_eq_true] at h
 exact ⟨h.1.1,h.1.2,h.2⟩
theorem iB {d:L3.D} (h:plB d=true):pkB d=true:=by
 obtain ⟨a,b,c,_⟩:=lq h
 unfold pkB
 rw[a,b,c]
 rfl
theorem BZ {a b:Int} (h:(-(2 ^ 62) < a/\a < 2 ^ 62)/\-(2 ^ 62) < b/\b < 2 ^ 62):plB (.tup [.int a,.int b])=true:=by
 have e:∀ d∈[L3.D.int a,.int b],sm pyD 0 40 d=true:=λd hd=>by
  rcases E5.mp hd with rfl | hd
  ·exact kr (by omega) (by omega)
  ·rw[Fz.mp hd];exact kr (by omega) (by omega)
 have c:∀ d∈[L3.D.int a,.int b],sm pyN 0 40 d=true:=λd hd=>by
  rcases E5.mp hd with rfl | hd
  ·exact sR (by omega) (by omega)
  ·rw[Fz.mp hd];exact sR (by omega) (by omega)
 have s1:=cS (kY rdD e) (k':=3) (m':=400) (by decide) (by simp)
 have s2:=cS (kY rdN c) (k':=3) (m':=400) (by decide) (by simp)
 unfold plB
 rw[s1,s2,show smB (.tup [.int a,.int b])=true from Fo h]
 rfl
theorem tF {V:L3.D} (b:pyD V=none):∀ (A B:List L3.D),eh (A++[V]++B)=none
 | [],B=>by
  show eh (V::B)=none
  unfold eh
  rw[b]
 | a::A,B=>by
  have c:=tF b A B
  show eh (a::(A++[V]++B))=none
  unfold eh
  rw[c]
  cases pyD a <;> rfl
def ov:List L3.D:=[.non,.bl true,.bl false,.int 0,.int (-1),.int 1,.str "",.str "1",.tup [],.lst [],.tup [.int 0],.tup [.int 0,.int 1],.lst [.int 0],.dk [(.inr "a",.int 1)],.int 100000000000000000000000000000,.tup [.tup [.int 0,.int 0]],.tup [.tup [.int 0,.int 1],.tup [.int 1,.int 2]],.str "0,0",.tup [.int 0,.int 1,.int 2],.dt [([.inl 0,.inl 1],.int 2)]]
theorem ov_at (i:Nat) (h:i < 20):∃ v,aJ (.lst ov) (.int (i:Int))=some (v,.z)/\v∈ov:=by
 have hl:i < ov.length:=h
 exact ⟨ov[i],hJ (kO (E6 hl)),List.getElem_mem hl⟩
def shB:L3.D->Bool:=λd=>match jE d with
 | some (.str _,.z)=>true
 | _=>false
theorem sh_b {d:L3.D} (h:shB d=true):Sh' d:=by
 unfold shB at h
 split at h
 ·exact ⟨_,by assumption⟩
 ·cases h
theorem Aj {n m:Int} {j v:L3.D} (t:aR [(.lst [.int n],.u),(.int 20,.z)]=some (.ok (j,.z),[(.lst [.int m],.u),(.int 20,.z)])) (h:aJ (.lst ov) j=some (v,.z)):kQ [(.lst [.int n],.u)]=some (.ok (v,.z),[(.lst [.int m],.u)]):=by
 have a:∀ B:L3.D,(aS 1 (bT (aa (mC .non) (aa (mC (.bl true)) (aa (mC (.bl false)) (aa (mC (.int 0)) (aa (mUn oF (mC (.int 1))) (aa (mC (.int 1)) (aa (mC (.str "")) (aa (mC (.str "1")) (aa (bQ ag) (aa (bT ag) (aa (bQ (aa (mC (.int 0)) ag)) (aa (bQ (aa (mC (.int 0)) (aa (mC (.int 1)) ag))) (aa (bT (aa (mC (.int 0)) ag)) (aa (DY (.inr "a") 1) ag)))))))))))))))) [some (B,.u),none]=some (.ok .nx,[some (B,.u),some (.lst (ov.take 14),.u)]):=λB=>by kernel_rfl
 have b:∀ B:L3.D,(aS 1 (ai bg (ac 1) (bT (aa (ai rD (mC (.int 10)) (mC (.int 29))) (aa (bQ (aa (bQ (aa (mC (.int 0)) (aa (mC (.int 0)) ag))) ag)) (aa (bQ (aa (bQ (aa (mC (.int 0)) (aa (mC (.int 1)) ag))) (aa (bQ (aa (mC (.int 1)) (aa (mC (.int 2)) ag))) ag))) (aa (mC (.str "0,0")) (aa (bQ (aa (mC (.int 0)) (aa (mC (.int 1)) (aa (mC (.int 2)) ag)))) (aa (DX [0,1] 2) ag))))))))) [some (B,.u),some (.lst (ov.take 14),.u)]=some (.ok .nx,[some (B,.u),some (.lst ov,.u)]):=λB=>by kernel_rfl
 have a:=a (.lst [.int n])
 have b:=b (.lst [.int n])
 generalize L3.D.lst (ov.take 14)=S7 at *
 generalize L3.D.lst ov=SV at *
 apply a8 (ρ:=[some (.lst [.int n],.u),none]) (ρ1:=[some (.lst [.int m],.u),some (SV,.u)]) rfl rfl
 ·unfold tV
  refine al a ?_
  refine al b ?_
  apply c9
  ·nomatch [t],[h]
  ·rfl
 ·rfl
theorem A3 (n:Int) {m:Nat} (h:0 < m):∃ x:Nat,x < m/\n % (m:Int)=(x:Int):=by
 have:=cV n (m:Int) (by omega)
 exact ⟨(n % (m:Int)).toNat,by omega,by omega⟩
theorem zc {xs:List L3.D} {d:L3.D} {lo hi:Option Int} (h:d∈eF xs lo hi):d∈xs:=by
 unfold eF at h
 first | exact List.mem_of_mem_drop (List.mem_of_mem_take h) | exact List.mem_of_mem_take (List.mem_of_mem_drop h)
theorem uq {xs:List L3.D} {lo hi:Option Int}:(eF xs lo hi).length<=xs.length:=by
 unfold eF
 simp only[Fv,List.length_drop]
 lia
theorem BH {xs:List L3.D} {d:L3.D} (h:xs[xs.length - 1]?=some d):L2.atI xs (-1)=some d:=by
 have lt:=(Fb.mp h).1
 unfold L2.atI L2.ixN
 rw[if_neg (by decide),if_pos (by lia)]
 rw[show ((-1:Int)+(xs.length:Int)).toNat=xs.length - 1 by lia,Option.bind_some]
 exact h
theorem Du {x y:Int} (h0:-(2 ^ 62) < x) (h1:x < 2 ^ 62) (h2:-(2 ^ 62) < y) (h3:y < 2 ^ 62):pkB (.lst [.int x,.int y])=true:=by
 have s1:=cS (qY (xs:=[.int x,.int y]) (k:=0) (m:=40) λd hd=>by
  rcases E5.mp hd with rfl | hd
  ·exact kr (by omega) (by omega)
  ·rw[Fz.mp hd];exact kr (by omega) (by omega)) (k':=3) (m':=400) (by decide) (by simp)
 unfold pkB
 rw[s1]
 rfl
theorem z9 {k m:Nat} {xs:List L3.D} (h:∀ x∈xs,sm pyN k m x=true):sm pyN (k+1) (xs.length * (m+2)+3) (.lst xs)=true:=by
 obtain ⟨ps,b1,b2,d,b,c⟩:=nW rdN h
 have h1:=fQ (k:=0) (acc:="[") b
 rw[c] at h1
 have e1:(("[":String):Str).length=1:=rfl
 have e:(("]":String):Str).length=1:=rfl
 have:(listText (PyData.shownAll ps)).length<=xs.length * (m+2)+3:=by
  unfold listText
  rw[strLen_append]
  lia
 have a:pyN (.lst xs)=some (.list ps):=by unfold pyN;rw[b1];rfl
 exact mH a ⟨by simpa[PyData.showable] using b2,by simp only[PyData.depth];lia,by simpa only [PyData.shown] using this⟩
def ThL:L3.D->Prop
 | .lst xs=>(∀ x∈xs,okp x=true)/\xs.length<=60/\∀ ps:List Pt,xs=ps.map Pd->∀ p∈ps,Small p
 | .exc _ _=>False
 | .fls _=>False
 | _=>True
abbrev GtL (d:L3.D):Prop:=ThL d/\Sh' d
theorem qU {xs:List L3.D} (h:∀ d∈xs,okp d=true/\smB d=true) (hl:xs.length<=60):ThL (.lst xs):=by
 refine ⟨λx a=>(h x a).1,hl,λps e p b=>?_⟩
 have:=(h (Pd p) (by rw[e];exact Fe.mpr ⟨p,b,rfl⟩)).2
 have:=of_decide_eq_true (show decide ((-(2 ^ 62) < p.1/\p.1 < 2 ^ 62)/\-(2 ^ 62) < p.2/\p.2 < 2 ^ 62)=true from this)
 exact ⟨this.1.1,this.1.2,this.2.1,this.2.2⟩
theorem lM {xs:List L3.D} (h:∀ d∈xs,pkB d=true) (hl:xs.length<=60):GtL (.lst xs) :=
 ⟨qU (λd hd=>⟨(iP (h d hd)).1,(iP (h d hd)).2.1⟩) hl,Ae rfl (cS (qY λd hd=>(iP (h d hd)).2.2) (by decide) (by omega))⟩
theorem Ep {V:L3.D} (a:inB V=true) {A B:List L3.D} (g:∀ d∈A,plB d=true) (b:∀ d∈B,plB d=true) (hl:A.length+B.length<=59):GtL (.lst (A++[V]++B)):=by
 unfold inB at a
 rw[Bool.and_eq_true,Bool.and_eq_true,Bool.or_eq_true] at a
 obtain ⟨i,hs⟩:=a
 have mem:∀ {P:L3.D->Prop},(∀ d,plB d=true->P d)->P V->∀ d∈A++[V]++B,P d:=λ{P} h1 h2 d hd=>by
  rcases E8.mp hd with hd | hd
  ·rcases E8.mp hd with hd | hd
   ·exact h1 d (g d hd)
   ·rw[Fz.mp hd];exact h2
  ·exact h1 d (b d hd)
 have c:(A++[V]++B).length<=60:=by simp;omega
 refine ⟨qU (mem (P:=λd=>okp d=true/\smB d=true) (λd h=>⟨(lq h).1,(lq h).2.1⟩) i) c,?_⟩
 rcases hs with hs | hs
 ·exact Ae rfl (cS (qY (mem (P:=λd=>sm pyD 3 400 d=true) (λd h=>(lq h).2.2.1) hs)) (by decide) (by omega))
 ·rw[Bool.and_eq_true] at hs
  refine sh_N rfl ?_ (cS (z9 (mem (P:=λd=>sm pyN 3 400 d=true) (λd h=>(lq h).2.2.2) hs.2)) (by decide) (by omega))
  have f:pyD V=none:=by
   cases e:pyD V with
   | none=>rfl
   | some p=>rw[e] at hs;cases hs.1
  unfold pyD
  rw[tF f]
  rfl
theorem yQ {xs:List L3.D} (h:∀ d∈xs,pkB d=true) (hl:xs.length<=60):GtL (.tup xs):=⟨trivial,Ae rfl (cS (kY rdD λd hd=>(iP (h d hd)).2.2) (by decide) (by omega))⟩
def tlB:L3.D->Bool
 | .lst xs=>xs.all (λx=>okp x && smB x) && decide (xs.length<=60)
 | .exc _ _=>false
 | .fls _=>false
 | _=>true
theorem tl_of {d:L3.D} (h:tlB d=true):ThL d:=by
 cases d with
 | lst xs =>
  have h:(xs.all (λx=>okp x && smB x) && decide (xs.length<=60))=true:=h
  rw[Bool.and_eq_true,List.all_eq_true] at h
  exact qU (λd hd=>Bool.and_eq_true_iff.mp (h.1 d hd)) (of_decide_eq_true h.2)
 | exc _ _=>cases h
 | fls _=>cases h
 | _=>trivial
def olB (d:L3.D):Bool:=tlB d && shB d && inB d
theorem ol_ok:ov.map olB=ov.map λ_=>true:=by kernel_rfl
theorem DM {v:L3.D} (h:v∈ov):GtL v/\inB v=true:=by
 have:=List.map_inj_left.mp ol_ok v h
 unfold olB at this
 rw[Bool.and_eq_true,Bool.and_eq_true] at this
 exact ⟨⟨tl_of this.1.1,sh_b this.1.2⟩,this.2⟩
theorem AZ {d:L3.D} (h:ThL d) (a:∀ xs,d≠.lst xs):dl "list" d=some (.bl false,.z):=by
 cases d with
 | lst xs=>exact absurd rfl (a xs)
 | exc _ _=>exact h.elim
 | fls _=>exact h.elim
 | _=>rfl
theorem zD {d:L3.D} (h:ThL d):∃ r,bJ [(d,.z)]=some (.ok (r,.z),[(d,.z)])/\fD [(d,.z)]=some (.ok (r,.z),[(d,.z)])/\Rr r:=by
 by_cases hl:∃ xs,d=.lst xs
 ·obtain ⟨xs,rfl⟩:=hl
  obtain ⟨h1,h2,h3⟩:=h
  have li:=yq xs
  have ap:=nN h1 (by omega)
  have c:bA [(.lst xs,.z)]=some (.ok (.bl false,.z),[(.lst xs,.z)])->bz [(.lst xs,.z)]=some (.ok (.bl false,.z),[(.lst xs,.z)])->∃ r,bJ [(.lst xs,.z)]=some (.ok (r,.z),[(.lst xs,.z)])/\fD [(.lst xs,.z)]=some (.ok (r,.z),[(.lst xs,.z)])/\Rr r:=λa b =>
   ⟨.str "sheet",nY (BT (iC (bI (dB (iS (aB rfl) rfl li) rfl)) rfl (bI (dB (aD a (ao (aB rfl) aF) rfl rfl rfl) rfl)))),y6 (iC (bI (dB (iS (aB rfl) rfl li) rfl)) rfl (bI (dB (aD b (ao (aB rfl) aF) rfl rfl rfl) rfl))),.inl rfl⟩
  cases g:xs.all cQ with
  | false =>
   rw[g,Bool.and_false] at ap
   exact c ap (yr h1 g)
  | true =>
   obtain ⟨ps,rfl⟩:=xB g
   have i:=m5 ps (by simpa using h2)
   by_cases f:1<=ps.length/\ps.length<=24
   ·exact xC f.1 f.2 (h3 ps rfl)
   ·rw[Fa,Fp f,Bool.false_and] at ap
    rw[Fp f,Bool.false_and] at i
    exact c ap i
 ·have li:=AZ h λxs e=>hl ⟨xs,e⟩
  exact ⟨.str "sheet",nY (BT (t9 (bI (dB (iS (aB rfl) rfl li) rfl)) rfl)),y6 (t9 (bI (dB (iS (aB rfl) rfl li) rfl)) rfl),.inl rfl⟩
theorem pU {p:Pt} (h:Small p):plB (Pd p)=true:=BZ ⟨⟨h.1,h.2.1⟩,h.2.2.1,h.2.2.2⟩
theorem rr_sh {r:L3.D} (h:Rr r):Sh' r:=by
 rcases h with rfl | ⟨ps,t,hs,b,rfl⟩ | ⟨qs,hs,hl,rfl⟩
 ·exact sh_b (show shB (.str "sheet")=true by kernel_rfl)
 ·obtain ⟨f,e,a⟩:=qd b
  have one:∀ i,i < ps.length->pkB (Pd (bP ps i))=true:=λi hi=>iB (pU (hs _ (Fc (bG hi))))
  have s3:sm pyD 4 1300 (bX ps t)=true:=cS (kY rdD (k:=3) (m:=400) (λd hd=>by
   rcases E5.mp hd with rfl | hd
   ·exact (iP (one _ (by omega))).2.2
   ·rcases E5.mp hd with rfl | hd
    ·exact (iP (one _ (by omega))).2.2
    ·rw[Fz.mp hd];exact (iP (one _ a)).2.2)) (by decide) (by simp)
  exact Ae rfl (cS (kY rdD (k:=4) (m:=1300) (λd hd=>by
   rcases E5.mp hd with rfl | hd
   ·exact cS (show sm pyD 0 40 (.str "line")=true by kernel_rfl) (by decide) (by decide)
   ·rw[Fz.mp hd];exact s3)) (by decide) (by simp))
 ·exact (yQ (λd hd=>by
   obtain ⟨p,c,rfl⟩:=Fe.mp hd
   exact iB (pU (hs p c))) (by simp;omega)).2
abbrev Py2 (p:Pt):PyData:=.tuple [.int p.1,.int p.2]
theorem rA:∀ ps:List Pt,eh (ps.map Pd)=some (ps.map Py2)/\PyData.canLayAll0 (ps.map Py2)=true/\PyData.depthAll (ps.map Py2)<=1
 | []=>⟨rfl,rfl,by simp[PyData.depthAll]⟩
 | p::ps=>by
  obtain ⟨a,b,c⟩:=rA ps
  refine ⟨?_,by simp[PyData.canLayAll0,PyData.canLay0,b],by simp[PyData.depthAll,PyData.depth];omega⟩
  show (match pyD (Pd p),eh (ps.map Pd) with | some p,some ps=>some (p::ps) | _,_=>none)=_
  rw[a]
  rfl
theorem uh:∀ l m:List Pt,PyData.eqvAll (l.map Py2) (m.map Py2)=decide (l=m)
 | [],[]=>by simp[PyData.eqvAll]
 | [],_::_=>by simp[PyData.eqvAll]
 | _::_,[]=>by simp[PyData.eqvAll]
 | (a,b)::l,(c,d)::m=>by
  rw[Fm,Fm,PyData.eqvAll,uh l m]
  simp[PyData.eqv,PyData.eqvAll,Bool.decide_and,Bool.and_assoc]
  rfl
theorem Bz (l m:List Pt):eqA (.lst (l.map Pd)) (.lst (m.map Pd))=some (decide (l=m)):=by
 obtain ⟨a,b,c⟩:=rA l
 obtain ⟨f,e,g⟩:=rA m
 have d:pyD (.lst (l.map Pd))=some (.list (l.map Py2)):=by unfold pyD;rw[a];rfl
 have p2:pyD (.lst (m.map Pd))=some (.list (m.map Py2)):=by unfold pyD;rw[f];rfl
 show eqP _ _=_
 unfold eqP
 rw[d,p2]
 have:((PyData.list (l.map Py2)).canLay0 && (PyData.list (m.map Py2)).canLay0 && decide (min (PyData.list (l.map Py2)).depth (PyData.list (m.map Py2)).depth<=30))=true:=by
  simp[PyData.canLay0,b,e,PyData.depth]
  lia
 show (if _ then _ else _)=_
 rw[if_pos this,PyData.eqv,uh]
def Kp (d:L3.D):Prop:=∃ p:Pt,zI p/\d=Pd p
theorem B7:∀ {X:List L3.D},(∀ d∈X,Kp d)->∃ ps:List Pt,X=ps.map Pd/\∀ p∈ps,zI p
 | [],_=>⟨[],rfl,λp h=>by cases h⟩
 | x::X,h=>by
  obtain ⟨p,h1,rfl⟩:=h x EW
  obtain ⟨ps,rfl,h2⟩:=B7 (X:=X) λd hd=>h d (EY _ hd)
  exact ⟨p::ps,rfl,λq a=>(E5.mp a).elim (λe=>e ▸ h1) (h2 q)⟩
theorem A2 {X:List L3.D} (h:∀ d∈X,Kp d):neX (.lst X) (.lst [])=some (.bl (!decide (X=[])),.z):=by
 obtain ⟨ps,rfl,_⟩:=B7 h
 have h1:=Bz ps []
 show (eqA (.lst (ps.map Pd)) (.lst [])).map _=_
 have h1:eqA (.lst (ps.map Pd)) (.lst [])=some (decide (ps=[])):=h1
 rw[h1]
 have:decide (ps.map Pd=[])=decide (ps=[]):=decide_eq_decide.mpr (by simp)
 rw[this];rfl
theorem uZ (n:Int) (L:List L3.D) (w:∀ d∈L,Kp d) (hl:L.length<=200):∃ (g:Int) (M:List L3.D),dE [(.lst [.int n],.u),(.lst L,.u)]=some (.ok (.lst M,.u),[(.lst [.int g],.u),(.lst L,.u)])/\(∀ d∈M,Kp d)/\M.length=L.length:=by
 obtain ⟨ρ',e,g,M,v,rfl,p,i⟩:=my (c:=bZ) (b:=di) (λm ρ=>∃ (n:Int) (X Y:List L3.D),ρ=[some (.lst [.int n],.u),some (.lst L,.u),some (.lst X,.u),some (.lst Y,.u)]/\(∀ d∈X,Kp d)/\(∀ d∈Y,Kp d)/\m=X.length/\X.length+Y.length=L.length)
  (λρ=>∃ (n:Int) (M:List L3.D) (v:Option (L3.D×Fl)),ρ=[some (.lst [.int n],.u),some (.lst L,.u),v,some (.lst M,.u)]/\(∀ d∈M,Kp d)/\M.length=L.length) (n:=L.length) (ρ:=[some (.lst [.int n],.u),some (.lst L,.u),some (.lst L,.u),some (.lst [],.u)]) ⟨n,L,[],rfl,w,(λd hd=>by cases hd),rfl,by simp⟩ (by
   rintro m ρ ⟨n,X,Y,rfl,f,j,rfl,hz⟩
   have ne:=A2 f
   have te:bZ [some (.lst [.int n],.u),some (.lst L,.u),some (.lst X,.u),some (.lst Y,.u)]=some (.ok (!decide (X=[])),[some (.lst [.int n],.u),some (.lst L,.u),some (.lst X,.u),some (.lst Y,.u)]):=by
    unfold bZ
    exists ne
   by_cases h0:X=[]
   ·rw[Fo h0] at te
    exact .inl ⟨_,te,n,Y,_,rfl,j,by rw[h0] at hz;simpa using hz⟩
   ·rw[Fp h0] at te
    have hpos:0 < X.length:=List.length_pos_iff.mpr h0
    have t:=fY n (X.length:Int) (by omega)
    have y:=cV n (X.length:Int) (by omega)
    have hlen:bV [.lst X]=some (.int (X.length:Int),.z):=by simp[qp,c1]
    have hi:(n % (X.length:Int)).toNat < X.length:=by omega
    have l:X[(n % (X.length:Int)).toNat]?=some X[(n % (X.length:Int)).toNat]:=E6 hi
    have k:=f _ (Fc l)
    generalize hd:X[(n % (X.length:Int)).toNat]=d at *
    have q:iO (.lst X) [.int (n % (X.length:Int))]=some (.lst (X.eraseIdx (n % (X.length:Int)).toNat),d):=by
     obtain ⟨r,_,rfl⟩:=k
     show (if 0<=n % (X.length:Int)/\n % (X.length:Int) < 16777216 then match X[(n % (X.length:Int)).toNat]? with | some (.tup ys)=>(bR ys).map λ_=>((.lst (X.eraseIdx (n % (X.length:Int)).toNat),.tup ys):L3.D×L3.D) | _=>none else none)=_
     rw[if_pos (by omega),l]
     rfl
    have ap:=zB (A:=Y) (d:=d) (by omega)
    have le:(X.eraseIdx (n % (X.length:Int)).toNat).length=X.length - 1:=by rw[List.length_eraseIdx,if_pos hi]
    refine .inr ⟨_,[some (.lst [.int (n / (X.length:Int))],.u),some (.lst L,.u),some (.lst (X.eraseIdx (n % (X.length:Int)).toNat),.u),some (.lst (Y++[d]),.u)],(X.eraseIdx (n % (X.length:Int)).toNat).length,te,.inl ?_,by omega,_,_,_,rfl,λx a=>f x (List.mem_of_mem_eraseIdx a),λx a=>?_,rfl,by rw[Ft,le];simp;omega⟩
    ·unfold di
     have o:mm isL iO 2 (aa (au aR (aa (ac 0) (aa (am bV (aa (ac 2) ag)) ag))) ag) [some (.lst [.int n],.u),some (.lst L,.u),some (.lst X,.u),some (.lst Y,.u)]=some (.ok (.val d .z),[some (.lst [.int (n / (X.length:Int))],.u),some (.lst L,.u),some (.lst (X.eraseIdx (n % (X.length:Int)).toNat),.u),some (.lst Y,.u)]):=by
      have s:au aR (aa (ac 0) (aa (am bV (aa (ac 2) ag)) ag)) [some (.lst [.int n],.u),some (.lst L,.u),some (.lst X,.u),some (.lst Y,.u)]=some (.ok (.val (.int (n % (X.length:Int))) .z),[some (.lst [.int (n / (X.length:Int))],.u),some (.lst L,.u),some (.lst X,.u),some (.lst Y,.u)]):=by (nomatch [t],[hlen])
      exact yJ rfl rfl (ao s aF) rfl rfl q rfl
     exact yK (yJ rfl rfl (ao o aF) rfl rfl ap rfl)
    ·rcases E8.mp a with h | h
     ·exact j x h
     ·rw[Fz.mp h];exact k)
 refine ⟨g,M,?_,p,i⟩
 apply a8 (ρ:=[some (.lst [.int n],.u),some (.lst L,.u),none,none]) rfl rfl
 ·unfold jj
  apply al (ρ1:=[some (.lst [.int n],.u),some (.lst L,.u),some (.lst L,.u),none])
  ·nofun
  apply al (ρ1:=[some (.lst [.int n],.u),some (.lst L,.u),some (.lst L,.u),some (.lst [],.u)])
  ·nofun
  apply al
  ·exact e
  ·nofun
 ·rfl
theorem xW (s:Str):neX (.str s) (.str s)=some (.bl false,.z):=by
 simp[eqA,eqS]
abbrev stQ (S KK B:L3.D) (v3 v4 v5 v6 v7 v8 v9 v10 v11 v12 v13:Option (L3.D×Fl)):Sto:=[some (S,.z),some (KK,.z),some (B,.u),v3,v4,v5,v6,v7,v8,v9,v10,v11,v12,v13]
abbrev stT (S KK B P F L M A O X Y T:L3.D) (f:Fl) (v12 v13:Option (L3.D×Fl)):Sto:=[some (S,.z),some (KK,.z),some (B,.u),some (P,.z),some (F,.z),some (L,.z),some (M,.z),some (A,.z),some (O,.z),some (X,.z),some (Y,.z),some (T,f),v12,v13]
theorem qT {d:L3.D} (hd:GtL d) {S KK B P F L M A O X Y T:L3.D} {v13:Option (L3.D×Fl)}:∃ w,gh (stT S KK B P F L M A O X Y T .l (some (d,.z)) v13)=some (.ok .nx,stT S KK B P F L M A O X Y T .l (some (d,.z)) w):=by
 obtain ⟨r,i,g,a⟩:=zD hd.1
 obtain ⟨t,f⟩:=hd.2
 obtain ⟨u,hu⟩:=rr_sh a
 have e:iN [d]=some (.str t,.z):=f
 have c:iN [r]=some (.str u,.z):=hu
 have ne:=xW t
 have h:=xW u
 clear f hu a hd
 refine ⟨some (.str t,.z),?_⟩
 unfold gh
 apply al (ρ1:=stT S KK B P F L M A O X Y T .l (some (d,.z)) (some (.str t,.z)))
 ·exists e
 refine dM (b:=false) (iC (b:=false) (ρ1:=stT S KK B P F L M A O X Y T .l (some (d,.z)) (some (.str t,.z))) ?_ rfl ?_) rfl rfl
 ·exact dB (dN (aL (ao (aD i (ao (aB rfl) aF) rfl rfl rfl) aF) rfl c) (aL (ao (aD g (ao (aB rfl) aF) rfl rfl rfl) aF) rfl c) rfl rfl h) rfl
 ·exact dB (dN (aL (ao (aB rfl) aF) rfl e) (aB rfl) rfl rfl ne) rfl
theorem qS {ds:List L3.D} (hd:∀ d∈ds,GtL d) {S KK B P F L M A O X Y T:L3.D} {v12 v13:Option (L3.D×Fl)}:∃ c a,df (av 12) gh ds (stT S KK B P F L M A O X Y T .l v12 v13)=some (.ok .nx,stT S KK B P F L M A O X Y T .l c a):=by
 obtain ⟨ρ',e,c,a,rfl⟩:=dO (bnd:=av 12) (b:=gh) (λ_ ρ=>∃ c a,ρ=stT S KK B P F L M A O X Y T .l c a) (ds:=ds) (ρ:=stT S KK B P F L M A O X Y T .l v12 v13) (k:=0) ⟨_,_,rfl⟩ (by
  rintro i d ρ hi ⟨c,a,rfl⟩
  obtain ⟨w,e⟩:=qT (hd d (Fc hi)) (S:=S) (KK:=KK) (B:=B) (P:=P) (F:=F) (L:=L) (M:=M) (A:=A) (O:=O) (X:=X) (Y:=Y) (T:=T) (v13:=a)
  exact ⟨stT S KK B P F L M A O X Y T .l (some (d,.z)) a,_,rfl,.inl e,_,_,rfl⟩)
 exact ⟨c,a,e⟩
theorem kF {a b:Int} (h:-(2 ^ 60) < a/\a < 2 ^ 60/\-(2 ^ 60) < b/\b < 2 ^ 60):plB (.tup [.int a,.int b])=true:=BZ ⟨⟨by omega,by omega⟩,by omega,by omega⟩
theorem tr_pk:pkB (.tup [.bl true,.int 0])=true:=by kernel_rfl
theorem yy {ns:List Int} (k:Nat) {v2 v3 v4 v5 v6 v7 v8 v9 v10 v11 v12 v13:Option (L3.D×Fl)}:∃ w2 w3 w4 w5 w6 w7 w8 w9 C y n o,ji [some (.fls (ns.map .int),.z),some (.int k,.z),v2,v3,v4,v5,v6,v7,v8,v9,v10,v11,v12,v13]=some (.ok .nx,[some (.fls (ns.map .int),.z),some (.int k,.z),w2,w3,w4,w5,w6,w7,w8,w9,C,y,n,o]):=by
 obtain ⟨H,hb⟩:=Am ns k
 obtain ⟨J,ps,hs,g,h9,hm⟩:=uX H 9 (by decide) (by decide)
 have pl:=g.pos
 have ll:qk [Shd ps]=some (.lst (ps.map Pd),.u):=by simp[qk,c1,vv]
 obtain ⟨b,M,E,w,r⟩:=uZ J (ps.map Pd) (λd hd=>by
  obtain ⟨p,hp,rfl⟩:=Fe.mp hd
  exact ⟨p,hm p hp,rfl⟩) (by simp;omega)
 rw[Fa] at r
 have c:∀ d∈M,plB d=true:=λd hd=>by
  obtain ⟨p,h1,rfl⟩:=w d hd
  obtain ⟨a1,a2,a3,a4⟩:=h1
  exact kF ⟨by omega,by omega,by omega,by omega⟩
 obtain ⟨f,f1,f2⟩:∃ f:Pt,zI f/\L2.atI M 0=some (Pd f):=by
  have h0:M[0]?=some M[0]:=E6 (by omega)
  obtain ⟨p,h1,h2⟩:=w _ (Fc h0)
  exact ⟨p,h1,by have:=kO h0;rwa [h2] at this⟩
 obtain ⟨l,l1,l2⟩:∃ l:Pt,zI l/\L2.atI M (-1)=some (Pd l):=by
  have h0:M[M.length - 1]?=some M[M.length - 1]:=E6 (by omega)
  obtain ⟨p,h1,h2⟩:=w _ (Fc h0)
  rw[h2] at h0
  exact ⟨p,h1,BH h0⟩
 have s1:aJ (.lst M) (.int 0)=some (Pd f,.z):=hJ f2
 have s2:aJ (.lst M) (.int (-1))=some (Pd l,.z):=hJ l2
 have s:bV [.lst M]=some (.int (M.length:Int),.z):=iq M
 have t1:=fY b ((M.length:Int)+1) (by omega)
 obtain ⟨x,x1,x2⟩:=A3 (b / ((M.length:Int)+1)) (m:=20) (by decide)
 obtain ⟨V,V1,K⟩:=ov_at x x1
 obtain ⟨V3,R⟩:=DM K
 have t2:=fY (b / ((M.length:Int)+1)) 20 (by decide)
 rw[show b / ((M.length:Int)+1) % 20=(x:Int) from x2] at t2
 have od:=Aj t2 V1
 have W:=r ▸ (show ps.length<=9 by omega)
 generalize b % ((M.length:Int)+1)=a at *
 have v:slD (.lst M) none (some a)=some (.lst (eF M none (some a)),.u):=rfl
 have q:slD (.lst M) (some a) none=some (.lst (eF M (some a) none),.u):=rfl
 have I:∀ d∈eF M none (some a),plB d=true:=λd hd=>c d (zc hd)
 have G:∀ d∈eF M (some a) none,plB d=true:=λd hd=>c d (zc hd)
 have T2:(eF M none (some a)).length<=9:=FH uq W
 have U2:(eF M (some a) none).length<=9:=FH uq W
 generalize eF M none (some a)=T at *
 generalize eF M (some a) none=U at *
 have tm:kT [.lst M]=some (.tup M,.z):=sK (by omega)
 have lf:qk [Pd f]=some (.lst [.int f.1,.int f.2],.u):=rfl
 have m1:=d5 (i:=2) (j:=l.1) (by decide)
 have m2:=d5 (i:=2) (j:=l.2) (by decide)
 obtain ⟨f3,f4,f5,f6⟩:=f1
 obtain ⟨l3,l4,l5,l6⟩:=l1
 have Q:plB (.tup [.int f.1,.int (f.2+1)])=true:=kF ⟨by omega,by omega,by omega,by omega⟩
 have q2:plB (.tup [.int (2 * l.1 - f.1),.int (2 * l.2 - f.2)])=true:=kF ⟨by omega,by omega,by omega,by omega⟩
 have N:plB (.tup [.int (f.1 - 1),.int f.2])=true:=kF ⟨by omega,by omega,by omega,by omega⟩
 have Z:pkB (.lst [.int f.1,.int f.2])=true:=Du (by omega) (by omega) (by omega) (by omega)
 have a1:bg (.lst M) (.lst [.tup [.int f.1,.int (f.2+1)]])=some (.lst (M++[.tup [.int f.1,.int (f.2+1)]]),.u):=fA (by simp;omega)
 have a2:bg (.lst T) (.lst [.tup [.int (2 * l.1 - f.1),.int (2 * l.2 - f.2)]])=some (.lst (T++[.tup [.int (2 * l.1 - f.1),.int (2 * l.2 - f.2)]]),.u):=fA (by simp;omega)
 have a3:bg (.lst (T++[.tup [.int (2 * l.1 - f.1),.int (2 * l.2 - f.2)]])) (.lst U)=some (.lst (T++[.tup [.int (2 * l.1 - f.1),.int (2 * l.2 - f.2)]]++U),.u):=fA (by simp;omega)
 have a4:bg (.lst T) (.lst [V])=some (.lst (T++[V]),.u):=fA (by simp;omega)
 have a5:bg (.lst (T++[V])) (.lst U)=some (.lst (T++[V]++U),.u):=fA (by simp;omega)
 have a6:bg (.lst M) (.lst [.tup [.int (f.1 - 1),.int f.2]])=some (.lst (M++[.tup [.int (f.1 - 1),.int f.2]]),.u):=fA (by simp;omega)
 have a7:bg (.lst M) (.lst [.tup [.bl true,.int 0]])=some (.lst (M++[.tup [.bl true,.int 0]]),.u):=fA (by simp;omega)
 have one:∀ {e:L3.D},pkB e=true->GtL (.lst (M++[e])):=λ{e} he=>lM (λd hd=>(E8.mp hd).elim (λh=>iB (c d h)) λh=>by rw[Fz.mp h];exact he) (by simp;omega)
 have G0:GtL (.lst M):=lM (λd hd=>iB (c d hd)) (by omega)
 have G1:=one (iB Q)
 have G2:GtL (.lst (T++[.tup [.int (2 * l.1 - f.1),.int (2 * l.2 - f.2)]]++U)):=lM (λd hd=>by
  rcases E8.mp hd with hd | hd
  ·rcases E8.mp hd with hd | hd
   ·exact iB (I d hd)
   ·rw[Fz.mp hd];exact iB q2
  ·exact iB (G d hd)) (by simp;omega)
 have G3:GtL (.lst (T++[V]++U)):=Ep R I G (by omega)
 have G4:GtL (.tup M):=yQ (λd hd=>iB (c d hd)) (by omega)
 have G5:GtL (.lst []):=lM (λd hd=>by cases hd) (by decide)
 have G6:GtL .non:=⟨trivial,⟨_,rfl⟩⟩
 have G7:=one (iB N)
 have G8:=one tr_pk
 have G9:GtL (.lst [.lst [.int f.1,.int f.2]]):=lM (λd hd=>by rw[Fz.mp hd];exact Z) (by simp)
 clear w c I G one Q q2 N Z K R V1 g hm
 generalize T++[.tup [.int (2 * l.1 - f.1),.int (2 * l.2 - f.2)]]++U=D2 at *
 generalize T++[V]++U=D3 at *
 generalize M++[.tup [.int f.1,.int (f.2+1)]]=D1 at *
 generalize M++[.tup [.int (f.1 - 1),.int f.2]]=D7 at *
 generalize M++[.tup [.bl true,.int 0]]=D8 at *
 have ap:sF (.lst [.lst M,.lst D1,.lst D2]) [.lst D3]=some (.lst [.lst M,.lst D1,.lst D2,.lst D3],.non):=rfl
 have ca:bg (.lst [.lst M,.lst D1,.lst D2,.lst D3]) (.lst [.tup M,.lst [],.non,.lst D7,.lst D8,.lst [.lst [.int f.1,.int f.2]],V])=some (.lst [.lst M,.lst D1,.lst D2,.lst D3,.tup M,.lst [],.non,.lst D7,.lst D8,.lst [.lst [.int f.1,.int f.2]],V],.u):=rfl
 obtain ⟨n,o,lp⟩:=qS (ds:=[.lst M,.lst D1,.lst D2,.lst D3,.tup M,.lst [],.non,.lst D7,.lst D8,.lst [.lst [.int f.1,.int f.2]],V]) (λd hd=>by
  simp only[E5,List.not_mem_nil,or_false] at hd
  rcases hd with rfl | rfl | rfl | rfl | rfl | rfl | rfl | rfl | rfl | rfl | rfl
  ·exact G0
  ·exact G1
  ·exact G2
  ·exact G3
  ·exact G4
  ·exact G5
  ·exact G6
  ·exact G7
  ·exact G8
  ·exact G9
  ·exact V3) (S:=.fls (ns.map .int)) (KK:=.int k) (B:=.lst [.int (b / ((M.length:Int)+1) / 20)]) (P:=.lst M) (F:=Pd f) (L:=Pd l) (M:=.tup [.int (2 * l.1 - f.1),.int (2 * l.2 - f.2)]) (A:=.int a) (O:=V) (X:=.int f.1) (Y:=.int f.2) (T:=.lst [.lst M,.lst D1,.lst D2,.lst D3,.tup M,.lst [],.non,.lst D7,.lst D8,.lst [.lst [.int f.1,.int f.2]],V]) (v12:=v12) (v13:=v13)
 generalize L3.D.fls (ns.map .int)=S at *
 generalize (.int k:L3.D)=KK at *
 generalize t:(.tup [.int (2 * l.1 - f.1),.int (2 * l.2 - f.2)]:L3.D)=Mid at *
 refine ⟨some (.lst [.int (b / ((M.length:Int)+1) / 20)],.u),some (.lst M,.z),some (Pd f,.z),some (Pd l,.z),some (Mid,.z),some (.int a,.z),some (V,.z),some (.int f.1,.z),some (.int f.2,.z),some (.lst [.lst M,.lst D1,.lst D2,.lst D3,.tup M,.lst [],.non,.lst D7,.lst D8,.lst [.lst [.int f.1,.int f.2]],V],.u),n,o,?_⟩
 unfold ji
 apply al (ρ1:=stQ S KK (.lst [.int H]) v3 v4 v5 v6 v7 v8 v9 v10 v11 v12 v13)
 ·nomatch [hb]
 apply al (ρ1:=stQ S KK (.lst [.int b]) (some (.lst M,.u)) v4 v5 v6 v7 v8 v9 v10 v11 v12 v13)
 ·have e1:am qk (aa (au eP (aa (ac 2) (aa (mC (.int 9)) ag))) ag) (stQ S KK (.lst [.int H]) v3 v4 v5 v6 v7 v8 v9 v10 v11 v12 v13)=some (.ok (.val (.lst (ps.map Pd)) .u),stQ S KK (.lst [.int J]) v3 v4 v5 v6 v7 v8 v9 v10 v11 v12 v13):=aL (ao (aD hs (ao (aB rfl) (ao i_c aF)) rfl rfl rfl) aF) rfl ll
  exact qt (aD E (ao (aB rfl) (ao e1 aF)) rfl rfl rfl) rfl (show 3 < 14 by decide) rfl
 apply al (ρ1:=stQ S KK (.lst [.int b]) (some (.lst M,.u)) (some (Pd f,.z)) (some (Pd l,.z)) v6 v7 v8 v9 v10 v11 v12 v13)
 ·have e2:ai aJ (ac 3) (mUn oF (mC (.int 1))) (stQ S KK (.lst [.int b]) (some (.lst M,.u)) v4 v5 v6 v7 v8 v9 v10 v11 v12 v13)=some (.ok (.val (Pd l) .z),stQ S KK (.lst [.int b]) (some (.lst M,.u)) v4 v5 v6 v7 v8 v9 v10 v11 v12 v13):=by (exists s2)
  exact i_par (ao (dN (aB rfl) i_c rfl rfl s1) (ao e2 aF)) rfl (show 4 < 14 by decide) (show 5 < 14 by decide) rfl
 apply al (ρ1:=stQ S KK (.lst [.int b]) (some (.lst M,.u)) (some (Pd f,.z)) (some (Pd l,.z)) (some (Mid,.z)) v7 v8 v9 v10 v11 v12 v13)
 ·subst t
  exists m1,m2
 apply al (ρ1:=stQ S KK (.lst [.int (b / ((M.length:Int)+1))]) (some (.lst M,.u)) (some (Pd f,.z)) (some (Pd l,.z)) (some (Mid,.z)) (some (.int a,.z)) v8 v9 v10 v11 v12 v13)
 ·nomatch [t1],[s]
 apply al (ρ1:=stQ S KK (.lst [.int (b / ((M.length:Int)+1) / 20)]) (some (.lst M,.u)) (some (Pd f,.z)) (some (Pd l,.z)) (some (Mid,.z)) (some (.int a,.z)) (some (V,.z)) v9 v10 v11 v12 v13)
 ·nomatch [od]
 generalize L3.D.lst [.int (b / ((M.length:Int)+1) / 20)]=B at *
 apply al (ρ1:=stQ S KK B (some (.lst M,.u)) (some (Pd f,.z)) (some (Pd l,.z)) (some (Mid,.z)) (some (.int a,.z)) (some (V,.z)) (some (.int f.1,.z)) (some (.int f.2,.z)) v11 v12 v13)
 ·nofun
 apply al (ρ1:=stQ S KK B (some (.lst M,.z)) (some (Pd f,.z)) (some (Pd l,.z)) (some (Mid,.z)) (some (.int a,.z)) (some (V,.z)) (some (.int f.1,.z)) (some (.int f.2,.z)) (some (.lst [.lst M,.lst D1,.lst D2],.u)) v12 v13)
 ·exists v,q,a1,a2,a3
 apply al (ρ1:=stQ S KK B (some (.lst M,.z)) (some (Pd f,.z)) (some (Pd l,.z)) (some (Mid,.z)) (some (.int a,.z)) (some (V,.z)) (some (.int f.1,.z)) (some (.int f.2,.z)) (some (.lst [.lst M,.lst D1,.lst D2,.lst D3],.u)) v12 v13)
 ·exists v,q,a4,a5,ap
 apply al (ρ1:=stT S KK B (.lst M) (Pd f) (Pd l) Mid (.int a) V (.int f.1) (.int f.2) (.lst [.lst M,.lst D1,.lst D2,.lst D3,.tup M,.lst [],.non,.lst D7,.lst D8,.lst [.lst [.int f.1,.int f.2]],V]) .u v12 v13)
 ·exists tm,a6,a7,lf,ca
 ·have im:cg (ac 11) (stT S KK B (.lst M) (Pd f) (Pd l) Mid (.int a) V (.int f.1) (.int f.2) (.lst [.lst M,.lst D1,.lst D2,.lst D3,.tup M,.lst [],.non,.lst D7,.lst D8,.lst [.lst [.int f.1,.int f.2]],V]) .u v12 v13)=some (.ok ([.pl 11],[.lst M,.lst D1,.lst D2,.lst D3,.tup M,.lst [],.non,.lst D7,.lst D8,.lst [.lst [.int f.1,.int f.2]],V]),(stT S KK B (.lst M) (Pd f) (Pd l) Mid (.int a) V (.int f.1) (.int f.2) (.lst [.lst M,.lst D1,.lst D2,.lst D3,.tup M,.lst [],.non,.lst D7,.lst D8,.lst [.lst [.int f.1,.int f.2]],V]) .u v12 v13)):=js (aB rfl) rfl rfl
  exact Em (is:=[11]) im rfl lp
def gps:List Pt:=(List.range 25).map λk:Nat=>((k:Int),(k:Int) * (k:Int))
theorem yO (S:L3.D):qg [some (S,.z),none,none,none,none,none,none,none,none,none,none,none,none,none]=some (.ok (.val (.lst (gps.map Pd)) .u),[some (S,.z),none,none,none,none,none,none,none,none,none,none,none,none,none]):=by kernel_rfl
theorem rX:bJ [(.lst (gps.map Pd),.u)]=some (.ok (.str "sheet",.z),[(.lst (gps.map Pd),.u)]):=by kernel_rfl
theorem ne_ss:neX (.str "sheet") (.str "sheet")=some (.bl false,.z):=rfl
set_option tactic.hygienic true in
theorem Al (ns:List Int) (v:ns.length<=63):Cl [(.fls (ns.map .int),.z)]=some (.ok (.bl true,.z),[(.fls (ns.map .int),.z)]):=by
 have f:∃ m:Nat,(if (if ((5:Int) < ((ns.map L3.D.int).length:Int)) then (5:Int) else ((ns.map L3.D.int).length:Int)) > 1 then (if ((5:Int) < ((ns.map L3.D.int).length:Int)) then (5:Int) else ((ns.map L3.D.int).length:Int)) else (1:Int))=(m:Int)/\m<=5:=by
  refine ⟨max 1 (min ns.length 5),?_,by omega⟩
  simp only[Fa]
  split <;> split <;> lia
 obtain ⟨m,hm,a⟩:=f
 obtain ⟨ρ',e,v1,v2,v3,v4,v5,v6,v7,v8,v9,v10,v11,v12,v13,rfl⟩:=dO (bnd:=av 1) (b:=ji) (λ_ ρ=>∃ v1 v2 v3 v4 v5 v6 v7 v8 v9 v10 v11 v12 v13,ρ=[some (.fls (ns.map .int),.z),v1,v2,v3,v4,v5,v6,v7,v8,v9,v10,v11,v12,v13]) (ds:=bh 0 m) (ρ:=[some (.fls (ns.map .int),.z),none,none,none,none,none,none,none,none,none,none,none,none,none]) (k:=0) ⟨_,_,_,_,_,_,_,_,_,_,_,_,_,rfl⟩ (by
  rintro i d ρ hd ⟨v1,v2,v3,v4,v5,v6,v7,v8,v9,v10,v11,v12,v13,rfl⟩
  obtain ⟨hi,rfl⟩:=dI hd
  rw[Int.zero_add]
  obtain ⟨o,u,t,q,n,p,s,r,j,g,l,c,e⟩:=yy (ns:=ns) i (v2:=v2) (v3:=v3) (v4:=v4) (v5:=v5) (v6:=v6) (v7:=v7) (v8:=v8) (v9:=v9) (v10:=v10) (v11:=v11) (v12:=v12) (v13:=v13)
  exact ⟨_,_,rfl,.inl e,_,_,_,_,_,_,_,_,_,_,_,_,_,rfl⟩)
 have h:fO [.int (if (if ((5:Int) < ((ns.map L3.D.int).length:Int)) then (5:Int) else ((ns.map L3.D.int).length:Int)) > 1 then (if ((5:Int) < ((ns.map L3.D.int).length:Int)) then (5:Int) else ((ns.map L3.D.int).length:Int)) else (1:Int))]=some (bh 0 m):=by
  rw[hm]
  exact ip (by lia) (by lia)
 have g1:=yO (.fls (ns.map .int))
 have g2:=rX
 apply a8 (ρ:=[some (.fls (ns.map .int),.z),none,none,none,none,none,none,none,none,none,none,none,none,none]) rfl rfl
 ·apply al (ρ1:=[some (.fls (ns.map .int),.z),none,none,none,none,none,none,none,none,none,none,none,none,none])
  ·exact dM (dB (dN (aD g2 (ao g1 aF) rfl rfl rfl) i_c rfl rfl ne_ss) rfl) rfl rfl
  apply al
  ·apply eK
   ·(repeat' (first | with_reducible apply gm (h3:=h) | infer_instance | eq_refl))
   ·rfl
   ·exact e
  ·nofun
 ·rfl
end Bn
end
namespace Bn
open PySem L2 L3
theorem EQ {l:PySem.W.OpenLaw} {w:World} {K:FG} {h:Heap} {mg:Str -> Option Value} {fa:Addr} (X:K.In h) (G:h.Ns mainGlobals mg) (ei:mg "law"=some (.ref fa)) (e:Ah K=ub) :
  ∃ fd:FuncData,(∀ (s:Shared) (v:Value),BindsTo s fd ⟨[v],[]⟩ [("_law_script",v)]) /\ ∀ base:Heap,K.In base -> base.Ns mainGlobals mg -> FnOk l.prog w K mg base CX0 6 fa fd ["_law_script"] (wF K):=by
 have q:dsL.map (λp=>qy K p.1)=dsL.map (λp=>lQ p.1 p.2):=congrArg (λx=>x.1) e
 have e1:blL.map (PySem.W.nsIn K mainGlobals)=blL.map (λ_=>some none):=congrArg (λx=>x.2.1) e
 have e2:ciL.map (λp=>oR K p.1)=ciL.map (λp=>some p.2):=congrArg (λx=>x.2.2.1) e
 have e3:csL.map (λp=>wE K p.1)=csL.map (λp=>some p.2):=congrArg (λx=>x.2.2.2.1) e
 have e4:xrL.map (λr:String=>nG K r)=xrL.map (λ_:String=>oZ):=congrArg (λx=>x.2.2.2.2.1) e
 have e5:xcL.map (ir K)=xcL.map (λ_=>true):=congrArg (λx=>x.2.2.2.2.2.1) e
 have e6:xbL.map (PySem.W.nsIn K mainGlobals)=xbL.map (λ_=>some none):=congrArg (λx=>x.2.2.2.2.2.2.1) e
 have e7:jU K=iw:=congrArg (λx=>x.2.2.2.2.2.2.2.1) e
 have o:[PySem.W.kitOne K (.ref (ah K "NoSheet")) (.ref (ah K "Apart")),PySem.W.kitOne K (.ref (ah K "OnLine")) (.ref (ah K "Apart")),PySem.W.kitOne K (.ref (ah K "NoSheet")) (.ref (ah K "Bare")),PySem.W.kitOne K (.ref (ah K "OnLine")) (.ref (ah K "Bare")),PySem.W.kitOne K (.ref (ah K "NoSheet")) (.ref (ah K "BentError")),PySem.W.kitOne K (.ref (ah K "OnLine")) (.ref (ah K "BentError")),PySem.W.kitOne K (.ref (ah K "NoSheet")) (.ref (ah K "NoNumber")),PySem.W.kitOne K (.ref (ah K "OnLine")) (.ref (ah K "NoNumber")),PySem.W.kitOne K (.ref (ah K "NoSheet")) (.ref (ah K "NoPlace")),PySem.W.kitOne K (.ref (ah K "OnLine")) (.ref (ah K "NoPlace")),PySem.W.kitOne K (.ref (ah K "NoSheet")) (.ref (ah K "NoRing")),PySem.W.kitOne K (.ref (ah K "OnLine")) (.ref (ah K "NoRing")),PySem.W.kitOne K (.ref (ah K "NoSheet")) (.ref (ah K "NoRow")),PySem.W.kitOne K (.ref (ah K "OnLine")) (.ref (ah K "NoRow")),PySem.W.kitOne K (.ref (ah K "NoSheet")) (.ref (ah K "NoSheet")),PySem.W.kitOne K (.ref (ah K "OnLine")) (.ref (ah K "NoSheet")),PySem.W.kitOne K (.ref (ah K "NoSheet")) (.ref (ah K "NoText")),PySem.W.kitOne K (.ref (ah K "OnLine")) (.ref (ah K "NoText")),PySem.W.kitOne K (.ref (ah K "NoSheet")) (.ref (ah K "OnLine")),PySem.W.kitOne K (.ref (ah K "OnLine")) (.ref (ah K "OnLine")),PySem.W.kitOne K (.ref (ah K "NoSheet")) (.ref (ah K "TooMany")),PySem.W.kitOne K (.ref (ah K "OnLine")) (.ref (ah K "TooMany")),PySem.W.kitOne K (.ref (ah K "NoSheet")) (.type "ValueError"),PySem.W.kitOne K (.ref (ah K "OnLine")) (.type "ValueError")]=[some false,some false,some false,some false,some true,some true,some false,some false,some false,some false,some false,some false,some false,some false,some true,some false,some false,some false,some false,some true,some false,some false,some true,some true]:=congrArg (λx=>x.2.2.2.2.2.2.2.2.1) e
 have e9:[PySem.W.exmOne K (.ref (ah K "NoSheet")) (.ref (ah K "BentError")),PySem.W.exmOne K (.ref (ah K "OnLine")) (.ref (ah K "BentError"))]=[some true,some true]:=congrArg (λx=>x.2.2.2.2.2.2.2.2.2.1) e
 have ej:t7 K "OnLine" "three"=oS "OnLine.__init__" mK:=congrArg (λx=>x.2.2.2.2.2.2.2.2.2.2.1) e
 have ew:nQ K=true:=congrArg (λx=>x.2.2.2.2.2.2.2.2.2.2.2) e
 have B:Bl mg:=⟨bS X G e1 0 rfl,bS X G e1 1 rfl,bS X G e1 2 rfl,bS X G e1 3 rfl,bS X G e1 4 rfl,bS X G e1 5 rfl,bS X G e1 6 rfl,bS X G e1 7 rfl,bS X G e1 8 rfl,bS X G e1 9 rfl,bS X G e1 10 rfl,bS X G e1 11 rfl,bS X G e1 12 rfl,bS X G e1 13 rfl,bS X G e1 14 rfl,bS X G e1 15 rfl,bS X G e1 16 rfl,bS X G e1 17 rfl,bS X G e1 18 rfl,bS X G e1 19 rfl⟩
 have D0:Def K mg "is_whole" eY:=aX X G q 0 rfl
 have D1:Def K mg "is_point" eZ:=aX X G q 1 rfl
 have D2:Def K mg "are_points" dw:=aX X G q 2 rfl
 have D3:Def K mg "has_rising_x" cn:=aX X G q 3 rfl
 have D4:Def K mg "bend" n4:=aX X G q 4 rfl
 have D5:Def K mg "threes" i6:=aX X G q 5 rfl
 have D6:Def K mg "first_on_line" bY:=aX X G q 6 rfl
 have D7:Def K mg "sheet_of" eW:=aX X G q 7 rfl
 have D8:Def K mg "_law_cell" jb:=aX X G q 8 rfl
 have D9:Def K mg "_law_mix" ky:=aX X G q 9 rfl
 have ep:Def K mg "_law_box" kA:=aX X G q 10 rfl
 have eu:Def K mg "_law_take" i7:=aX X G q 11 rfl
 have d4:Def K mg "_law_whole" ie:=aX X G q 12 rfl
 have eo:Def K mg "_law_mixed_up" du:=aX X G q 13 rfl
 have ed:Def K mg "_law_bend" jc:=aX X G q 14 rfl
 have d3:Def K mg "_law_free" ja:=aX X G q 15 rfl
 have eb:Def K mg "_law_sheet" ig:=aX X G q 16 rfl
 have et:Def K mg "_law_odd" ku:=aX X G q 17 rfl
 have en:Def K mg "_law_points" eX:=aX X G q 18 rfl
 have er:Def K mg "_law_line" i9:=aX X G q 19 rfl
 have el:Def K mg "_law_marks" io:=aX X G q 20 rfl
 have ek:Def K mg "_law_said" i8:=aX X G q 21 rfl
 have ea:Def K mg "_law_due" kz:=aX X G q 22 rfl
 obtain ⟨f,fd,F0,hf⟩:Def K mg "law" fX:=aX X G q 23 rfl
 cases ei.symm.trans hf
 have F:=F0
 obtain ⟨oc,od,kV,doc,pm,an,ec,ct,eH,ef,lk,ey⟩:=F0.ex
 subst ef
 obtain ⟨ez,Q0⟩:=Ej X G e2 0 (n:="MOST_POINTS") (v:=24) rfl
 obtain ⟨b,b4,a7⟩:=Ek (r:="OnLine") (n:="three") X G e7 ej ⟨rfl,rfl,rfl,by decide +kernel,rfl,by decide +kernel,by decide +kernel⟩ rfl rfl rfl (λ_ _ _ _ _ _ _ _=>rfl) (by decide +kernel) (by decide +kernel)
 obtain ⟨a,a4⟩:=EB X G e7 e4 0 (r:="NoSheet") rfl
 have a3:mg "NoSheet"=_:=dJ X G e5 0 rfl
 have ck:mg "OnLine"=_:=dJ X G e5 1 rfl
 have dc:mg "Apart"=_:=dJ X G e5 2 rfl
 have dr:mg "Bare"=_:=dJ X G e5 3 rfl
 have d:mg "BentError"=_:=dJ X G e5 4 rfl
 have ae:mg "NoNumber"=_:=dJ X G e5 5 rfl
 have az:mg "NoPlace"=_:=dJ X G e5 6 rfl
 have cm:mg "NoRing"=_:=dJ X G e5 7 rfl
 have c3:mg "NoRow"=_:=dJ X G e5 8 rfl
 have cv:mg "NoText"=_:=dJ X G e5 9 rfl
 have ax:mg "TooMany"=_:=dJ X G e5 10 rfl
 have z:mg "ValueError"=none:=bS X G e6 0 rfl
 have c7:IsX K (.ref (ah K "Apart")) [("NoSheet",false),("OnLine",false)]:=(.cons a (c5 o 0 rfl rfl) (.cons b (c5 o 1 rfl rfl) .nil))
 have d0:IsX K (.ref (ah K "Bare")) [("NoSheet",false),("OnLine",false)]:=(.cons a (c5 o 2 rfl rfl) (.cons b (c5 o 3 rfl rfl) .nil))
 have M:IsX K (.ref (ah K "BentError")) [("NoSheet",true),("OnLine",true)]:=(.cons a (c5 o 4 rfl rfl) (.cons b (c5 o 5 rfl rfl) .nil))
 have Y:IsX K (.ref (ah K "NoNumber")) [("NoSheet",false),("OnLine",false)]:=(.cons a (c5 o 6 rfl rfl) (.cons b (c5 o 7 rfl rfl) .nil))
 have a6:IsX K (.ref (ah K "NoPlace")) [("NoSheet",false),("OnLine",false)]:=(.cons a (c5 o 8 rfl rfl) (.cons b (c5 o 9 rfl rfl) .nil))
 have b5:IsX K (.ref (ah K "NoRing")) [("NoSheet",false),("OnLine",false)]:=(.cons a (c5 o 10 rfl rfl) (.cons b (c5 o 11 rfl rfl) .nil))
 have c4:IsX K (.ref (ah K "NoRow")) [("NoSheet",false),("OnLine",false)]:=(.cons a (c5 o 12 rfl rfl) (.cons b (c5 o 13 rfl rfl) .nil))
 have ar:IsX K (.ref (ah K "NoSheet")) [("NoSheet",true),("OnLine",false)]:=(.cons a (c5 o 14 rfl rfl) (.cons b (c5 o 15 rfl rfl) .nil))
 have bt:IsX K (.ref (ah K "NoText")) [("NoSheet",false),("OnLine",false)]:=(.cons a (c5 o 16 rfl rfl) (.cons b (c5 o 17 rfl rfl) .nil))
 have b3:IsX K (.ref (ah K "OnLine")) [("NoSheet",false),("OnLine",true)]:=(.cons a (c5 o 18 rfl rfl) (.cons b (c5 o 19 rfl rfl) .nil))
 have a5:IsX K (.ref (ah K "TooMany")) [("NoSheet",false),("OnLine",false)]:=(.cons a (c5 o 20 rfl rfl) (.cons b (c5 o 21 rfl rfl) .nil))
 have C:IsX K (.type "ValueError") [("NoSheet",true),("OnLine",true)]:=(.cons a (c5 o 22 rfl rfl) (.cons b (c5 o 23 rfl rfl) .nil))
 have L:ExX K (ah K "BentError") ["NoSheet","OnLine"]:=(.cons a (c5 e9 0 rfl rfl) (.cons b (c5 e9 1 rfl rfl) .nil))
 have d2:sI K:=CN ew
 refine ⟨PySem.W.fnOf "law" "law" (aH fX) (aw fX) (ad fX) .none kV doc pm an ec ct,λs v=>.of_eq rfl,λbase _ _=>?_⟩
 have R:=pc (P:=l.prog) (w:=w) (base:=base) B D0
 have Z:=pg (P:=l.prog) (w:=w) (base:=base) B D1 R
 have u:=lX (P:=l.prog) (w:=w) (base:=base) B D2 Z Q0
 have k:=jW (P:=l.prog) (w:=w) (base:=base) B D3
 have dV:=zo (P:=l.prog) (w:=w) (base:=base) B D4
 have b6:=sj (P:=l.prog) (w:=w) (base:=base) B D5
 have j:=jv (P:=l.prog) (w:=w) (base:=base) B D6 dV b6
 have y:=lV (P:=l.prog) (w:=w) (base:=base) B D7 u j k a a4 b b4
 have J:=sA (P:=l.prog) (w:=w) (base:=base) B D8
 have T:=wj (P:=l.prog) (w:=w) (base:=base) B D9
 have U:=wl (P:=l.prog) (w:=w) (base:=base) B ep J T
 have c:=sk (P:=l.prog) (w:=w) (base:=base) B eu
 have A:=qJ (P:=l.prog) (w:=w) (base:=base) B d4
 have i:=lW (P:=l.prog) (w:=w) (base:=base) B eo c
 have g:=sB (P:=l.prog) (w:=w) (base:=base) B ed
 have O:=sy (P:=l.prog) (w:=w) (base:=base) B d3 g
 have D:=qK (P:=l.prog) (w:=w) (base:=base) B eb O c
 have S:=wg (P:=l.prog) (w:=w) (base:=base) B et c
 have t:=o9 (P:=l.prog) (w:=w) (base:=base) B en A
 have I:=su (P:=l.prog) (w:=w) (base:=base) B er g
 have m:=mx (P:=l.prog) (w:=w) (base:=base) B el dc c7 dr d0 d M ae Y az a6 cm b5 c3 c4 a3 ar cv bt ck b3 ax a5 z C
 have N:=so (P:=l.prog) (w:=w) (base:=base) B ek m y a7 d L
 have V:=wk (P:=l.prog) (w:=w) (base:=base) B ea I t
 exact FnOk.imp (Bq (P:=l.prog) (w:=w) (base:=base) B F U V i S N D c d2) λvs H Q E h=>Bc (λns hn=>⟨_,Al ns hn⟩) h
theorem walkL:PySem.W.WalkO viL loL (λ_ _=>True) (λ_ h=>∃ K:FG,K.In h /\ Ah K=ub) PySem.Challenge.rw_bentrows_k02_sheets_of_points.row.toRowW ⟨"law",aH fX,aw fX,ad fX,stPos fX⟩ [] (λf vs=>PySem.call f vs) :=
 L2.walk_ofS (l:=PySem.Challenge.rw_bentrows_k02_sheets_of_points) (n:=63) (k:=6) (x:="_law_script") (S:=λK=>Ah K=ub) (CX:=CX0) (sp:=wF) rfl (by decide) rfl ⟨rfl,by decide,by decide,rfl⟩ (λ_ _ z=>z) (λ_ _ _ _ _ e X G hm=>EQ X G hm e) (λ_ _ a ns hl b c=>⟨a,ns,rfl,c,b,hl,λ_=>rfl⟩) λ_ _ _ _ z=>z
end Bn
set_option tactic.hygienic true
open PySem PySem.W PyProof.Rows
set_option maxRecDepth 100000 in
set_option maxHeartbeats 0 in
theorem PySem.Challenge.cw_bentrows_k02_sheets_of_points_holds : PySem.Challenge.rw_bentrows_k02_sheets_of_points.Holds :=
 holds_law Bn.okL λsaid=>holds_open (r:=PySem.Challenge.rw_bentrows_k02_sheets_of_points.row) Bn.leftL (λ_ _ e=>⟨_,L2.fragAt_in _,e⟩) (λ_ _ _ ⟨K,X,e⟩ k=>⟨K,X.keeps k,e⟩) (λ_ _=>trivial) (λ_ _ _ _ _=>trivial) (by kernel_rfl) (by kernel_rfl) (by kernel_rfl) (λs e=>recFacts_of e) (by rfl) said (by kernel_rfl) ⟨rfl,rfl,rfl,rfl,rfl,by decide +kernel⟩ ⟨[.list []],by decide +kernel,by decide +kernel⟩ Bn.walkL
