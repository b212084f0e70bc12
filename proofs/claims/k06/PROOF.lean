import PyProof.Rows.All
import Wide.All
import OpenK.AllK
import Wide.FinOn
import Lean
import PyProof.EqAt
import PyProof.EqKinds
import PyProof.TupleCall
import PyProof.P3Eq
import PyProof.NeData
import PyProof.ListRange
import PyProof.Rows.CallKwBuiltin
import PyProof.Rows.Range3
import PyProof.DictWalks
import PyProof.MinMaxWalk
import PyProof.WalkInts
import PyProof.Walk
import PyProof.WalkLemmas
import PyProof.RulesTry
import PyProof.Rows.SortShell
import PyProof.Rows.SortWalk
import PyProof.Rows.SortRuns
import PyProof.Rows.SetFrom
import PyProof.SetKind
import PyProof.SetScanFacts
import PyProof.FactsAll.subtypes_4
import PyProof.FactsAll.set_1
import PyProof.DictDisplay
import OpenK.KOwn
import KE.KTryMore
import KE.RegKTryMore
import PyProof.Rows.Catch
import KE.KIsAll
import KE.RegKIsAll
import PyProof.ExcArgsOwn
import PyProof.CallStr
import KE.IntBitsLaws
import PyProof.TupleCall
import PyProof.TupleOfGen
import PySem.Challenge.RW_bentrows_k06_texts_refused
set_option tactic.hygienic false
set_option genSizeOf false
set_option compiler.extract_closed false
set_option Elab.async false
noncomputable section
local macro_rules|`(#[$a,*])=>`(⟨$a,*⟩)
local macro_rules|`(#v[$a])=>`(some ($a,.z))
set_option linter.all false
set_option maxRecDepth 100000
set_option maxHeartbeats 4000000
section
abbrev FG:=PySem.W.Frag
open PySem PySem.Spec PyProof.Rows
abbrev Fb:=@wpAny_bind
abbrev Fc:=@wpAny_pure
abbrev Fd:=@wpAny_holding
abbrev Fe:=@List.mem_cons_self
abbrev Ff:=@List.mem_cons_of_mem
abbrev Fg:=@Heap.get?_push_of_some
abbrev Fh:=@Option.map_eq_some_iff
abbrev Fi:=@List.mem_append_left
abbrev Fj:=@List.mem_append_right
abbrev Fm:=@List.mem_cons
abbrev Fo:=@List.getElem?_eq_getElem
abbrev Fp:=@Heap.lt_size
abbrev Fq:=@List.mem_append
abbrev Fs:=@Heap.get?_push_size
abbrev Ft:=@List.length_map
abbrev Fu:=@List.getElem?_eq_some_iff
abbrev Fv:=@List.mem_of_getElem?
abbrev Fw:=@List.sublist_append_right
abbrev Fy:=@List.mem_map
abbrev Fz:=@List.getElem?_map
abbrev FA:=@Nat.le_refl
abbrev FC:=@Bool.false_ne_true
abbrev FD:=@Nat.ne_of_lt
abbrev FE:=@List.size_toArray
abbrev FF:=@List.map_cons
abbrev FH:=@decide_eq_true
abbrev FI:=@decide_eq_false
abbrev FJ:=@Nat.lt_of_lt_of_le
abbrev FK:=@Nat.zero_add
abbrev FL:=@Heap.get?_update_self
abbrev FN:=@List.length_append
abbrev FO:=@List.length_cons
abbrev FP:=@List.length_take
abbrev FQ:=@Option.map_some
abbrev FR:=@Option.bind_eq_some_iff
abbrev FT:=@List.mem_singleton
abbrev FU:=@Bool.false_eq_true
abbrev FV:=@List.mem_filter
abbrev FW:=@List.getElem?_append_left
abbrev FX:=@Heap.get?_update_other
abbrev FY:=@Heap.size_push
abbrev FZ:=@wpAny_truthy_bool
abbrev F1:=@Nat.le_trans
abbrev F2:=@List.take_of_length_le
abbrev F5:=@List.filter_eq_self
abbrev F6:=@List.mem_flatMap
abbrev F7:=@List.map_map
abbrev F8:=@Option.some.inj
end
section
namespace L2
open PySem
def aK (s:Stmt):Arguments:=match s with
 | .FunctionDef _ a _ _ _ _ _ _ _ _=>a
 | _=>{ posonlyargs:=[],args:=[],vararg:=none,kwonlyargs:=[],kw_defaults:=[],kwarg:=none,defaults:=[] }
def aG (s:Stmt):List Stmt:=match s with
 | .FunctionDef _ _ b _ _ _ _ _ _ _=>b
 | _=>[]
def ah (s:Stmt):Scope:=match s with
 | .FunctionDef _ _ _ _ _ _ sc _ _ _=>sc
 | _=>{ kind:=.function,names:=[],isGenerator:=false,isCoroutine:=false }
def qj (p:Nat×Obj):Option (Nat×Obj):=match p.2 with
 | #[_,_,.freed,_]=>none
 | o=>some (p.1,o)
def yA (h:Heap):FG:=((List.range h.objs.size).zip h.objs.toList).filterMap qj
def aA (K:FG) (n:Str):Addr:=match PySem.W.nsIn K mainGlobals n with
 | some (some (.ref f))=>f
 | _=>0
abbrev o9:=Str×Str×Arguments×FuncBody×Scope×Addr×List (Str×Addr)×Value×Addr×Bool
def qv (K:FG) (n:Str):Option o9:=match PySem.W.nsIn K mainGlobals n with
 | some (some (.ref f))=>(match K.lookup f with
  | some #[_,_,.func fd,_]=>some (fd.name,fd.qualname,fd.params,fd.body,fd.scope,fd.globals,fd.closure,fd.defaults,fd.builtins,PySem.W.codeIn K fd.code n)
  | _=>none)
 | _=>none
def lx (n:Str) (st:Stmt):Option o9:=some (n,n,aK st,.stmts (aG st),ah st,mainGlobals,[],.none,builtinsNs,true)
def oB (K:FG) (n:Str):Option Int:=match PySem.W.nsIn K mainGlobals n with
 | some (some (.int v _))=>some v
 | _=>none
def nz (K:FG) (n:Str):Option Str:=match PySem.W.nsIn K mainGlobals n with
 | some (some (.str v _))=>some v
 | _=>none
open PySem.W PyProof.Rows in
theorem uX {p q:Program} {loose:List Str} {g:Shared → Bool} {α:Type} {c:Shared → α} {d:World → α} {N m:Nat} {ann:Option Value}
  (e:opening p=plainProg p.main.scope.names) (n:Nat.ble 600 N=true) (f:∀ s,fenceModules? p s=some s)
  (sz:∀ w:World,((boot_heap w.params).isNs mainGlobals && (Array.mk []:Array GenState).size == 0,(boot_heap w.params).objs.size,(boot_heap w.params).nsMap mainGlobals "__annotations__")=(true,m,ann))
  (go:∀ (w:World) (os:OsState),(PySem.W.Fast.tw14082659384304107361 PySem.W.Fast.tw14364793385576792824 p w m ann N #[boot_heap w.params,Array.mk [],boot_drawn,boot_toks,os] (topStub p)).map (λs=>((staticsOk (importedModules p.main.body) (boot_heap w.params) s.heap && namesBound p s.heap && gensDone s && laidKept (boot_heap w.params) s.heap),PySem.W.Fast.tw4187177175401517315 q loose (importedModules p.main.body) g true s,c s))=some (true,openGood q loose,d w)):LeftO p q loose g c d N:=λw=>by
 obtain ⟨⟨i,h,l,tk,os⟩,k,j⟩:=Fh.mp (boot_open e n f w)
 obtain ⟨rfl,rfl,rfl,rfl⟩:i=boot_heap w.params ∧ h=Array.mk [] ∧ l=boot_drawn ∧ tk=boot_toks:=by simpa using j
 have sw:=sz w
 have a:=go w os
 rw[← PySem.W.Fast.te14082659384304107361,← PySem.W.Fast.te14364793385576792824,← PySem.W.Fast.te4187177175401517315] at a
 simp only[Prod.mk.injEq] at sw
 obtain ⟨s,o,b⟩:=Fh.mp a
 simp only[Prod.mk.injEq] at b
 have tt:topFrom treeTable p w N #[boot_heap w.params,Array.mk [],boot_drawn,boot_toks,os]=some s:=by
  unfold topFrom
  dsimp only
  rw[sw.1,sw.2.1,sw.2.2,o]
  change (match staticsOk (importedModules p.main.body) (boot_heap w.params) s.heap && namesBound p s.heap && gensDone s && laidKept (boot_heap w.params) s.heap with | true=>some s | false=>none)=some s
  rw[b.1]
 unfold openEnds
 rw[k]
 change Option.map _ (topFrom treeTable p w N _)=_
 rw[tt]
 exact congrArg some (Prod.ext b.2.1 b.2.2)
theorem uy (h:PySem.W.Fast.tw9446332074065402090 l=true):l.wellSaid=true:=by rw[← PySem.W.Fast.te9446332074065402090] at h; exact h
abbrev iR:List Value:=[.type "ValueError",.type "Exception",.type "BaseException",.type "object"]
def A7 (s:Stmt) (j:Nat):Stmt:=match s with
 | .ClassDef _ _ _ body _ _ _ _ _ _ _=>body.getD j (.Pass #[0,0,0,0])
 | _=>.Pass #[0,0,0,0]
def td:List Value → Bool
 | .ref _::r=>td r
 | l=>l == iR
def oK (K:FG) (C:Addr):Bool:=match K.lookup C with
 | some #[.type "type",_,.cls cd,sl]=>(match cd.mro,sl.toList with
  | .ref C1::bm,[_,_,_,_,some (.builtin n),_]=>PySem.W.nsOkIn K cd.ns && (PySem.W.tailIn K iR bm && (!cd.hasDel && (n == "ValueError.__new__" && C1 == C)))
  | _,_=>false)
 | _=>false
end L2
namespace L3
open PySem L2
def iq (K:FG) (n:Str):Bool:=match PySem.W.nsIn K mainGlobals n with
 | some (some (.ref _))=>true
 | _=>false
abbrev lH:=Bool×Option (Option Value)×Option (Option Value)×Bool×Option (Option Value)×Option Bool×Option Bool×Bool
def t7 (K:FG) (r:Str):lH:=(iq K r,PySem.W.findIn K (.ref (aA K r)) "__getattribute__",PySem.W.findIn K (.ref (aA K r)) "__getattr__",PySem.W.isClsIn K (aA K r),PySem.W.findIn K (.ref (aA K r)) "__class__",PySem.W.mroIn K (aA K r) (.type "object"),PySem.W.mroIn K (aA K r) (.type "BaseException"),PySem.W.excIn K (aA K r) iR "ValueError.__new__")
def yO:lH:=(true,some (some (.builtin "BaseException.__getattribute__")),some none,true,some (some (.builtin "object.__class__")),some true,some true,true)
def oN (K:FG):Option (Option Value)×Option Bool:=(PySem.W.specialIn K (.builtin "object.__class__") "__get__",PySem.W.takesIn K (.builtin "object.__class__"))
def kE:Option (Option Value)×Option Bool:=(some (some (.builtin "getset_descriptor.__get__")),some true)
def nq (K:FG):Bool:=match K.lookup sysModules with
 | some #[_,_,.dict _ _,_]=>true
 | _=>false
abbrev zg:=Value×Str×Str×Arguments×FuncBody×Scope×Addr×List (Str×Addr)×Value×Addr×Bool
def B2 (K:FG) (C:Addr):Option zg:=match PySem.W.findIn K (.ref C) "__init__" with
 | some (some (.ref f))=>(match K.lookup f with
  | some #[c,_,.func fd,_]=>some (c,fd.name,fd.qualname,fd.params,fd.body,fd.scope,fd.globals,fd.closure,fd.defaults,fd.builtins,PySem.W.codeIn K fd.code fd.qualname)
  | _=>none)
 | _=>none
abbrev o8:=lH×Bool×Option (Option Value)×Bool×Option (Option Value)×Option zg
def tG (K:FG) (r n:Str):o8:=(t7 K r,oK K (aA K r),PySem.W.findIn K (.ref (aA K r)) "__setattr__",(PySem.W.clsIn K (aA K r)).any (λcd=>td cd.mro && cd.hasDict),PySem.W.findIn K (.ref (aA K r)) n,B2 K (aA K r))
def oC (q:Str) (st:Stmt):o8:=((true,some (some (.builtin "BaseException.__getattribute__")),some none,true,some (some (.builtin "object.__class__")),some true,some true,false),true,some (some (.builtin "object.__setattr__")),true,some none,some (.type "function","__init__",q,aK st,.stmts (aG st),ah st,mainGlobals,[],.none,builtinsNs,true))
end L3
namespace Bn
open PySem L2 L3
def top (i:Nat):Stmt:=PySem.Challenge.pw_bentrows_k06_texts_refused.main.body.getD i (.Pass ⟨0,0,0,0⟩)
abbrev eY:Stmt:=top 13
abbrev fc:Stmt:=top 14
abbrev dH:Stmt:=top 17
abbrev cJ:Stmt:=top 18
abbrev nE:Stmt:=top 19
abbrev i8:Stmt:=top 20
abbrev cu:Stmt:=top 21
abbrev eZ:Stmt:=top 22
abbrev dg:Stmt:=top 25
abbrev dG:Stmt:=top 26
abbrev dF:Stmt:=top 27
abbrev je:Stmt:=top 29
abbrev ko:Stmt:=top 30
abbrev kr:Stmt:=top 31
abbrev i9:Stmt:=top 32
abbrev hJ:Stmt:=top 33
abbrev jg:Stmt:=top 34
abbrev jd:Stmt:=top 35
abbrev hU:Stmt:=top 36
abbrev kn:Stmt:=top 37
abbrev jc:Stmt:=top 38
abbrev hV:Stmt:=top 39
abbrev eX:Stmt:=top 40
abbrev jb:Stmt:=top 41
abbrev ja:Stmt:=top 42
abbrev jf:Stmt:=top 43
abbrev fW:Stmt:=top 44
abbrev dsL:List (Str×Stmt):=[(("is_whole":Str),eY),(("is_point":Str),fc),(("are_points":Str),dH),(("has_rising_x":Str),cJ),(("bend":Str),nE),(("threes":Str),i8),(("first_on_line":Str),cu),(("is_sheet":Str),eZ),(("read_number":Str),dg),(("read_point":Str),dG),(("read_sheet":Str),dF),(("_law_cell":Str),je),(("_law_mix":Str),ko),(("_law_box":Str),kr),(("_law_take":Str),i9),(("_law_whole":Str),hJ),(("_law_bend":Str),jg),(("_law_free":Str),jd),(("_law_sheet":Str),hU),(("_law_odd":Str),kn),(("_law_line":Str),jc),(("_law_marks":Str),hV),(("_law_number":Str),eX),(("_law_read":Str),jb),(("_law_said":Str),ja),(("_law_bent":Str),jf),(("law":Str),fW)]
abbrev blL:List Str:=[("len":Str),("range":Str),("abs":Str),("divmod":Str),("enumerate":Str),("tuple":Str),("isinstance":Str),("int":Str),("bool":Str),("all":Str),("str":Str),("max":Str),("min":Str),("list":Str),("dict":Str),("repr":Str),("sorted":Str),("set":Str),("zip":Str),("reversed":Str),("sum":Str)]
abbrev ciL:List (Str×Int):=[(("MOST_POINTS":Str),(24:Int))]
abbrev csL:List (Str×Str):=[(("FIGURES":Str),("0123456789":Str))]
abbrev xrL:List String:=[]
abbrev xcL:List Str:=[("NoText":Str),("Apart":Str),("Bare":Str),("BentError":Str),("NoNumber":Str),("NoPlace":Str),("NoRing":Str),("NoRow":Str),("NoSheet":Str),("OnLine":Str),("TooMany":Str)]
abbrev xbL:List Str:=[("ValueError":Str)]
abbrev mm:Stmt:=A7 (top 11) 0
def zN (K:FG):List (Option o9)×List (Option (Option Value))×List (Option Int)×List (Option Str)×List lH×List Bool×List (Option (Option Value))×(Option (Option Value)×Option Bool)×List (Option Bool)×List (Option Bool)×o8×Bool:=(dsL.map (λp=>qv K p.1),blL.map (PySem.W.nsIn K mainGlobals),ciL.map (λp=>oB K p.1),csL.map (λp=>nz K p.1),xrL.map (λr:String=>t7 K r),xcL.map (iq K),xbL.map (PySem.W.nsIn K mainGlobals),oN K,[PySem.W.kitOne K (.ref (aA K "NoText")) (.ref (aA K "Apart")),PySem.W.kitOne K (.ref (aA K "NoText")) (.ref (aA K "Bare")),PySem.W.kitOne K (.ref (aA K "NoText")) (.ref (aA K "BentError")),PySem.W.kitOne K (.ref (aA K "NoText")) (.ref (aA K "NoNumber")),PySem.W.kitOne K (.ref (aA K "NoText")) (.ref (aA K "NoPlace")),PySem.W.kitOne K (.ref (aA K "NoText")) (.ref (aA K "NoRing")),PySem.W.kitOne K (.ref (aA K "NoText")) (.ref (aA K "NoRow")),PySem.W.kitOne K (.ref (aA K "NoText")) (.ref (aA K "NoSheet")),PySem.W.kitOne K (.ref (aA K "NoText")) (.ref (aA K "NoText")),PySem.W.kitOne K (.ref (aA K "NoText")) (.ref (aA K "OnLine")),PySem.W.kitOne K (.ref (aA K "NoText")) (.ref (aA K "TooMany")),PySem.W.kitOne K (.ref (aA K "NoText")) (.type "ValueError")],[PySem.W.exmOne K (.ref (aA K "NoText")) (.ref (aA K "BentError"))],tG K "NoText" "at",nq K)
def tK:List (Option o9)×List (Option (Option Value))×List (Option Int)×List (Option Str)×List lH×List Bool×List (Option (Option Value))×(Option (Option Value)×Option Bool)×List (Option Bool)×List (Option Bool)×o8×Bool:=(dsL.map (λp=>lx p.1 p.2),blL.map (λ_=>some none),ciL.map (λp=>some p.2),csL.map (λp=>some p.2),xrL.map (λ_:String=>yO),xcL.map (λ_=>true),xbL.map (λ_=>some none),kE,[some false,some false,some true,some false,some false,some false,some false,some false,some true,some false,some false,some true],[some true],oC "NoText.__init__" mm,true)
theorem okL:PySem.Challenge.rw_bentrows_k06_texts_refused.wellSaid=true:=uy (by kernel_rfl)
abbrev loL:List Str:=[("BentError":Str),("NoSheet":Str),("NoPlace":Str),("NoNumber":Str),("NoRow":Str),("Apart":Str),("NoRing":Str),("TooMany":Str),("Bare":Str),("OnLine":Str),("NoText":Str),("is_whole":Str),("is_point":Str),("MOST_POINTS":Str),("are_points":Str),("has_rising_x":Str),("bend":Str),("threes":Str),("first_on_line":Str),("is_sheet":Str),("FIGURES":Str),("read_number":Str),("read_point":Str),("read_sheet":Str),("_law_cell":Str),("_law_mix":Str),("_law_box":Str),("_law_take":Str),("_law_whole":Str),("_law_bend":Str),("_law_free":Str),("_law_sheet":Str),("_law_odd":Str),("_law_line":Str),("_law_marks":Str),("_law_number":Str),("_law_read":Str),("_law_said":Str),("_law_bent":Str)]
abbrev viL:Program:=PySem.W.view PySem.Challenge.rw_bentrows_k06_texts_refused.row.prog [44]
theorem leftL:PySem.W.LeftO PySem.Challenge.rw_bentrows_k06_texts_refused.row.prog viL loL (λs=>PySem.W.recOk (PySem.W.RowW.records PySem.Challenge.rw_bentrows_k06_texts_refused.row.toRowW) s) (λs=>zN (yA s.heap)) (λ_=>tK) 40000 :=
 uX (m:=11) (ann:=some (.ref 6)) (by kernel_rfl) rfl (λ_=>rfl) (λw=>by kernel_rfl) (λw os=>by kernel_rfl)
end Bn
end
section
namespace L2
open PySem PySem.Spec PyProof.Rows
abbrev Key:=Sum Int Str
def mJ:Key->Value->Bool
 | .inl k,v=>Value.isInt k v
 | .inr x,v=>Value.isStrOf x v
def keyH (w:World):Key->Int
 | .inl k=>hashInt k
 | .inr x=>hashStr w x
theorem bg:∀ {k:Key} {v:Value},mJ k v=true->(∃ i t,k=Sum.inl i/\v=Value.int i t)\/(∃ x t,k=Sum.inr x/\v=Value.str x t)
 | .inl i,v,h=>by
  obtain ⟨t,e⟩:=Value.isInt_shape (k:=i) (v:=v) h
  exact .inl #[i,t,rfl,e]
 | .inr x,v,h=>by
  obtain ⟨t,e⟩:=Value.isStrOf_shape (x:=x) (v:=v) h
  exact .inr #[x,t,rfl,e]
theorem u3 (i:Int) (t:Tok):mJ (.inl i) (.int i t)=true:=by simp[mJ,Value.isInt]
theorem uZ (x:Str) (t:Tok):mJ (.inr x) (.str x t)=true:=by simp[mJ,Value.isStrOf]
theorem Ey (a b:Int):decide ((Sum.inl a:Key)=Sum.inl b)=(a == b):=by
 by_cases e:a=b
 .subst e;simp
 .have h:¬ (Sum.inl a:Key)=Sum.inl b:=λq=>e (Sum.inl.inj q)
  rw[FI h]
  exact (beq_eq_false_iff_ne.mpr e).symm
theorem Ev (a b:Str):decide ((Sum.inr a:Key)=Sum.inr b)=decide (a=b):=by
 by_cases e:a=b
 .subst e;simp
 .have h:¬ (Sum.inr a:Key)=Sum.inr b:=λq=>e (Sum.inr.inj q)
  rw[FI h,FI e]
theorem Ex (a:Int) (b:Str):decide ((Sum.inl a:Key)=Sum.inr b)=false:=FI (λq=>nomatch q)
theorem Ew (a:Str) (b:Int):decide ((Sum.inr a:Key)=Sum.inl b)=false:=FI (λq=>nomatch q)
def bV (prog:Program) (w:World):PySem.KeyKind prog w Key where
 is:=mJ
 hash:=keyH w
 inj:=λv a b ha d=>by
  rcases bg ha with ⟨i,t,rfl,rfl⟩ | ⟨x,t,rfl,rfl⟩
  .rcases bg d with ⟨j,u,rfl,e⟩ | ⟨y,u,rfl,e⟩
   .injection e with e1 _;rw[e1]
   .exact nomatch e
  .rcases bg d with ⟨j,u,rfl,e⟩ | ⟨y,u,rfl,e⟩
   .exact nomatch e
   .injection e with e1 _;rw[e1]
 byValue:=λk v h=>by
  rcases bg h with ⟨i,t,rfl,rfl⟩ | ⟨x,t,rfl,rfl⟩ <;> rfl
 pyHash:=λc h=>by
  rcases bg c with ⟨i,t,rfl,rfl⟩ | ⟨x,t,rfl,rfl⟩
  .exact wpAny_pyHash_int h
  .exact wpAny_pyHash_str h
 eqBool:=λhu c h=>by
  rcases bg hu with ⟨i,t,rfl,rfl⟩ | ⟨x,t,rfl,rfl⟩
  .rcases bg c with ⟨j,u,rfl,rfl⟩ | ⟨y,u,rfl,rfl⟩
   .rw[Ey] at h;exact wpAny_eqBool_int h
   .rw[Ex] at h;exact SeqAt.EqAt.int_str i t y u _ _ _ _ h
  .rcases bg c with ⟨j,u,rfl,rfl⟩ | ⟨y,u,rfl,rfl⟩
   .rw[Ew] at h;exact SeqAt.EqAt.str_int x t j u _ _ _ _ h
   .rw[Ev] at h;exact wpAny_eqBool_str h
 «strs»:=λk x t v h=>by
  rcases bg h with ⟨i,u,rfl,e⟩ | ⟨y,u,rfl,e⟩
  .exact nomatch e
  .injection e with e1 _
   subst e1
   cases v <;> rfl
theorem p9 (prog:Program) (w:World) (i:Int) (t:Tok):(bV prog w).is (.inl i) (.int i t)=true:=u3 i t
theorem p8 (prog:Program) (w:World) (x:Str) (t:Tok):(bV prog w).is (.inr x) (.str x t)=true:=uZ x t
end L2
namespace L2
open PySem PySem.Spec PyProof.Rows
inductive V where
 | non | bl (b:Bool) | int (i:Int) | str (x:Str) | byt (b:Array UInt8) | flt (b:UInt64) | ref (a:Addr) | ty (n:String)
 deriving DecidableEq
def RelV:V->Value->Prop
 | .non,u=>u=Value.none
 | .bl b,u=>u=Value.bool b
 | .int i,u=>∃ t,u=Value.int i t
 | .str x,u=>∃ t,u=Value.str x t
 | .byt b,u=>∃ t,u=Value.bytes b t
 | .flt b,u=>∃ t,u=Value.float b t
 | .ref a,u=>u=Value.ref a
 | .ty n,u=>u=Value.type n
abbrev Vals:List V->List Value->Prop:=Paired RelV
theorem Vals.length (r:Vals xs us):xs.length=us.length:=Paired.length r
theorem Vals.get:∀ {xs:List V} {us:List Value} {i:Nat} {x:V},Vals xs us->xs[i]?=some x->∃ u,us[i]?=some u/\RelV x u
 | _,_,_,_,.nil,e=>by simp at e
 | _,_,0,_,.cons r _,e=>by simp at e;subst e;exact #[_,rfl,r]
 | _,_,i+1,x,.cons _ t,e=>by
  obtain ⟨u,h1,h2⟩:=Vals.get (i:=i) (x:=x) t (by simpa using e)
  exact #[u,by simpa using h1,h2]
theorem Vals.set (r:RelV x u):∀ {xs:List V} {us:List Value} (i:Nat),Vals xs us->Vals (xs.set i x) (us.set i u)
 | _,_,_,.nil=>.nil
 | _,_,0,.cons _ t=>.cons r t
 | _,_,i+1,.cons q t=>.cons q (Vals.set r i t)
theorem Vals.append:∀ {xs ys:List V} {us ws:List Value},Vals xs us->Vals ys ws->Vals (xs++ys) (us++ws)
 | _,_,_,_,.nil,s=>s
 | _,_,_,_,.cons r t,s=>.cons r (Vals.append t s)
theorem Vals.take:∀ {xs:List V} {us:List Value} (n:Nat),Vals xs us->Vals (xs.take n) (us.take n)
 | _,_,0,_=>.nil
 | _,_,_+1,.nil=>.nil
 | _,_,n+1,.cons r t=>.cons r (Vals.take n t)
theorem Vals.drop:∀ {xs:List V} {us:List Value} (n:Nat),Vals xs us->Vals (xs.drop n) (us.drop n)
 | _,_,0,r=>r
 | _,_,_+1,.nil=>.nil
 | _,_,n+1,.cons _ t=>Vals.drop n t
def RelO:Option V->Option Value->Prop
 | some v,some u=>RelV v u
 | none,none=>True
 | _,_=>False
def KV {κ:Type}:List (κ×V)->List (κ×Value)->Prop:=Paired λ(p:κ×V) (q:κ×Value)=>p.1=q.1/\RelV p.2 q.2
def kV:Key->V
 | .inl i=>.int i
 | .inr x=>.str x
inductive HO where
 | lst (xs:List V)
 | tup (xs:List V)
 | dK (kvs:List (Key×V)) | dT (kvs:List (List Key×V)) (n:Int)
 | set (S:Int->Bool) (n:Nat)
 | ins (C dx:Addr) (fs:List (Str×V))
 | dsk (C dx e:Addr) (vp:V) (vs:List V)
 | own (x:Addr)
 | xd (fs:List (Str×V))
 | met (f x:Addr)
 | rng (lo hi:Int)
 | frz (o:Obj) (u:HO)
 | tbl (ps:Array Value)
 | ext (φ:Heap->Prop)
abbrev Hp:=Addr->Option HO
def upd (H:Hp) (a:Addr) (o:HO):Hp:=λb=>if b=a then some o else H b
theorem aI:upd H a o a=some o:=by unfold upd;rw[if_pos rfl]
theorem av (h:b≠a):upd H a o b=H b:=by unfold upd;rw[if_neg h]
abbrev dskF (e:Addr) (a:V):List (Str×V):=[(("points":Str),a),(("earlier":Str),V.ref e)]
theorem BV {H:Hp} (h:H a=some o) (h':H b=some u) (d:o≠u):a≠b:=by
 intro e;subst e;rw[h] at h';exact d (F8 h')
theorem aU {H:Hp} (h:H a=some o) (h':H b=none):a≠b:=by
 intro e;subst e;rw[h] at h';cases h'
def DictOfE {prog:Program} {w:World} {κ:Type} [DecidableEq κ] (knd:KeyKind prog w κ) (h:Heap) (a:Addr) (kvs:List (κ×Value)):Prop :=
 ∃ o es b,h.get? a=some o/\o.ExactDict/\o.data=.dict es b/\KeysOf knd es/\Pairs knd es.toList kvs/\(kvs.map (·.1)).Nodup/\b=es.size
theorem DictOfE.of [DecidableEq κ] {knd:KeyKind prog w κ} {kvs:List (κ×Value)} (x:DictOfE knd h a kvs):h.DictOf knd a kvs:=let #[o,es,d,h1,h2,h3,b,c,h6,_]:=x;#[o,es,d,h1,h2,h3,b,c,h6]
def IsTupD (h:Heap) (a:Addr) (items:Array Value):Prop:=∃ o,h.get? a=some o/\o.cls=.type "tuple"/\∃ n,(o.data,o.dict)=(Data.seq items n,none)
theorem IsTupD.tup {h:Heap} {a:Addr} {items:Array Value} (x:IsTupD h a items):IsTup h a items:=let #[o,e,c,n,d]:=x;#[o,e,c,n,congrArg Prod.fst d]
theorem IsTupD.lt (x:IsTupD h a items):a < h.objs.size:=x.tup.lt
theorem IsTupD.new (h:Heap) (items:Array Value):IsTupD (h.push { cls:=.type "tuple",data:=.seq items }) h.objs.size items:=#[_,Fs h rfl,rfl,_,rfl]
section
variable (P:Program) (w:World)
def ObjOk (H:Hp) (h:Heap) (a:Addr):HO->Prop
 | .lst xs=>xs.length<=sizeLine/\∃ (its:List Value) (n:Nat),Vals xs its/\h.get? a=some { cls:=.type "list",data:=.seq its.toArray n }
 | .tup xs=>xs.length<=sizeLine/\∃ its:List Value,Vals xs its/\IsTupD h a its.toArray
 | .dK kvs=>kvs.length<=sizeLine/\(a == sysModules)=false/\∃ vs,KV kvs vs/\DictOfE (bV P w) h a vs
 | .dT kvs n=>kvs.length<=sizeLine/\(a == sysModules)=false/\∃ xs:List (List Key×Addr×Value),
   Paired (λ(p:List Key×V) (q:List Key×Addr×Value)=>p.1=q.1/\H q.2.1=some (.tup (p.1.map kV))/\RelV p.2 q.2.2) kvs xs /\
   ∃ o es c,h.get? a=some o/\o.ExactDict/\o.data=.dict es c/\es.toList=xs.map (entryOfKey (tupleKind (bV P w)))/\(xs.map (·.1)).Nodup/\(es.size:Int)=c+n
 | .set S n=>h.SetOf (intKind P w) a S n
 | .ins C dx fs=>H dx=some (.own a)/\fs.length<=1000/\dx≠a/\h.get? a=some (PySem.W.instObj C dx) /\
   ∃ b,h.Ns1 dx b/\(∀ f,RelO (fs.lookup f) (b f))/\PySem.Within b (fs.map (·.1))
 | .dsk C dx e vp vs=>H dx=some (.own a)/\H e=some (.own a)/\dx≠a/\e≠a/\e≠dx/\h.get? a=some (PySem.W.instObj C dx)/\vs.length<=sizeLine /\
   (∃ (its:List Value) (n:Nat),Vals vs its/\h.get? e=some { cls:=.type "list",data:=.seq its.toArray n })/\∃ b,h.Ns1 dx b/\(∀ f,RelO ((dskF e vp).lookup f) (b f))/\PySem.Within b ((dskF e vp).map (·.1))
 | .own _=>∃ o,h.get? a=some o
 | .xd fs=>∃ b,h.Ns1 a b/\∀ f,RelO (fs.lookup f) (b f)
 | .rng lo hi=>∃ t u v,h.get? a=some { cls:=.type "range",data:=.fields (List.toArray [.int lo t,.int hi u,.int 1 v]) }
 | .frz o u=>h.get? a=some o/\ObjOk H h a u
 | .tbl ps=>h.get? a=some { cls:=.none,data:=.fields ps }
 | .met f x=>h.get? a=some (PySem.W.methodObj (.ref f) (.ref x))
 | .ext φ=>φ h/\(∃ o,h.get? a=some o)/\∀ h1 h2:Heap,φ h1->(∀ o,h1.get? a=some o->h2.get? a=some o)->φ h2
def HOk (H:Hp) (h:Heap):Prop:=∀ a o,H a=some o->ObjOk P w H h a o
end
section
variable {P:Program} {w:World} {H H':Hp} {h h':Heap} {a:Addr} {o:HO}
theorem ObjOk.lt (x:ObjOk P w H h a o):a < h.objs.size:=by
 cases o with
 | lst xs=>obtain ⟨_,_,_,_,e⟩:=x;exact Fp e
 | tup xs=>obtain ⟨_,_,_,p⟩:=x;exact p.lt
 | dK kvs=>obtain ⟨_,_,_,_,o,_,_,e,_⟩:=x;exact Fp e
 | dT kvs n=>obtain ⟨_,_,_,_,o,_,_,e,_⟩:=x;exact Fp e
 | set S n=>obtain ⟨o,_,_,_,e,_⟩:=x;exact Fp e
 | ins C dx fs=>obtain ⟨_,_,_,e,_⟩:=x;exact Fp e
 | dsk C dx b vp vs=>obtain ⟨_,_,_,_,_,e,_⟩:=x;exact Fp e
 | own y=>obtain ⟨_,e⟩:=x;exact Fp e
 | xd fs=>obtain ⟨_,⟨_,_,_,e,_⟩,_⟩:=x;exact Fp e
 | rng lo hi=>obtain ⟨_,_,_,e⟩:=x;exact Fp e
 | frz ob u=>obtain ⟨e,_⟩:=x;exact Fp e
 | tbl ps=>exact Fp (show h.get? a=some _ from x)
 | met f y=>exact Fp (show h.get? a=some _ from x)
 | ext φ=>obtain ⟨_,⟨_,e⟩,_⟩:=x;exact Fp e
theorem Paired.mapP:∀ {d:List α} {c:List β},Paired F d c->(∀ a b,F a b->G a b)->Paired G d c
 | _,_,.nil,_=>.nil
 | _,_,.cons r t,f=>.cons (f _ _ r) (Paired.mapP t f)
theorem ObjOk.stay (x:ObjOk P w H h a o) (k:∀ b u,(b=a\/H b=some (.own a))->h.get? b=some u->h'.get? b=some u)
  (j:∀ b,H b=some (.own a)->H' b=some (.own a)) (B:∀ b xs,H b=some (.tup xs)->H' b=some (.tup xs)):ObjOk P w H' h' a o:=by
 induction o with
 | lst xs=>obtain ⟨z,its,n,r,e⟩:=x;exact #[z,its,n,r,k _ _ (.inl rfl) e]
 | tup xs=>obtain ⟨z,its,r,ob,e,c⟩:=x;exact #[z,its,r,ob,k _ _ (.inl rfl) e,c]
 | dK kvs=>obtain ⟨z,y,vs,r,ob,es,g,e,c⟩:=x;exact #[z,y,vs,r,ob,es,g,k _ _ (.inl rfl) e,c]
 | dT kvs n =>
  obtain ⟨z,y,xs,r,ob,es,g,e,c⟩:=x
  exact #[z,y,xs,Paired.mapP r λp q z=>#[z.1,B _ _ z.2.1,z.2.2],ob,es,g,k _ _ (.inl rfl) e,c]
 | set S n=>obtain ⟨ob,es,g,t,e,c⟩:=x;exact #[ob,es,g,t,k _ _ (.inl rfl) e,c]
 | ins C dx fs =>
  obtain ⟨d,z,ne,e,i,⟨od,es,g,l,c⟩,r⟩:=x
  exact #[j _ d,z,ne,k _ _ (.inl rfl) e,i,#[od,es,g,k _ _ (.inr d) l,c],r]
 | dsk C dx b vp vs =>
  obtain ⟨d,s,F,D,A,e,z,⟨its,m,E,e1⟩,i,⟨od,es,g,l,c⟩,r⟩:=x
  exact #[j _ d,j _ s,F,D,A,k _ _ (.inl rfl) e,z,#[its,m,E,k _ _ (.inr s) e1],i,#[od,es,g,k _ _ (.inr d) l,c],r]
 | own y=>obtain ⟨ob,e⟩:=x;exact #[ob,k _ _ (.inl rfl) e]
 | xd fs=>obtain ⟨i,⟨od,es,g,e,c⟩,r⟩:=x;exact #[i,#[od,es,g,k _ _ (.inl rfl) e,c],r]
 | rng lo hi=>obtain ⟨t,u,v,e⟩:=x;exact #[t,u,v,k _ _ (.inl rfl) e]
 | frz ob u ih=>obtain ⟨e,q⟩:=x;exact #[k _ _ (.inl rfl) e,ih q]
 | tbl ps =>
  have e:h.get? a=some { cls:=.none,data:=.fields ps }:=x
  show h'.get? a=some { cls:=.none,data:=.fields ps }
  exact k a _ (.inl rfl) e
 | met f y =>
  have e:h.get? a=some (PySem.W.methodObj (.ref f) (.ref y)):=x
  show h'.get? a=some (PySem.W.methodObj (.ref f) (.ref y))
  exact k a _ (.inl rfl) e
 | ext φ=>obtain ⟨p,⟨o,e⟩,st⟩:=x;exact #[st _ _ p λo q=>k _ _ (.inl rfl) q,#[o,k _ _ (.inl rfl) e],st]
theorem HOk.lt (x:HOk P w H h) (e:H a=some o):a < h.objs.size:=(x a o e).lt
theorem HOk.fresh (x:HOk P w H h) (e:h.objs.size<=a):H a=none:=by
 cases q:H a with
 | none=>rfl
 | some u=>exact absurd (FJ (x.lt q) e) (Nat.lt_irrefl _)
theorem HOk.kept (x:HOk P w H h) (k:∀ b u,h.get? b=some u->h'.get? b=some u):HOk P w H h':=λa o e =>
 (x a o e).stay (λb u _ q=>k b u q) (λ_ q=>q) λ_ _ q=>q
theorem HOk.laid (x:HOk P w H h) (k:∀ b u,h.get? b=some u->h'.get? b=some u) (g:h.objs.size<=a) (new:ObjOk P w (upd H a o) h' a o):HOk P w (upd H a o) h':=λb u e=>by
 have d:=x.fresh g
 by_cases f:b=a
 .subst f;rw[aI] at e;cases e;exact new
 .rw[av f] at e
  exact (x b u e).stay (λc v _ q=>k c v q) (λc q=>by rw[av (aU q d)];exact q) λc xs q=>by rw[av (aU q d)];exact q
end
def Rd (H:Hp) (a:Addr) (u:HO):Prop:=H a=some u\/∃ o,H a=some (.frz o u)
theorem Rd.ok (r:Rd H a u) (x:HOk P w H h):ObjOk P w H h a u:=by
 rcases r with r | ⟨o,r⟩
 .exact x a u r
 .obtain ⟨_,q⟩:=x a _ r
  exact q
def Mut:Option HO->Prop
 | some (.lst _)=>True
 | some (.dK _)=>True
 | some (.dT _ _)=>True
 | some (.set _ _)=>True
 | some (.ins _ _ _)=>True
 | some (.dsk _ _ _ _ _)=>True
 | some (.ext _)=>True
 | _=>False
section
variable {P:Program} {w:World} {H:Hp} {h h':Heap} {x e:Addr} {o':HO}
theorem HOk.write (ok:HOk P w H h) (j:Mut (H x)) (he:e=x\/H e=some (.own x)) (k:∀ b u,b≠e->h.get? b=some u->h'.get? b=some u) (l:∃ u,h'.get? e=some u)
  (new:ObjOk P w (upd H x o') h' x o'):HOk P w (upd H x o') h':=λb u q=>by
 have d:∀ c y,H c=some (.own y)->c≠x:=λc y r z=>by subst z;rw[r] at j;exact j
 have f:∀ c xs,H c=some (.tup xs)->c≠x:=λc xs r z=>by subst z;rw[r] at j;exact j
 by_cases g:b=x
 .subst g;rw[aI] at q;cases q;exact new
 .rw[av g] at q
  by_cases a:b=e
  .have m:H b=some (.own x):=by
    rcases he with z | z
    .exact absurd (a.trans z) g
    .rw[a];exact z
   rw[q] at m;cases m
   obtain ⟨v,n⟩:=l
   exact #[v,by rw[a];exact n]
  .refine (ok b u q).stay (λc v i r=>k c v ?_ r) (λc r=>by rw[av (d c b r)];exact r) λc xs r=>by rw[av (f c xs r)];exact r
   rcases i with rfl | i
   .exact a
   .rintro rfl
    rcases he with z | z
    .exact d c b i z
    .rw[i] at z;cases z;exact g rfl
end
structure Un (fs ex:List Addr) (H H':Hp) (h h':Heap):Prop where
 keep:∀ b o,h.get? b=some o->H b=none->b ∉ fs->b ∉ ex->h'.get? b=some o
 slot:∀ b o,h.get? b=some o->H b=none->b∈fs->b ∉ ex->∃ sl,h'.get? b=some { o with slots:=sl }
 free:∀ b o,h.get? b=some o->H b=none->b ∉ ex->H' b=none
 there:∀ b o,h.get? b=some o->b ∉ ex->∃ o',h'.get? b=some o'
 tups:∀ b xs,H b=some (.tup xs)->H' b=some (.tup xs)
 frzs:∀ b o u,H b=some (.frz o u)->H' b=some (.frz o u)
 tbls:∀ b ps,H b=some (.tbl ps)->∃ more,H' b=some (.tbl (ps++more))
section
variable {fs fs' ex ex':List Addr} {H H1 H2:Hp} {h h1 h2 h':Heap} {a x e:Addr} {o:HO}
theorem Un.any (u:Un fs ex H H1 h h1) (q:h.get? b=some ob) (n:H b=none) (a:b ∉ ex):∃ sl,h1.get? b=some { ob with slots:=sl }:=by
 by_cases c:b∈fs
 .exact u.slot b ob q n c a
 .exact #[ob.slots,u.keep b ob q n c a]
theorem Un.trans (a:Un fs ex H H1 h h1) (b:Un fs ex H1 H2 h1 h2):Un fs ex H H2 h h2 where
 keep:=λc ob q n e d=>b.keep c ob (a.keep c ob q n e d) (a.free c ob q n d) e d
 slot:=λc ob q n e d=>by
  obtain ⟨sl,e1⟩:=a.slot c ob q n e d
  obtain ⟨f,g⟩:=b.slot c _ e1 (a.free c ob q n d) e d
  exact #[f,g]
 free:=λc ob q n d=>by
  obtain ⟨o',e1⟩:=a.there c ob q d
  exact b.free c o' e1 (a.free c ob q n d) d
 there:=λc ob q d=>by
  obtain ⟨o',e1⟩:=a.there c ob q d
  exact b.there c o' e1 d
 tups:=λc xs q=>b.tups c xs (a.tups c xs q)
 frzs:=λc ob xs q=>b.frzs c ob xs (a.frzs c ob xs q)
 tbls:=λc ps q=>by
  obtain ⟨i,e1⟩:=a.tbls c ps q
  obtain ⟨j,g⟩:=b.tbls c _ e1
  exact #[i++j,by rw[g,Array.append_assoc]]
theorem Un.kept (k:∀ b u,h.get? b=some u->h'.get? b=some u):Un fs ex H H h h' :=
 #[λb ob q _ _ _=>k b ob q,λb ob q _ _ _=>#[ob.slots,k b ob q],λ_ _ _ n _=>n,λb ob q _=>#[ob,k b ob q],λ_ _ q=>q,λ_ _ _ q=>q,λ_ ps q=>#[(List.toArray []),by rw[q];simp]]
theorem Un.refl:Un fs ex H H h h:=Un.kept λ_ _ q=>q
theorem Un.laid (k:∀ b u,h.get? b=some u->h'.get? b=some u) (d:h.objs.size<=a) (c:H a=none):Un fs ex H (upd H a o) h h' where
 keep:=λb u q _ _ _=>k b u q
 slot:=λb u q _ _ _=>#[u.slots,k b u q]
 free:=λb u q n _=>by rw[av (FD (FJ (Fp q) d))];exact n
 there:=λb u q _=>#[u,k b u q]
 tups:=λb xs q=>by rw[av (aU q c)];exact q
 frzs:=λb u xs q=>by rw[av (aU q c)];exact q
 tbls:=λb ps q=>#[(List.toArray []),by rw[av (aU q c),q];simp]
theorem Un.write (c:Mut (H x)) (he:e=x\/H e=some (.own x)) (k:∀ b u,b≠e->h.get? b=some u->h'.get? b=some u) (d:∃ u,h'.get? e=some u):Un fs ex H (upd H x o) h h':=by
 have f:∀ b,H b=none->b≠x:=λb n z=>by subst z;rw[n] at c;exact c
 have g:∀ b,H b=none->b≠e:=λb n z=>by
  subst z
  rcases he with r | r
  .exact f b n r
  .rw[n] at r;cases r
 have hm:∀ b u,H b=some u->¬ Mut (some u)->b≠x:=λb u q nm z=>by subst z;rw[q] at c;exact nm c
 refine ⟨λb u q n _ _=>k b u (g b n) q,λb u q n _ _=>⟨u.slots,k b u (g b n) q⟩,λb u q n _=>by rw[av (f b n)];exact n,λb u q _=>?_,
  λb xs q=>by rw[av (hm b _ q λz=>z)];exact q,λb u xs q=>by rw[av (hm b _ q λz=>z)];exact q,λb ps q=>⟨(List.toArray []),by rw[av (hm b _ q λz=>z),q];simp⟩⟩
 by_cases a:b=e
 .subst a;exact d
 .exact #[u,k b u a q]
end
def trk (h:Heap) (H:Hp):List Addr:=(List.range h.objs.size).filter λa=>(H a).isSome
def oE (h:Heap) (H:Hp):Heap:=PySem.W.hideAll h (trk h H)
theorem u7 (h:Heap) (H:Hp):(oE h H).objs.size=h.objs.size:=PySem.W.hideAll_size _ _
theorem yt (e:h.get? b=some o) (n:H b=none):(oE h H).get? b=some o :=
 PySem.W.hideAll_get _ e λhm=>by
  have q:(H b).isSome=true:=(FV.mp hm).2
  rw[n] at q;simp at q
theorem AI (e:(oE h H).get? b=some o):h.get? b=some o/\H b=none:=by
 have a:h.get? b=some o:=PySem.W.of_hideAll (trk h H) e
 refine #[a,?_]
 cases q:H b with
 | none=>rfl
 | some x =>
  have hm:b∈trk h H:=FV.mpr #[List.mem_range.mpr (Fp a),by simp[q]]
  have z:(oE h H).get? b=none:=PySem.W.hideAll_none (trk h H) hm
  rw[z] at e;cases e
def Bz (g h:Heap) (L:Addr):List (Addr×Obj):=(List.range h.objs.size).filterMap λa=>if a=L\/(g.get? a).isSome=true then none else (h.get? a).map λo=>(a,o)
def rest (g h:Heap) (L d:Addr):List (Addr×Obj):=(Bz g h L).filter λp=>decide (p.1≠d)
end L2
namespace L2
open PySem PySem.Spec PyProof.Rows
structure Mod (K:FG) (mg:Str->Option Value) (base:Heap):Prop where
 kin:K.In base
 glob:base.Ns mainGlobals mg
 blt:∃ mb,base.Ns builtinsNs mb/\∀ x:Str,x≠"__name__"->mb x=bootBuiltins x
 nolimit:base.NoLimit
structure Cx where
 prog:Program
 w:World
 K:FG
 mg:Str->Option Value
 base:Heap
 A:Around
 N:List Str
 s₀:Shared
 H₀:Hp
 env:Env
 outer:List Env
 stack:List Env
 ex:List Addr
 fn:Str->Bool
 calm:Bool
 pn:List (Addr×Obj)
 xe:Value->Shared->Prop
def frs (l:List Env):List Addr:=l.filterMap (·.frame)
abbrev Cx.fs (X:Cx):List Addr:=frs X.outer
def Vis (sc:Scope) (x:Str):Prop:=sc.names.lookup x=some .local\/sc.names.lookup x=some .cell\/sc.names.lookup x=some .free
def Loc (sc:Scope) (x:Str):Prop:=sc.names.lookup x=some .local\/sc.names.lookup x=some .cell
def Look (env:Env) (h:Heap) (m:Str->Option Value) (x:Str) (u:Value):Prop :=
 (env.kindOf x=some .local/\m x=some u)\/((env.kindOf x=some .cell\/env.kindOf x=some .free)/\∃ c,env.cells.lookup x=some c/\h.IsCell c (some u))
structure Cx.Ok (X:Cx):Prop where
 mod:Mod X.K X.mg X.base
 kind:X.env.scope.kind=.function
 glob:X.env.globals=mainGlobals
 blt:X.env.builtins=builtinsNs
 above:X.s₀.heap.objs.size<=X.env.locals
 inj:∀ x y c,X.env.cells.lookup x=some c->X.env.cells.lookup y=some c->x=y
 has:∀ x,(X.env.kindOf x=some .cell\/X.env.kindOf x=some .free)->∃ c,X.env.cells.lookup x=some c
 cab:∀ x c,X.fn x=true->X.env.cells.lookup x=some c->X.s₀.heap.objs.size<=c
 hd:X.calm=true->X.A.handled=none
 frames:X.A.frames=some X.stack
 stk:X.stack=X.outer\/(X.stack=X.env::X.outer/\X.env.frame=some X.env.locals)
 exf:∀ b∈X.ex,b≠X.env.locals/\∀ x c,X.env.cells.lookup x=some c->c≠b
 bs:∀ b o,X.base.get? b=some o->X.s₀.heap.get? b=some o/\X.H₀ b=none
 bsz:X.base.objs.size<=X.s₀.heap.objs.size
 noex:∀ b o,X.base.get? b=some o->b ∉ X.ex
 exfs:∀ b∈X.ex,b ∉ X.fs
 funs:X.s₀.heap.FunFrames X.base X.outer
 frf:∀ b∈X.fs,X.H₀ b=none
structure Inv (X:Cx) (pins:List (Addr×Obj)) (U:List (Option V)) (H:Hp) (s:Shared):Prop where
 ok:X.Ok
 os:s.os=X.s₀.os
 bare:AllBare s.gens
 base:Un X.fs X.ex X.H₀ H X.s₀.heap s.heap
 loc:∃ m,s.heap.Ns X.env.locals m/\∀ (i:Nat) (x:Str) (v:V),X.N[i]?=some x->U[i]?=some (some v)->Vis X.env.scope x->∃ u,RelV v u/\Look X.env s.heap m x u
 cell:∀ x c,X.env.cells.lookup x=some c->∃ v,s.heap.IsCell c v
 free:H X.env.locals=none
 freeC:∀ x c,X.env.cells.lookup x=some c->H c=none
 pin:∀ p∈X.pn++pins,s.heap.get? p.1=some p.2/\H p.1=none/\p.1≠X.env.locals/\p.1 ∉ X.fs/\∀ v,p.2.data≠.cell v
 hok:HOk X.prog X.w H s.heap
 len:U.length=X.N.length
section
variable {X:Cx} {pins:List (Addr×Obj)} {U:List (Option V)} {H H':Hp} {s:Shared} {h':Heap}
theorem Cx.Ok.nofr (ok:X.Ok) (e:X.base.get? b=some o):b ∉ X.fs:=λa=>by
 have:=(ok.funs.mem a).1
 rw[e] at this;cases this
theorem Inv.bs (I:Inv X pins U H s):∀ b o,X.base.get? b=some o->s.heap.get? b=some o/\H b=none:=λb o e =>
 #[I.base.keep b o (I.ok.bs b o e).1 (I.ok.bs b o e).2 (I.ok.nofr e) (I.ok.noex b o e),I.base.free b o (I.ok.bs b o e).1 (I.ok.bs b o e).2 (I.ok.noex b o e)]
theorem Inv.bk (I:Inv X pins U H s):∀ b o,X.base.get? b=some o->s.heap.get? b=some o:=λb o e=>(I.bs b o e).1
theorem Inv.mod (I:Inv X pins U H s):Mod X.K X.mg X.base:=I.ok.mod
theorem Inv.kIn (I:Inv X pins U H s):X.K.In s.heap:=I.ok.mod.kin.keeps I.bk
theorem Inv.lt (I:Inv X pins U H s):X.env.locals < s.heap.objs.size:=let #[_,a,_]:=I.loc;a.lt
theorem Inv.sz (I:Inv X pins U H s):X.s₀.heap.objs.size<=s.heap.objs.size:=F1 I.ok.above (Nat.le_of_lt I.lt)
theorem Inv.nofs (I:Inv X pins U H s) (h:s.heap.objs.size<=a):a ∉ X.fs:=λb=>by
 obtain ⟨_,o,c,_⟩:=I.ok.funs.mem b
 exact absurd (FJ (Fp c) (F1 I.sz h)) (Nat.lt_irrefl _)
theorem Inv.cne (I:Inv X pins U H s):∀ x c,X.env.cells.lookup x=some c->c≠X.env.locals:=λx c e z=>by
 obtain ⟨v,o,d,hd⟩:=I.cell x c e
 obtain ⟨m,⟨o',es,f,a,b,_⟩,_⟩:=I.loc
 rw[z,a] at d;cases d;rw[b] at hd;cases hd
theorem Inv.funs (I:Inv X pins U H s):s.heap.FunFrames X.base X.outer:=by
 have all:∀ (l:List Env),(∀ b∈frs l,b∈X.fs)->X.s₀.heap.FunFrames X.base l->s.heap.FunFrames X.base l:=by
  intro l
  induction l with
  | nil=>intro _ _;trivial
  | cons env r ih =>
   intro d hl
   obtain ⟨i,⟨L,o,hf,h,g,hd⟩,f⟩:=hl
   have a:L∈X.fs:=d L (by unfold frs;rw[List.filterMap_cons,hf];exact Fe)
   obtain ⟨sl,e⟩:=I.base.slot L o g (I.ok.frf L a) a λz=>I.ok.exfs L z a
   exact #[i,#[L,_,hf,h,e,hd],ih (λb c=>d b (by unfold frs;rw[List.filterMap_cons,hf];exact Ff _ c)) f]
 exact all X.outer (λ_ c=>c) I.ok.funs
theorem Inv.stack (I:Inv X pins U H s):s.heap.FunFrames X.base X.stack:=by
 rcases I.ok.stk with e | ⟨e,hf⟩
 .rw[e];exact I.funs
 .rw[e]
  obtain ⟨m,a,_⟩:=I.loc
  refine .cons (by rw[I.ok.kind];decide) hf a ?_ I.funs
  exact Heap.get?_none_of_le (F1 I.ok.bsz I.ok.above)
theorem Inv.stkSub (I:Inv X pins U H s):∀ b∈frs X.stack,b∈X.env.locals::X.fs:=λb a=>by
 rcases I.ok.stk with e | ⟨e,hf⟩
 .rw[e] at a;exact Ff _ a
 .rw[e] at a
  unfold frs at a
  rw[List.filterMap_cons,hf] at a
  exact a
theorem Inv.stkFree (I:Inv X pins U H s):∀ b∈frs X.stack,H b=none:=λb a=>by
 rcases Fm.mp (I.stkSub b a) with e | a
 .rw[e];exact I.free
 .obtain ⟨_,o,c,_⟩:=I.ok.funs.mem a
  exact I.base.free b o c (I.ok.frf b a) λz=>I.ok.exfs b z a
theorem Inv.step {t':Nat} {ch:List Addr} (I:Inv X pins U H s) (f:∀ b∈ch,(b∈X.ex\/X.s₀.heap.objs.size<=b)/\b≠X.env.locals/\(∀ x c,X.env.cells.lookup x=some c->c≠b)/\∀ p∈X.pn++pins,p.1≠b) (keep:∀ b o,b≠X.env.locals->b ∉ X.fs->b ∉ ch->s.heap.get? b=some o->H b=none->h'.get? b=some o) (slot:∀ b o,b≠X.env.locals->b∈X.fs->b ∉ ch->s.heap.get? b=some o->H b=none->∃ sl,h'.get? b=some { o with slots:=sl }) (free:∀ b o,b ∉ ch->s.heap.get? b=some o->H b=none->H' b=none) (there:∀ b o,b ∉ ch->s.heap.get? b=some o->∃ o',h'.get? b=some o') (tups:∀ b xs,H b=some (.tup xs)->H' b=some (.tup xs)) (frzs:∀ b o u,H b=some (.frz o u)->H' b=some (.frz o u)) (tbls:∀ b ps,H b=some (.tbl ps)->∃ more,H' b=some (.tbl (ps++more))) (ns:∀ m,s.heap.Ns X.env.locals m->h'.Ns X.env.locals m) (hok:HOk X.prog X.w H' h') (G:AllBare g') :
  Inv X pins U H' { s with heap:=h',gens:=g',drawn:=d',toks:=t' }:=by
 have y:∀ b o,X.s₀.heap.get? b=some o->b≠X.env.locals:=λb o e=>FD (FJ (Fp e) I.ok.above)
 have h:∀ b o,X.s₀.heap.get? b=some o->b ∉ X.ex->b ∉ ch:=λb o e a j=>by
  rcases (f b j).1 with z | z
  .exact a z
  .exact absurd (FJ (Fp e) z) (Nat.lt_irrefl _)
 have cellK:∀ x c,X.env.cells.lookup x=some c->∀ v,s.heap.IsCell c v->h'.IsCell c v:=λx c e v #[o,t,hd]=>by
  have g:c ∉ ch:=λz=>(f c z).2.2.1 x c e rfl
  by_cases D:c∈X.fs
  .obtain ⟨sl,q⟩:=slot c o (I.cne x c e) D g t (I.freeC x c e)
   exact #[_,q,hd]
  .exact #[o,keep c o (I.cne x c e) D g t (I.freeC x c e),hd]
 refine #[I.ok,I.os,G,#[λb o e n j a=>?_,λb o e n j a=>?_,λb o e n a=>?_,λb o e a=>?_,λb xs e=>tups b xs (I.base.tups b xs e),λb o xs e=>frzs b o xs (I.base.frzs b o xs e),λb ps e=>?_],?_,λx c e=>?_,?_,λx c e=>?_,λp C=>?_,hok,I.len]
 .exact keep b o (y b o e) j (h b o e a) (I.base.keep b o e n j a) (I.base.free b o e n a)
 .obtain ⟨sl,e1⟩:=I.base.slot b o e n j a
  obtain ⟨B,A⟩:=slot b _ (y b o e) j (h b o e a) e1 (I.base.free b o e n a)
  exact #[B,A]
 .obtain ⟨o',e1⟩:=I.base.there b o e a
  exact free b o' (h b o e a) e1 (I.base.free b o e n a)
 .obtain ⟨o',e1⟩:=I.base.there b o e a
  exact there b o' (h b o e a) e1
 .obtain ⟨J,e1⟩:=I.base.tbls b ps e
  obtain ⟨L,A⟩:=tbls b _ e1
  exact #[J++L,by rw[A,Array.append_assoc]]
 .obtain ⟨m,F,hl⟩:=I.loc
  refine #[m,ns m F,λi x v e1 A K=>?_]
  obtain ⟨u,r,l⟩:=hl i x v e1 A K
  refine #[u,r,?_]
  rcases l with l | ⟨k,c,e,z⟩
  .exact .inl l
  .exact .inr #[k,c,e,cellK x c e _ z]
 .obtain ⟨v,z⟩:=I.cell x c e
  exact #[v,cellK x c e v z]
 .obtain ⟨m,⟨o,_,_,t,_⟩,_⟩:=I.loc
  exact free _ o (λz=>(f _ z).2.1 rfl) t I.free
 .obtain ⟨v,o,t,hd⟩:=I.cell x c e
  exact free c o (λz=>(f c z).2.2.1 x c e rfl) t (I.freeC x c e)
 .obtain ⟨e,n,ne,E,d⟩:=I.pin p C
  have g:p.1 ∉ ch:=λz=>(f p.1 z).2.2.2 p C rfl
  exact #[keep p.1 p.2 ne E g e n,free p.1 p.2 g e n,ne,E,d]
theorem Inv.un {t':Nat} (I:Inv X pins U H s) (u:Un X.fs [] H H' s.heap h') (hok:HOk X.prog X.w H' h'):Inv X pins U H' { s with heap:=h',toks:=t' }:=by
 obtain ⟨m,⟨o,es,k,g,r⟩,_⟩:=id I.loc
 obtain ⟨sl,h⟩:=u.any g I.free (by simp)
 exact I.step (g':=s.gens) (d':=s.drawn) (ch:=[]) (λ_ z=>nomatch z) (λb o _ f _ e n=>u.keep b o e n f (by simp)) (λb o _ f _ e n=>u.slot b o e n f (by simp)) (λb o _ e n=>u.free b o e n (by simp)) (λb o _ e=>u.there b o e (by simp)) u.tups u.frzs u.tbls (λj hm=>by
  obtain ⟨o',c,d,a,i⟩:=hm
  rw[g] at a;cases a
  exact #[_,c,d,h,i]) hok I.bare
theorem Inv.call {t':Nat} (I:Inv X pins U H s) (u:Un (frs X.stack) ch H H' s.heap h') (hok:HOk X.prog X.w H' h') (q:AllBare g') (f:∀ b∈ch,(b∈X.ex\/X.s₀.heap.objs.size<=b)/\b≠X.env.locals/\(∀ x c,X.env.cells.lookup x=some c->c≠b)/\∀ p∈X.pn++pins,p.1≠b) :
  Inv X pins U H' { s with heap:=h',gens:=g',drawn:=d',toks:=t' }:=by
 obtain ⟨m,⟨o,es,v,j,r⟩,_⟩:=id I.loc
 obtain ⟨sl,g⟩:=u.any j I.free λz=>(f _ z).2.1 rfl
 exact I.step (ch:=ch) f (λb o g k a e n=>u.keep b o e n (λz=>(Fm.mp (I.stkSub b z)).elim g k) a) (λb o _ _ a e n=>u.any e n a) (λb o a e n=>u.free b o e n a) (λb o a e=>u.there b o e a) u.tups u.frzs u.tbls (λt hm=>by
  obtain ⟨o',h,i,d,l⟩:=hm
  rw[j] at d;cases d
  exact #[_,h,i,g,l]) hok q
theorem Inv.turned {t':Nat} (I:Inv X pins U H s) (k:∀ b o,b≠it->s.heap.get? b=some o->h'.get? b=some o) (i:H it=none) (f:it≠X.env.locals) (h1:it∈X.ex\/X.s₀.heap.objs.size<=it) (h2:∀ x c,X.env.cells.lookup x=some c->c≠it) (h3:∀ p∈X.pn++pins,p.1≠it):Inv X pins U H { s with heap:=h',toks:=t' }:=by
 have d:∀ b u,H b=some u->b≠it:=λb u e z=>by rw[z,i] at e;cases e
 refine I.step (g':=s.gens) (d':=s.drawn) (ch:=[it]) (λb h=>?_) (λb o _ _ a e _=>k b o (λz=>a (by simp[z])) e) (λb o _ _ a e _=>#[o.slots,k b o (λz=>a (by simp[z])) e]) (λ_ _ _ _ n=>n)
  (λb o a e=>#[o,k b o (λz=>a (by simp[z])) e]) (λ_ _ e=>e) (λ_ _ _ e=>e) (λb ps e=>#[(List.toArray []),by rw[e];simp]) (λm hm=>?_) (λb u e=>?_) I.bare
 .have e:b=it:=by simpa using h
  subst e
  exact #[h1,f,h2,h3]
 .obtain ⟨o,es,j,g,r⟩:=hm
  exact #[o,es,j,k _ o (Ne.symm f) g,r]
 .refine (I.hok b u e).stay (λc v a q=>k c v ?_ q) (λ_ q=>q) λ_ _ q=>q
  rcases a with z | z
  .rw[z];exact d b u e
  .exact d c _ z
theorem Inv.tok (I:Inv X pins U H s) (t:Nat):Inv X pins U H { s with toks:=t }:=I.un (h':=s.heap) (t':=t) Un.refl I.hok
theorem Inv.kept {t':Nat} (I:Inv X pins U H s) (k:∀ b u,s.heap.get? b=some u->h'.get? b=some u):Inv X pins U H { s with heap:=h',toks:=t' }:=I.un (Un.kept k) (I.hok.kept k)
theorem Inv.laid {t':Nat} (I:Inv X pins U H s) (k:∀ b u,s.heap.get? b=some u->h'.get? b=some u) (c:s.heap.objs.size<=a) (new:ObjOk X.prog X.w (upd H a o) h' a o) :
  Inv X pins U (upd H a o) { s with heap:=h',toks:=t' }:=I.un (Un.laid k c (I.hok.fresh c)) (I.hok.laid k c new)
theorem Inv.write {t':Nat} (I:Inv X pins U H s) (c:Mut (H x)) (he:e=x\/H e=some (.own x)) (k:∀ b u,b≠e->s.heap.get? b=some u->h'.get? b=some u) (a:∃ u,h'.get? e=some u) (new:ObjOk X.prog X.w (upd H x o) h' x o):Inv X pins U (upd H x o) { s with heap:=h',toks:=t' }:=I.un (Un.write c he k a) (I.hok.write c he k a new)
theorem Inv.pins_of (I:Inv X pins U H s) (h:∀ p∈pins',s.heap.get? p.1=some p.2/\H p.1=none/\p.1≠X.env.locals/\p.1 ∉ X.fs/\∀ v,p.2.data≠.cell v):Inv X pins' U H s :=
 #[I.ok,I.os,I.bare,I.base,I.loc,I.cell,I.free,I.freeC,λp a=>(Fq.mp a).elim (λz=>I.pin p (Fi _ z)) (h p),I.hok,I.len]
theorem pX {N:List Str} (c:N.Nodup) {i j:Nat} (a:N[i]?=some x) (b:N[j]?=some x):i=j:=by
 obtain ⟨h1,e1⟩:=Fu.mp a
 obtain ⟨h2,d⟩:=Fu.mp b
 exact (List.getElem_inj c).mp (e1.trans d.symm)
theorem mi {i:Nat} (I:Inv X pins U H s) (hN:X.N.Nodup) (hi:X.N[i]?=some x) (t:Loc X.env.scope x) (r:RelV v u) (h:∀ s',Inv X pins (U.set i (some v)) H s'->(∃ a,Heap.SameBut a s.heap s'.heap/\(a=X.env.locals\/X.env.cells.lookup x=some a))->Q () s') (hf:X.fn x=true\/X.env.scope.names.lookup x=some .local:=by first | exact .inl rfl | exact .inr rfl | assumption):wpAny M A (storeName X.env x u) Q E s:=by
 obtain ⟨m,W,hl⟩:=id I.loc
 have R:(X.env.scope.kind == .class || (X.env.scope.kind == .module && X.env.locals != X.env.globals))=false:=by rw[I.ok.kind];rfl
 have hiσ:i < U.length:=by rw[I.len];exact (Fu.mp hi).1
 have cne:=I.cne
 have g:∀ {a:Addr} {h':Heap},(∃ o,s.heap.get? a=some o/\H a=none)->Heap.SameBut a s.heap h'->HOk X.prog X.w H h':=λ{a h'} ha f b ob e=>by
  obtain ⟨_,_,B⟩:=ha
  refine (I.hok b ob e).stay (λc S l q=>(f.2 c ?_).trans q) (λ_ q=>q) λ_ _ q=>q
  rintro rfl
  rcases l with rfl | l
  .rw[B] at e;cases e
  .rw[B] at l;cases l
 rcases t with D | D
 .refine wpAny_storeName_local D W (λh' ae f=>?_) R
  obtain ⟨oL,_,_,σ,_⟩:=id W
  refine h _ #[I.ok,I.os,I.bare,#[λb o e n F t=>?_,λb o e n F t=>?_,I.base.free,λb o e t=>?_,I.base.tups,I.base.frzs,I.base.tbls],#[_,ae,λj y τ e1 C e3=>?_],λy c e=>?_,I.free,I.freeC,λp V=>?_,g #[oL,σ,I.free] f,by simpa using I.len] #[_,f,.inl rfl]
  .exact (f.2 b (FD (FJ (Fp e) I.ok.above))).trans (I.base.keep b o e n F t)
  .obtain ⟨sl,e1⟩:=I.base.slot b o e n F t
   exact #[sl,(f.2 b (FD (FJ (Fp e) I.ok.above))).trans e1]
  .obtain ⟨o',e1⟩:=I.base.there b o e t
   exact #[o',(f.2 b (FD (FJ (Fp e) I.ok.above))).trans e1]
  .by_cases G:j=i
   .subst G
    rw[hi] at e1;cases e1
    rw[List.getElem?_set_self hiσ] at C
    cases C
    exact #[u,r,.inl #[D,by simp]]
   .rw[List.getElem?_set_ne (Ne.symm G)] at C
    obtain ⟨u',r',q⟩:=hl j y τ e1 C e3
    refine #[u',r',?_]
    rcases q with ⟨k,e⟩ | ⟨k,c,e,z⟩
    .refine .inl #[k,?_]
     have:y≠x:=λe=>G (pX hN e1 (e ▸ hi))
     simp[this,e]
    .exact .inr #[k,c,e,z.sameBut f (cne y c e)]
  .obtain ⟨S,z⟩:=I.cell y c e
   exact #[S,z.sameBut f (cne y c e)]
  .obtain ⟨e,n,ne,ρ,d⟩:=I.pin p V
   exact #[(f.2 p.1 ne).trans e,n,ne,ρ,d]
 .have J:X.fn x=true:=by
   rcases hf with z | z
   .exact z
   .rw[z] at D;cases D
  obtain ⟨c,l⟩:=I.ok.has x (.inl D)
  obtain ⟨S,z⟩:=I.cell x c l
  refine wpAny_storeName_cell I.ok.kind D l z (λh' P f=>?_)
  obtain ⟨oc,O,L⟩:=id z
  refine h { s with heap:=h' } #[I.ok,I.os,I.bare,#[λb o e n F t=>?_,λb o e n F t=>?_,I.base.free,λb o e t=>?_,I.base.tups,I.base.frzs,I.base.tbls],#[m,W.sameBut f (Ne.symm (cne x c l)),λj y τ e1 C e3=>?_],λy T e=>?_,I.free,I.freeC,λp V=>?_,g #[oc,O,I.freeC x c l] f,by simpa using I.len] #[c,f,.inr l]
  .exact (f.2 b (FD (FJ (Fp e) (I.ok.cab x c J l)))).trans (I.base.keep b o e n F t)
  .obtain ⟨sl,e1⟩:=I.base.slot b o e n F t
   exact #[sl,(f.2 b (FD (FJ (Fp e) (I.ok.cab x c J l)))).trans e1]
  .obtain ⟨o',e1⟩:=I.base.there b o e t
   exact #[o',(f.2 b (FD (FJ (Fp e) (I.ok.cab x c J l)))).trans e1]
  .by_cases G:j=i
   .subst G
    rw[hi] at e1;cases e1
    rw[List.getElem?_set_self hiσ] at C
    cases C
    exact #[u,r,.inr #[.inl D,c,l,P]]
   .rw[List.getElem?_set_ne (Ne.symm G)] at C
    obtain ⟨u',r',q⟩:=hl j y τ e1 C e3
    refine #[u',r',?_]
    rcases q with q | ⟨k,T,e,z'⟩
    .exact .inl q
    .refine .inr #[k,T,e,z'.sameBut f ?_]
     rintro rfl
     exact G (pX hN e1 (I.ok.inj _ _ _ e l ▸ hi))
  .by_cases K:T=c
   .subst K;exact #[_,P]
   .obtain ⟨w2,z2⟩:=I.cell y T e
    exact #[w2,z2.sameBut f K]
  .obtain ⟨e,n,ne,ρ,d⟩:=I.pin p V
   refine #[(f.2 p.1 ?_).trans e,n,ne,ρ,d]
   intro q
   rw[q,O] at e
   have q':oc=p.2:=F8 e
   exact d S (by rw[<- q'];exact L)
theorem fT {i:Nat} (I:Inv X pins U H s) (b:X.N.Nodup) (hi:X.N[i]?=some x) (a:Loc X.env.scope x) (r:RelV v u) (h:∀ s',Inv X pins (U.set i (some v)) H s'->Q () s') (hf:X.fn x=true\/X.env.scope.names.lookup x=some .local:=by first | exact .inl rfl | exact .inr rfl | assumption):wpAny M A (storeName X.env x u) Q E s :=
 mi I b hi a r (λs' c _=>h s' c) hf
theorem Inv.call' (I:Inv X pins U H s) (d:s'.os=s.os) (u:Un (frs X.stack) ch H H' s.heap s'.heap) (hok:HOk X.prog X.w H' s'.heap) (f:AllBare s'.gens) (a:∀ b∈ch,(b∈X.ex\/X.s₀.heap.objs.size<=b)/\b≠X.env.locals/\(∀ x c,X.env.cells.lookup x=some c->c≠b)/\∀ p∈X.pn++pins,p.1≠b):Inv X pins U H' s':=by
 obtain ⟨h',g',d',t',o'⟩:=s'
 have e:o'=s.os:=d
 subst e
 exact I.call (g':=g') (t':=t') (d':=d') u hok f a
end
abbrev XK:=Value->Option Addr->Hp->Prop
abbrev St:=List (Option V)
abbrev VK:=V->Hp->Prop
abbrev TE:=St->Hp->VK->Prop
abbrev TT:=St->Hp->(Bool->Hp->Prop)->Prop
abbrev TA:=St->Hp->(List V->Hp->Prop)->Prop
structure Ends where
 nx:St->Hp->Prop
 rt:VK
 bk:St->Hp->Prop:=λ_ _=>False
 ct:St->Hp->Prop:=λ_ _=>False
abbrev TS:=Ends->St->Hp->Prop
def EP (X:Cx) (pins:List (Addr×Obj)) (U:St) (Q:VK) (u:Value) (s':Shared):Prop:=∃ v H',Inv X pins U H' s'/\RelV v u/\Q v H'
def TP (X:Cx) (pins:List (Addr×Obj)) (U:St) (Q:Bool->Hp->Prop) (b:Bool) (s':Shared):Prop:=∃ H',Inv X pins U H' s'/\Q b H'
def AP (X:Cx) (pins:List (Addr×Obj)) (U:St) (Q:List V->Hp->Prop) (us:List Value) (s':Shared):Prop:=∃ vs H',Inv X pins U H' s'/\Vals vs us/\Q vs H'
set_option tactic.hygienic true in
def SP (X:Cx) (pins:List (Addr×Obj)) (D:Ends) (f:Flow) (s':Shared):Prop :=
 match f with
 | .next=>∃ U' H',Inv X pins U' H' s'/\D.nx U' H'
 | .brk=>∃ U' H',Inv X pins U' H' s'/\D.bk U' H'
 | .cont=>∃ U' H',Inv X pins U' H' s'/\D.ct U' H'
 | .ret u=>∃ v U' H',Inv X pins U' H' s'/\RelV v u/\D.rt v H'
def PE (X:Cx) (e:Expr) (t:TE):Prop :=
 ∀ (pins:List (Addr×Obj)) (s:Shared) (U:St) (H:Hp) (Q:VK),Inv X pins U H s->t U H Q->wpAny (model X.prog X.w) X.A (eval e X.env) (EP X pins U Q) X.xe s
def PT (X:Cx) (e:Expr) (t:TT):Prop :=
 ∀ (pins:List (Addr×Obj)) (s:Shared) (U:St) (H:Hp) (Q:Bool->Hp->Prop),Inv X pins U H s->t U H Q->wpAny (model X.prog X.w) X.A (isTrue e X.env (eval e X.env)) (TP X pins U Q) X.xe s
def PW (X:Cx) (e:Expr) (t:TT):Prop :=
 ∀ (whole:Sem Value) (pins:List (Addr×Obj)) (s:Shared) (U:St) (H:Hp) (Q:Bool->Hp->Prop),Inv X pins U H s->t U H Q->wpAny (model X.prog X.w) X.A (isTrue e X.env whole) (TP X pins U Q) X.xe s
theorem PW.pt (h:PW X e t):PT X e t:=h _
def PA (X:Cx) (es:List Expr) (t:TA):Prop :=
 ∀ (pos:Pos) (pins:List (Addr×Obj)) (s:Shared) (U:St) (H:Hp) (Q:List V->Hp->Prop),Inv X pins U H s->t U H Q->wpAny (model X.prog X.w) X.A (spliced (backTo pos (starEach es X.env))) (AP X pins U Q) X.xe s
def PS (X:Cx) (st:Stmt) (t:TS):Prop :=
 ∀ (pins:List (Addr×Obj)) (s:Shared) (U:St) (H:Hp) (D:Ends),Inv X pins U H s->t D U H->wpAny (model X.prog X.w) X.A (exec st X.env) (SP X pins D) X.xe s
def PSs (X:Cx) (st:List Stmt) (t:TS):Prop :=
 ∀ (pins:List (Addr×Obj)) (s:Shared) (U:St) (H:Hp) (D:Ends),Inv X pins U H s->t D U H->wpAny (model X.prog X.w) X.A (execs st X.env) (SP X pins D) X.xe s
theorem thn (h:wpAny M A t Q E s) (b:∀ a s,Q a s->Q' a s):wpAny M A t Q' E s:=wpAny_mono h b λ_ _ x=>x
end L2
namespace L2
open PySem PySem.Spec PyProof.Rows
section
variable {X:Cx}
theorem bin (ha:PE X a ta) (e:PE X b tb) {R:V->V->Hp->Prop} (I:Inv X pins U H s) (h:ta U H λx H1=>tb U H1 λy H2=>R x y H2) {Q:α->Shared->Prop} {f:Value->Value->Sem α} (hf:∀ v u s2 x y H2,Inv X pins U H2 s2->RelV x v->RelV y u->R x y H2->wpAny (model X.prog X.w) X.A (f v u) Q X.xe s2) :
  wpAny (model X.prog X.w) X.A (eval a X.env) (λv j=>wpAny (model X.prog X.w) X.A (eval b X.env) (λu J=>wpAny (model X.prog X.w) X.A (f v u) Q X.xe J) X.xe j) X.xe s:=by
 refine thn (ha pins s U H _ I h) λv s1 #[x,H1,l,d,i]=>?_
 refine thn (e pins s1 U H1 _ l i) λu s2 #[y,H2,k,c,g]=>?_
 exact hf v u s2 x y H2 k d c g
def iC (i:Nat):TE:=λU H Q=>∃ v,U[i]?=some (some v)/\Q v H
def tC (v:V):TE:=λ_ H Q=>Q v H
theorem gb {i:Nat} (j:X.N[i]?=some x) (k:Vis X.env.scope x) (hd:(x == ("__debug__":Str))=false:=by decide) (d:(x == ("__classdict__":Str))=false:=by decide):PE X (.Name x pos) (iC i):=by
 intro pins s U H Q I h
 obtain ⟨v,e,h⟩:=h
 obtain ⟨m,g,hl⟩:=I.loc
 obtain ⟨u,r,l⟩:=hl i x v j e k
 have fin:EP X pins U Q u s:=#[v,H,I,r,h]
 rcases l with ⟨b,hm⟩ | ⟨b,c,f,a⟩
 .exact wpAny_Name (wpAny_loadName_local I.ok.kind b g hm fin) hd
 .rcases b with b | b
  .exact wpAny_Name (wpAny_loadName_cell I.ok.kind b f a fin) hd
  .exact wpAny_Name (wpAny_loadName_free I.ok.kind b f a fin d) hd
theorem nQ:PE X (.Constant (.int i) j pos) (tC (.int i)):=λ_ _ _ H _ I h=>wpAny_Constant_int #[.int i,H,I.tok _,#[_,rfl],h]
theorem pe_bl:PE X (.Constant (.bool b) j pos) (tC (.bl b)):=λ_ _ _ H _ I h=>Constant_bool #[.bl b,H,I,rfl,h]
theorem DM:PE X (.Constant .none j pos) (tC .non):=λ_ _ _ H _ I h=>Constant_none #[.non,H,I,rfl,h]
theorem xk:PE X (.Constant (.str x) j pos) (tC (.str x)):=λ_ _ _ H _ I h=>Calls.Constant_str #[.str x,H,I.tok _,#[_,rfl],h]
def Gl (X:Cx) (x:Str):Prop:=X.env.kindOf x=some .globalImplicit
theorem io (I:Inv X pins U H s) (a:Gl X x) (hm:X.mg x=some u) (h:Q u s) (hd:(x == ("__debug__":Str))=false:=by decide):wpAny (model X.prog X.w) X.A (eval (.Name x pos) X.env) Q E s :=
 Calls.Name_function_global I.ok.kind a (Calls.loadGlobal_global (by rw[I.ok.glob];exact I.mod.glob.keeps I.bk) hm h) hd
theorem jO (I:Inv X pins U H s) (c:Gl X x) (hm:X.mg x=none) (b:bootBuiltins x=some u) (h:Q u s) (a:x≠"__name__":=by decide) (hd:(x == ("__debug__":Str))=false:=by decide):wpAny (model X.prog X.w) X.A (eval (.Name x pos) X.env) Q E s:=by
 obtain ⟨mb,h1,h2⟩:=I.mod.blt
 exact Calls.Name_function_global I.ok.kind c (Calls.loadGlobal_builtin (by rw[I.ok.glob];exact I.mod.glob.keeps I.bk) hm (by rw[I.ok.blt];exact h1.keeps I.bk) ((h2 x a).trans b) h) hd
theorem nR (a:Gl X x) (hm:X.mg x=some u) (r:RelV v u) (hd:(x == ("__debug__":Str))=false:=by decide):PE X (.Name x pos) (tC v) :=
 λ_ _ _ H _ I h=>io I a hm #[v,H,I,r,h] hd
theorem jj (c:Gl X x) (hm:X.mg x=none) (b:bootBuiltins x=some u) (r:RelV v u) (a:x≠"__name__":=by decide) (hd:(x == ("__debug__":Str))=false:=by decide):PE X (.Name x pos) (tC v) :=
 λ_ _ _ H _ I h=>jO I c hm b #[v,H,I,r,h] a hd
variable {a b:Expr} {ta tb:TE} {pos:Pos}
def PC (X:Cx) (op:CmpOp) (a b:Expr) (t:TE):Prop :=
 ∀ (pins:List (Addr×Obj)) (s:Shared) (U:St) (H:Hp) (Q:VK),Inv X pins U H s->t U H Q ->
  wpAny (model X.prog X.w) X.A (eval a X.env) (λv c=>wpAny (model X.prog X.w) X.A (eval b X.env) (λu d=>wpAny (model X.prog X.w) X.A (compareOp op v u) (EP X pins U Q) X.xe d) X.xe c) X.xe s
def tB (t:TE):TT:=λU H Q=>t U H λx H1=>∃ c,x=.bl c/\Q c H1
theorem DB (h:PE X e t) (he:∀ whole,isTrue e X.env whole=(do let v <- whole;standAt e.pos;holding [v] (truthy v)):=by intro _;rfl):PT X e (tB t):=by
 intro pins s U H Q I hw
 refine isTrue_plain (thn (h pins s U H _ I hw) λv s1 #[x,H1,c,a,b]=>?_) (he _)
 obtain ⟨d,rfl,q⟩:=b
 cases a
 exact FZ #[H1,c,q]
variable {tA tB':TT} {rest:List Expr}
def tAnd (t u:TT):TT:=λU H Q=>t U H λc H1=>if c=true then u U H1 Q else Q false H1
def tOr (t u:TT):TT:=λU H Q=>t U H λc H1=>if c=true then Q true H1 else u U H1 Q
def tNot (t:TT):TT:=λU H Q=>t U H λc H1=>Q (!c) H1
theorem An (ha:PT X a tA):PW X (.BoolOp .And [a] pos) tA:=by
 intro wh pins s U H Q I h
 refine isTrue_and (thn (ha pins s U H Q I h) λc s1 e=>?_)
 cases c with
 | true=>exact isTrue_and_nil e
 | false=>exact e
theorem Dy (ha:PT X a tA):PW X (.BoolOp .Or [a] pos) tA:=by
 intro wh pins s U H Q I h
 refine isTrue_or (thn (ha pins s U H Q I h) λc s1 e=>?_)
 cases c with
 | false=>exact isTrue_or_nil e
 | true=>exact e
theorem Dz (ha:PT X a tA) (f:PW X (.BoolOp .And (b::rest) pos) tB'):PW X (.BoolOp .And (a::b::rest) pos) (tAnd tA tB'):=by
 intro wh pins s U H Q I h
 refine isTrue_and (thn (ha pins s U H _ I h) λc s1 #[H1,d,e]=>?_)
 cases c with
 | true=>exact f wh pins s1 U H1 Q d e
 | false=>exact #[H1,d,e]
theorem pw_or (ha:PT X a tA) (f:PW X (.BoolOp .Or (b::rest) pos) tB'):PW X (.BoolOp .Or (a::b::rest) pos) (tOr tA tB'):=by
 intro wh pins s U H Q I h
 refine isTrue_or (thn (ha pins s U H _ I h) λc s1 #[H1,d,e]=>?_)
 cases c with
 | true=>exact #[H1,d,e]
 | false=>exact f wh pins s1 U H1 Q d e
theorem q9 (ha:PT X a tA):PT X (.UnaryOp .Not a pos) (tNot tA):=by
 intro pins s U H Q I h
 exact isTrue_not (ha pins s U H (λc H1=>Q (!c) H1) I h)
def BK (ta tb:TE):TE:=λU H Q=>ta U H λx H1=>∃ c,x=.bl c/\if c=true then tb U H1 Q else Q (.bl false) H1
def BD (ta:TE):TE:=λU H Q=>ta U H λx H1=>∃ c,x=.bl c/\Q (.bl (!c)) H1
theorem DK (h:PE X a t):PE X (.BoolOp op [a] pos) t:=λpins s U H Q I hw=>BoolOp_one (h pins s U H Q I hw)
theorem DS (ha:PE X a ta) (g:PE X (.BoolOp .And (b::rest) pos) tb):PE X (.BoolOp .And (a::b::rest) pos) (BK ta tb):=by
 intro pins s U H Q I h
 refine BoolOp_and (thn (ha pins s U H _ I h) λv s1 #[x,H1,e,f,d]=>?_)
 obtain ⟨c,rfl,d⟩:=d
 cases f
 refine FZ ?_
 cases c with
 | true=>exact g pins s1 U H1 Q e d
 | false=>exact #[.bl false,H1,e,rfl,d]
theorem DL (ha:PE X a ta):PE X (.UnaryOp .Not a pos) (BD ta):=by
 intro pins s U H Q I h
 refine UnaryOp_ (thn (ha pins s U H _ I h) λv s1 #[x,H1,e,d,b]=>?_)
 obtain ⟨c,rfl,b⟩:=b
 cases d
 exact not_of (FZ #[.bl (!c),H1,e,rfl,b])
def tIf (t:TT) (ta tb:TE):TE:=λU H Q=>t U H λc H1=>if c=true then ta U H1 Q else tb U H1 Q
theorem xl (i:PT X c tA) (ha:PE X a ta) (g:PE X b tb):PE X (.IfExp c a b pos) (tIf tA ta tb):=by
 intro pins s U H Q I h
 refine wpAny_IfExp (thn (i pins s U H _ I h) λd s1 #[H1,e,f]=>?_)
 cases d with
 | true=>exact ha pins s1 U H1 Q e f
 | false=>exact g pins s1 U H1 Q e f
end
end L2
namespace L2
open PySem PySem.Spec PyProof.Rows
def SqL (K:FG) (H:Hp) (a:Addr) (xs:List V):Prop :=
 Rd H a (.lst xs) \/
  ∃ (o:Obj) (its:Array Value) (n:Nat),K.lookup a=some o/\o.cls=.type "list"/\o.dict=none/\o.data=.seq its n/\its.size<=sizeLine/\Vals xs its.toList
def SqT (K:FG) (H:Hp) (a:Addr) (xs:List V):Prop :=
 Rd H a (.tup xs) \/
  ∃ (o:Obj) (its:Array Value) (n:Nat),K.lookup a=some o/\o.cls=.type "tuple"/\o.data=.seq its n/\its.size<=sizeLine/\Vals xs its.toList
def absV:Value->Option V
 | .none=>some .non
 | .bool b=>some (.bl b)
 | .int i _=>some (.int i)
 | .str x _=>some (.str x)
 | .bytes b _=>some (.byt b)
 | .float b _=>some (.flt b)
 | .ref a=>some (.ref a)
 | .type n=>some (.ty n)
 | _=>none
theorem RelV.abs (r:RelV x u):absV u=some x:=by
 cases x with
 | non=>cases r;rfl
 | bl _=>cases r;rfl
 | int _=>obtain ⟨t,rfl⟩:=r;rfl
 | str _=>obtain ⟨t,rfl⟩:=r;rfl
 | byt _=>obtain ⟨t,rfl⟩:=r;rfl
 | flt _=>obtain ⟨t,rfl⟩:=r;rfl
 | ref _=>cases r;rfl
 | ty _=>cases r;rfl
theorem RelV.inj (r:RelV x u) (q:RelV y u):x=y:=F8 (r.abs.symm.trans q.abs)
theorem Vals.inj:∀ {xs ys:List V} {us:List Value},Vals xs us->Vals ys us->xs=ys
 | _,_,_,.nil,.nil=>rfl
 | _,_,_,.cons r t,.cons r' t'=>by rw[r.inj r',Vals.inj t t']
section
variable {X:Cx} {pins:List (Addr×Obj)} {U:St} {H:Hp} {s:Shared} {a:Addr} {xs ys:List V}
theorem SqL.of {K:FG} (h:H a=some (.lst xs)):SqL K H a xs:=.inl (.inl h)
theorem SqT.of {K:FG} (h:H a=some (.tup xs)):SqT K H a xs:=.inl (.inl h)
theorem Inv.list (I:Inv X pins U H s) (h:SqL X.K H a xs):∃ its:List Value,Vals xs its/\PlainL s.heap a its.toArray/\xs.length<=sizeLine:=by
 rcases h with h | ⟨o,its,n,c,b,hd,d,hz,r⟩
 .obtain ⟨z,its,n,r,e⟩:=h.ok I.hok
  exact #[its,r,#[_,n,e,rfl,rfl,rfl],z]
 .refine #[its.toList,r,#[o,n,I.kIn a o c,b,hd,by simpa using d],?_]
  have e:=r.length
  simp only[Array.length_toList] at e
  lia
theorem Inv.tuple (I:Inv X pins U H s) (h:SqT X.K H a xs):∃ its:List Value,Vals xs its/\IsTup s.heap a its.toArray/\xs.length<=sizeLine:=by
 rcases h with h | ⟨o,its,n,c,b,d,hz,r⟩
 .obtain ⟨z,its,r,p⟩:=h.ok I.hok
  exact #[its,r,p.tup,z]
 .refine #[its.toList,r,#[o,I.kIn a o c,b,n,by simpa using d],?_]
  have e:=r.length
  simp only[Array.length_toList] at e
  lia
theorem Inv.list_inj (I:Inv X pins U H s) (h:SqL X.K H a xs) (h':SqL X.K H a ys):xs=ys:=by
 obtain ⟨its,r,⟨o,n,e,_,_,d⟩,_⟩:=I.list h
 obtain ⟨its',c,⟨o',f,b,_,_,d'⟩,_⟩:=I.list h'
 rw[e] at b;cases b
 rw[d] at d'
 injection d' with d1 _
 have:its=its':=by simpa using congrArg Array.toList d1
 subst this
 exact r.inj c
theorem Inv.tuple_inj (I:Inv X pins U H s) (h:SqT X.K H a xs) (h':SqT X.K H a ys):xs=ys:=by
 obtain ⟨its,r,⟨o,e,_,n,d⟩,_⟩:=I.tuple h
 obtain ⟨its',c,⟨o',b,_,f,d'⟩,_⟩:=I.tuple h'
 rw[e] at b;cases b
 rw[d] at d'
 injection d' with d1 _
 have:its=its':=by simpa using congrArg Array.toList d1
 subst this
 exact r.inj c
end
abbrev Cx.wish (X:Cx) (E:Value->Shared->Prop):Cx:={ X with xe:=E }
abbrev Cx.nox (X:Cx):Cx:=X.wish λ_ _=>False
theorem Cx.Ok.wish {X:Cx} (ok:X.Ok) (E:Value->Shared->Prop):(X.wish E).Ok :=
 #[ok.mod,ok.kind,ok.glob,ok.blt,ok.above,ok.inj,ok.has,ok.cab,ok.hd,ok.frames,ok.stk,ok.exf,ok.bs,ok.bsz,ok.noex,ok.exfs,ok.funs,ok.frf]
theorem Cx.Ok.unwish {X:Cx} (ok:(X.wish E).Ok):X.Ok :=
 #[ok.mod,ok.kind,ok.glob,ok.blt,ok.above,ok.inj,ok.has,ok.cab,ok.hd,ok.frames,ok.stk,ok.exf,ok.bs,ok.bsz,ok.noex,ok.exfs,ok.funs,ok.frf]
section
variable {X:Cx} {pins:List (Addr×Obj)} {U:St} {H:Hp} {s:Shared} {E:Value->Shared->Prop}
theorem Inv.wish (I:Inv X pins U H s) (E:Value->Shared->Prop):Inv (X.wish E) pins U H s:=#[I.ok.wish E,I.os,I.bare,I.base,I.loc,I.cell,I.free,I.freeC,I.pin,I.hok,I.len]
theorem Inv.unwish (I:Inv (X.wish E) pins U H s):Inv X pins U H s:=#[I.ok.unwish,I.os,I.bare,I.base,I.loc,I.cell,I.free,I.freeC,I.pin,I.hok,I.len]
set_option tactic.hygienic true in
theorem SP.unwish (h:SP (X.wish E) pins D f s'):SP X pins D f s':=by
 cases f with
 | next=>obtain ⟨U',H',I,q⟩:=h;exact #[U',H',I.unwish,q]
 | brk=>obtain ⟨U',H',I,q⟩:=h;exact #[U',H',I.unwish,q]
 | cont=>obtain ⟨U',H',I,q⟩:=h;exact #[U',H',I.unwish,q]
 | ret u=>obtain ⟨v,U',H',I,r,q⟩:=h;exact #[v,U',H',I.unwish,r,q]
theorem PSs.nox {st:List Stmt} (h:PSs X.nox st t):PSs X st t:=λpins s U H D I hw =>
 wpAny_mono (h pins s U H D (I.wish _) hw) (λ_ _ q=>q.unwish) λ_ _ z=>False.elim z
end
section
variable {X:Cx} {st:Stmt} {rest:List Stmt} {t u:TS} {e:Expr} {te:TE} {pos:Pos}
def BE:TS:=λD U H=>D.nx U H
def tSeq (t u:TS):TS:=λD U H=>t { D with nx:=u D } U H
theorem At:PSs X [] BE:=λ_ _ U H _ I h=>wpAny_execs_nil #[U,H,I,h]
set_option tactic.hygienic true in
theorem xg (h1:PS X st t) (h2:PSs X rest u):PSs X (st::rest) (tSeq t u):=by
 intro pins s U H D I h
 refine wpAny_execs_cons (thn (h1 pins s U H { D with nx:=u D } I h) λf s1 q=>?_)
 cases f with
 | next =>
  obtain ⟨U',H',a,q⟩:=q
  exact h2 pins s1 U' H' D a q
 | ret v=>exact q
 | brk=>exact q
 | cont=>exact q
set_option tactic.hygienic true in
theorem sZ (h1:PS X st t):PSs X [st] t:=by
 intro pins s U H D I h
 refine wpAny_execs_cons (thn (h1 pins s U H D I h) λf s1 q=>?_)
 cases f with
 | next=>exact wpAny_execs_nil q
 | ret v=>exact q
 | brk=>exact q
 | cont=>exact q
theorem Inv.quiet (I:Inv X pins U H s):interactive X.env=false:=by simp[interactive,I.ok.kind]
def BG (te:TE):TS:=λD U H=>te U H λ_ H1=>D.nx U H1
theorem Au (he:PE X e te) (a:swapsWith e none pos.line X.env=pure false:=by rfl):PS X (.Expr e pos) (BG te):=by
 intro pins s U H D I h
 exact wpAny_Expr_any (thn (he pins s U H _ I h) λv s1 #[x,H1,b,d,c]=>#[U,H1,b,c]) I.quiet a
def tRet (te:TE):TS:=λD U H=>te U H D.rt
theorem DF (he:PE X e te):PS X (.Return (some e) pos) (tRet te):=by
 intro pins s U H D I h
 exact wpAny_Return_some (thn (he pins s U H _ I h) λv s1 #[x,H1,b,a,c]=>#[x,U,H1,b,a,c])
def tIfS (c:TT) (t u:TS):TS:=λD U H=>c U H λb H1=>if b=true then t D U H1 else u D U H1
theorem ps_if (i:PT X c tc) (ha:PSs X a t) (g:PSs X b u):PS X (.If c a b pos) (tIfS tc t u):=by
 intro pins s U H D I h
 refine wpAny_If (thn (i pins s U H _ I h) λd s1 #[H1,e,f]=>?_)
 cases d with
 | true=>exact ha pins s1 U H1 D e f
 | false=>exact g pins s1 U H1 D e f
end
abbrev TG:=V->St->Hp->(St->Hp->Prop)->Prop
abbrev TGs:=List V->St->Hp->(St->Hp->Prop)->Prop
def PG (X:Cx) (target:Expr) (t:TG):Prop :=
 ∀ (pins:List (Addr×Obj)) (s:Shared) (U:St) (H:Hp) (v:V) (u:Value) (Q:St->Hp->Prop),Inv X pins U H s->RelV v u->t v U H Q ->
  wpAny (model X.prog X.w) X.A (assign target X.env u) (λ_ s'=>∃ U' H',Inv X pins U' H' s'/\Q U' H') X.xe s
def PGs (X:Cx) (ts:List Expr) (t:TGs):Prop :=
 ∀ (pins:List (Addr×Obj)) (s:Shared) (U:St) (H:Hp) (vs:List V) (us:List Value) (Q:St->Hp->Prop),Inv X pins U H s->Vals vs us->t vs U H Q ->
  wpAny (model X.prog X.w) X.A (assignInOrder ((assignEach ts X.env).map (·.2)) us) (λ_ s'=>∃ U' H',Inv X pins U' H' s'/\Q U' H') X.xe s
abbrev vJ:=V->V->V->Hp->(Hp->Prop)->Prop
def vK (X:Cx) (t:vJ):Prop :=
 ∀ (pins:List (Addr×Obj)) (s:Shared) (U:St) (H:Hp) (o i v:V) (ov a u:Value) (Q:Hp->Prop),Inv X pins U H s->RelV o ov->RelV i a->RelV v u->t o i v H Q ->
  wpAny (model X.prog X.w) X.A (setItem ov a u) (λ_ s'=>∃ H',Inv X pins U H' s'/\Q H') X.xe s
section
variable {X:Cx} {pos:Pos}
def tN (i:Nat):TG:=λv U H Q=>Q (U.set i (some v)) H
theorem ic {i:Nat} (c:X.N.Nodup) (hi:X.N[i]?=some x) (a:Loc X.env.scope x) (hf:X.fn x=true\/X.env.scope.names.lookup x=some .local:=by first | exact .inl rfl | exact .inr rfl | assumption):PG X (.Name x pos) (tN i):=by
 intro pins s U H v u Q I r h
 exact wpAny_assign_Name (fT I c hi a r (λs' b=>#[_,H,b,h]) hf)
def EI:TGs:=λvs U H Q=>vs=[]/\Q U H
def tO (t:TG) (u:TGs):TGs:=λvs U H Q=>∃ v r,vs=v::r/\t v U H λU' H'=>u r U' H' Q
theorem kA:PGs X [] EI:=by
 intro pins s U H vs us Q I r h
 obtain ⟨e,h⟩:=h
 subst e
 cases r
 exact assignInOrder_nil #[U,H,I,h]
theorem dR (h1:PG X e t) (h2:PGs X es u) (b:(assignEach (e::es) X.env).map (·.2)=assign e X.env::(assignEach es X.env).map (·.2):=by rfl):PGs X (e::es) (tO t u):=by
 intro pins s U H vs us Q I r h
 obtain ⟨v,d,e1,h⟩:=h
 subst e1
 cases r with
 | cons r rr =>
  rw[b]
  refine assignInOrder_cons (thn (h1 pins s U H _ _ _ I r h) λ_ s1 #[U1,H1,c,a]=>?_)
  exact h2 pins s1 U1 H1 _ _ Q c rr a
def Bb (K:FG) (n:Nat) (t:TGs):TG:=λv U H Q=>∃ a xs,v=.ref a/\SqT K H a xs/\xs.length=n/\t xs U H Q
theorem nP {k:Nat} {n:Nat} (i:X.calm=true) (h:PGs X es t) (l:(assignEach es X.env).length=n:=by rfl) (c:(assignEach es X.env).findIdx? (·.1)=none:=by rfl):PG X (.Tuple es k pos) (Bb X.K n t):=by
 intro pins s U H v u Q I r hw
 obtain ⟨a,xs,e1,j,hl,hw⟩:=hw
 subst e1
 cases r
 obtain ⟨its,d,m,hz⟩:=I.tuple j
 refine assign_Tuple_tuple (I.ok.hd i) m (by simp[l,<- hl,d.length]) c λh' f=>?_
 have g:Inv X pins U H { s with heap:=h' }:=I.kept (t':=s.toks) λb o e=>f b o (FD (Fp e)) e
 exact h pins _ U H xs _ Q g (by simpa using d) hw
def yy (to b:TE) (t:vJ):TG:=λv U H Q=>to U H λo H1=>b U H1 λi H2=>t o i v H2 λa=>Q U a
theorem rl (c:PE X o to) (hi:PE X i ti) (m:vK X t) (ha:∀ v,assign (.Subscript o i pos) X.env v=(do
   let ov <- holding [v] (eval o X.env)
   let j <- holding [v,ov] (eval i X.env)
   standAt pos
   holding [v,ov,j] (setItem ov j v)
   release [v,ov,j] []):=by intro _;rfl):PG X (.Subscript o i pos) (yy to ti t):=by
 intro pins s U H v u Q I r h
 rw[ha]
 refine Fb (Fd (thn (c pins s U H _ I h) λov s1 #[x,H1,n,d,g]=>?_))
 refine Fb (Fd (thn (hi pins s1 U H1 _ n g) λj s2 #[y,H2,f,b,e]=>?_))
 refine Fb (wpAny_standAt (Fb (Fd (thn (m pins s2 U H2 x y v ov j u _ f d b r e) λ_ s3 #[a,l,k]=>?_))))
 exact wpAny_release #[U,a,l,k]
def ut (te:TE) (g:TG):TS:=λD U H=>te U H λx H1=>g x U H1 D.nx
theorem rf (he:PE X e te) (c:PG X tg g) (d:swapsWithSole [tg] e pos.line X.env=pure false:=by rfl) (hw:swappedStores [tg] e X.env=pure none:=by rfl) (h1:(assignEach [tg] X.env).map (·.2)=[assign tg X.env]:=by rfl):PS X (.Assign [tg] e pos) (ut te g):=by
 intro pins s U H D I h
 refine wpAny_Assign_stores (thn (he pins s U H _ I h) λv s1 #[x,H1,f,a,b]=>?_) d hw
 rw[h1]
 exact thn (c pins s1 U H1 x v _ f a b) λ_ s2 q=>q
theorem DE {i:Nat} (f:X.N.Nodup) (hi:X.N[i]?=some x) (a:Loc X.env.scope x) (he:PE X e te) (g:swapsWith e (some (.Name x pos')) pos.line X.env=pure false:=by rfl) (hf:X.fn x=true\/X.env.scope.names.lookup x=some .local:=by first | exact .inl rfl | exact .inr rfl | assumption) :
  PS X (.Assign [.Name x pos'] e pos) (ut te (tN i)):=by
 intro pins s U H D I h
 refine wpAny_Assign_Name (thn (he pins s U H _ I h) λv s1 #[y,H1,j,b,d]=>?_) g
 exact fT j f hi a b (λs2 c=>#[_,H1,c,d]) hf
def tPar (i j:Nat) (ta:TA):TS:=λD U H=>ta U H λvs H1=>∃ v w,vs=[v,w]/\D.nx ((U.set i (some v)).set j (some w)) H1
set_option tactic.hygienic true in
theorem DG {i j:Nat} (u:X.calm=true) (r:X.N.Nodup) (hi:X.N[i]?=some x) (B:X.N[j]?=some y) (f:i≠j) (m:X.env.scope.names.lookup x=some .local) (t:X.env.scope.names.lookup y=some .local) (ha:PA X [a,b] ta) (hw:swappedStores [.Tuple [.Name x px,.Name y py] kt pt] (.Tuple [a,b] k2 pt2) X.env=pure (some [x,y])) (C:swapsWithSole [.Tuple [.Name x px,.Name y py] kt pt] (.Tuple [a,b] k2 pt2) pos.line X.env=pure false:=by rfl) :
  PS X (.Assign [.Tuple [.Name x px,.Name y py] kt pt] (.Tuple [a,b] k2 pt2) pos) (tPar i j ta):=by
 intro pins s U H D I h
 rw[exec_Assign_arm]
 refine Fb (wpAny_standAt ?_)
 rw[C]
 refine Fb (Fc ?_)
 rw[if_neg (by decide)]
 refine Fb (Tuple_ (thn (ha _ pins s U H _ I h) λus s1 #[vs,H1,K,F,l]=>?_))
 obtain ⟨v,w,e1,l⟩:=l
 subst e1
 obtain ⟨c,d,rfl,G,g⟩:∃ c d,us=[c,d]/\RelV v c/\RelV w d:=by
  cases F with
  | cons p q =>
   cases q with
   | cons p' q' =>
    cases q'
    exact #[_,_,rfl,p,p']
 refine wpAny_newObj_type ?_ (by show 2<=sizeLine;decide)
 have z:Inv X pins U H1 { s1 with heap:=s1.heap.push { cls:=.type "tuple",data:=.seq [c,d].toArray } }:=K.kept (t':=s1.toks) λb o e=>Fg _ e
 rw[hw]
 refine Fb (Fc ?_)
 show wpAny (model X.prog X.w) X.A (do rule "assign.swapped-stores";let items <- unpackItems (.ref s1.heap.objs.size) 2 none;assignInOrder [λv=>bindName X.env y v,λv=>bindName X.env x v] items.reverse;pure Flow.next) _ _ _
 refine Fb (wpAny_rule (Fb (unpackItems_tuple (items:=(List.toArray [c,d])) (I.ok.hd u) (IsTup.new s1.heap _) λh' k=>?_)))
 have J:=z.kept (h':=h') (t':=s1.toks) λb o e=>k b o (FD (Fp e)) e
 show wpAny _ _ (assignInOrder [λv=>bindName X.env y v,λv=>bindName X.env x v] [d,c] >>= λ_=>pure Flow.next) _ _ _
 refine Fb (assignInOrder_cons (wpAny_bindName (fT J r B (.inl t) g (λs2 E=>?_) (.inr t))))
 refine assignInOrder_cons (wpAny_bindName (fT E r hi (.inl m) G (λs3 n=>assignInOrder_nil (Fc ?_)) (.inr m)))
 rw[List.set_comm _ _ (Ne.symm f)] at n
 exact #[_,H1,n,l]
end
section
variable {X:Cx} {pos:Pos}
def vY (c:TT) (tb:TS):TS:=λD U H=>∃ W:Nat->St->Hp->Prop,(∃ m,W m U H)/\∀ m U H,W m U H ->
 c U H λb H1=>if b=true then ∃ N:St->Hp->Prop,(∀ U' H',N U' H'->∃ a,a < m/\W a U' H')/\tb { D with nx:=N,ct:=N,bk:=D.nx } U H1 else D.nx U H1
set_option tactic.hygienic true in
theorem xh (l:PassesOwn (model X.prog X.w) X.A X.env X.xe) (q:PT X c tc) (p:PSs X body tb):PS X (.While c body [] pos) (vY tc tb):=by
 intro pins s U H D I h
 obtain ⟨W,⟨m0,t⟩,turn⟩:=h
 refine wpAny_While (codeAny_whileLoop (λn s'=>∃ U' H',Inv X pins U' H' s'/\W n U' H') ?_ m0 #[U,H,I,t])
 rintro n s1 ⟨U1,H1,u,r⟩
 refine wpAny_passesOwn l (thn (q pins s1 U1 H1 _ u (turn n U1 H1 r)) λb s2 #[H2,m,d]=>?_)
 cases b with
 | true =>
  obtain ⟨N,o,d⟩:=d
  rw[if_pos rfl]
  refine wpAny_passesOwn l (thn (p pins s2 U1 H2 _ m d) λf s3 e=>?_)
  cases f with
  | next =>
   obtain ⟨U3,a,k,g⟩:=e
   obtain ⟨j,hm,i⟩:=o U3 a g
   exact #[j,hm,U3,a,k,i]
  | cont =>
   obtain ⟨U3,a,k,g⟩:=e
   obtain ⟨j,hm,i⟩:=o U3 a g
   exact #[j,hm,U3,a,k,i]
  | brk=>exact e
  | ret v=>exact e
 | false =>
  rw[if_neg FC]
  exact wpAny_execs_nil #[U1,H2,m,d]
end
structure It where
 go:Nat->Hp->Prop
 yld:Nat->Hp->V->Hp->Prop
 stop:Nat->Hp->Prop
def FpOk (X:Cx) (pins:List (Addr×Obj)) (H:Hp) (b:Addr):Prop :=
 H b=none/\b≠X.env.locals/\b ∉ X.fs/\(b∈X.ex\/X.s₀.heap.objs.size<=b)/\(∀ x c,X.env.cells.lookup x=some c->c≠b)/\∀ p∈X.pn++pins,p.1≠b
theorem Inv.fpOk (I:Inv X pins U H s) (a:s.heap.objs.size<=b) (d:H' b=none):FpOk X pins H' b:=by
 refine #[d,Nat.ne_of_gt (FJ I.lt a),I.nofs a,.inr (F1 I.sz a),λx c e z=>?_,λp f z=>?_]
 .obtain ⟨v,q⟩:=I.cell x c e
  exact absurd (FJ q.lt (by rw[z];exact a)) (Nat.lt_irrefl _)
 .exact absurd (FJ (Fp (I.pin p f).1) (by rw[z];exact a)) (Nat.lt_irrefl _)
structure Turn (P:Program) (w:World) (K:FG) (tg:Expr) (J:It) (fp:List Addr) (it:Addr) (tn:Nat->Heap->Prop):Prop where
 mem:it∈fp
 obj:∀ i h,tn i h->∀ b∈fp,∃ o,h.get? b=some o/\∀ v,o.data≠.cell v
 keep:∀ i h h',tn i h->(∀ b∈fp,∀ o,h.get? b=some o->h'.get? b=some o)->tn i h'
 item:∀ (X:Cx),X.prog=P->X.w=w->X.K=K->X.calm=true->∀ (i:Nat) (pins:List (Addr×Obj)) (s:Shared) (U:St) (H:Hp) (E:Value->Shared->Prop),Inv X pins U H s->(∀ b∈fp,FpOk X pins H b)->tn i s.heap->J.go i H ->
  wpAny (model P w) X.A (pyNext (.ref it)) (λr s1=>∃ u,r=some u /\
   wpAny (model P w) X.A (letOwnedTupleGo tg (.ref it) u) (λ_ s2=>∃ x H',Inv X pins U H' s2/\RelV x u/\J.yld i H x H'/\tn (i+1) s2.heap/\∀ b∈fp,H' b=none) E s1) E s
 done:∀ (X:Cx),X.prog=P->X.w=w->X.K=K->X.calm=true->∀ (i:Nat) (pins:List (Addr×Obj)) (s:Shared) (U:St) (H:Hp) (E:Value->Shared->Prop),Inv X pins U H s->(∀ b∈fp,FpOk X pins H b)->tn i s.heap->J.stop i H ->
  wpAny (model P w) X.A (pyNext (.ref it)) (λr s1=>r=none/\Inv X pins U H s1) E s
 self:∀ (A:Around) (i:Nat) (s:Shared) (Q:Value->Shared->Prop) (E:Value->Shared->Prop),tn i s.heap->Q (.ref it) s->wpAny (model P w) A (pyIter (.ref it)) Q E s
abbrev TI:=St->Hp->(It->Hp->Prop)->Prop
def PIE (X:Cx) (pins:List (Addr×Obj)) (U:St) (tg:Expr) (R:It->Hp->Prop) (a:Value) (s2:Shared):Prop :=
 ∃ (it:Addr) (fp:List Addr) (c:Nat->Heap->Prop) (J:It) (H':Hp),a=.ref it/\Inv X pins U H' s2/\Turn X.prog X.w X.K tg J fp it c/\c 0 s2.heap/\(∀ b∈fp,FpOk X pins H' b)/\R J H'
def PI (X:Cx) (tg iter:Expr) (a:TI):Prop :=
 ∀ (pins:List (Addr×Obj)) (s:Shared) (U:St) (H:Hp) (R:It->Hp->Prop),Inv X pins U H s->a U H R ->
  wpAny (model X.prog X.w) X.A (eval iter X.env) (λv s1=>wpAny (model X.prog X.w) X.A (pyIter v) (PIE X pins U tg R) X.xe s1) X.xe s
theorem yw (d:s.heap.get? it=some o) (c:o.cls=.type n) (hd:o.data=.fields vs) (b:["enumerate","zip","dict_itemiterator","dict_reverseitemiterator","odict_iterator","itertools.zip_longest","itertools.pairwise"].contains n=false) (a:Q () s):wpAny M A (letOwnedTupleGo tg (.ref it) u) Q E s:=by
  unfold letOwnedTupleGo
  cases tg <;> first
    | exact Fc a
    | (cases u <;> first
        | exact Fc a
        | (refine Fb (wpAny_load d ?_)
           rw[c,hd]
           show wpAny M A (if (["enumerate","zip","dict_itemiterator","dict_reverseitemiterator","odict_iterator","itertools.zip_longest","itertools.pairwise"].contains n && vs[0]? == some (rawInt _))=true then _ else _) Q E s
           rw[if_neg (by intro h; rw[b,Bool.false_and] at h; cases h)]
           exact Fc a))
def Itl (K:FG) (a:Addr):It :=
 #[λi H=>∃ xs x,SqL K H a xs/\xs[i]?=some x,λi H x H'=>H'=H/\∀ xs,SqL K H a xs->xs[i]?=some x,λi H=>∃ xs,SqL K H a xs/\xs.length<=i]
def Itt (K:FG) (a:Addr):It :=
 #[λi H=>∃ xs x,SqT K H a xs/\xs[i]?=some x,λi H x H'=>H'=H/\∀ xs,SqT K H a xs->xs[i]?=some x,λi H=>∃ xs,SqT K H a xs/\xs.length<=i]
def Itr (lo:Int) (n:Nat):It:=#[λi _=>i < n,λi H x H'=>H'=H/\x=.int (lo+i),λi _=>n<=i]
theorem ul {P:Program} {w:World} {K:FG} {tg:Expr} (a it:Addr):Turn P w K tg (Itl K a) [it] it (λi h=>h.IsListIter it a i) where
 mem:=by simp
 obj:=λi h st b f=>by
  have e:b=it:=by simpa using f
  subst e
  obtain ⟨o,e,c,d⟩:=st
  exact #[o,e,λv z=>by rw[d] at z;cases z]
 keep:=λi h h' st k=>st.at λo e=>k it (by simp) o e
 item:=by
  intro X q hw n A i pins s U H E I hf st r
  subst q hw n
  obtain ⟨xs,x,j,l⟩:=r
  obtain ⟨its,y,p,hz⟩:=I.list j
  obtain ⟨u,hu,D⟩:=y.get l
  obtain ⟨f0,f1,f2,m,f4,t⟩:=hf it (by simp)
  refine wpAny_pyNext_list_item st p.isList (x:=u) (by simpa using hu) λh' g sb=>?_
  have F:Inv X pins U H { s with heap:=h' }:=I.turned (t':=s.toks) (λb o f e=>(sb.2 b f).trans e) f0 f1 m f4 t
  obtain ⟨o,e,c,d⟩:=id g
  exact #[u,rfl,yw (s:={ s with heap:=h' }) e c d (by decide) #[x,H,F,D,#[rfl,λys B=>by rw[I.list_inj B j];exact l],g,λb f=>(hf b f).1]]
 done:=by
  intro X q hw n A i pins s U H E I hf st r
  subst q hw n
  obtain ⟨xs,j,l⟩:=r
  obtain ⟨its,y,p,hz⟩:=I.list j
  obtain ⟨f0,f1,f2,m,f4,t⟩:=hf it (by simp)
  have hl:=y.length
  exact wpAny_pyNext_list_end (I.ok.hd A) st p.isList (by simp;omega) λh' C=>#[rfl,I.turned (t':=s.toks) (λb o f e=>C b o f e) f0 f1 m f4 t]
 self:=λ_ _ _ _ _ st h=>wpAny_pyIter_listiter st h
theorem qL {P:Program} {w:World} {K:FG} {tg:Expr} (a it:Addr):Turn P w K tg (Itt K a) [it] it (λi h=>h.IsTupleIter it a i) where
 mem:=by simp
 obj:=λi h st b f=>by
  have e:b=it:=by simpa using f
  subst e
  obtain ⟨o,e,c,d⟩:=st
  exact #[o,e,λv z=>by rw[d] at z;cases z]
 keep:=λi h h' st k=>st.at λo e=>k it (by simp) o e
 item:=by
  intro X q hw n A i pins s U H E I hf st r
  subst q hw n
  obtain ⟨xs,x,j,l⟩:=r
  obtain ⟨its,y,p,hz⟩:=I.tuple j
  obtain ⟨u,hu,D⟩:=y.get l
  obtain ⟨f0,f1,f2,m,f4,t⟩:=hf it (by simp)
  refine wpAny_pyNext_tuple_item st (show s.heap.IsTuple a its.toArray from p) (x:=u) (by simpa using hu) λh' g sb=>?_
  have F:Inv X pins U H { s with heap:=h' }:=I.turned (t':=s.toks) (λb o f e=>(sb.2 b f).trans e) f0 f1 m f4 t
  obtain ⟨o,e,c,d⟩:=id g
  exact #[u,rfl,yw (s:={ s with heap:=h' }) e c d (by decide) #[x,H,F,D,#[rfl,λys B=>by rw[I.tuple_inj B j];exact l],g,λb f=>(hf b f).1]]
 done:=by
  intro X q hw n A i pins s U H E I hf st r
  subst q hw n
  obtain ⟨xs,j,l⟩:=r
  obtain ⟨its,y,p,hz⟩:=I.tuple j
  obtain ⟨f0,f1,f2,m,f4,t⟩:=hf it (by simp)
  have hl:=y.length
  exact wpAny_pyNext_tuple_end (I.ok.hd A) st (show s.heap.IsTuple a its.toArray from p) (by simp;omega) λh' C=>#[rfl,I.turned (t':=s.toks) (λb o f e=>C b o f e) f0 f1 m f4 t]
 self:=λ_ _ _ _ _ st h=>wpAny_pyIter_tupleiter st h
theorem qM {P:Program} {w:World} {K:FG} {tg:Expr} (it:Addr) (lo:Int) (n:Nat):Turn P w K tg (Itr lo n) [it] it (λi h=>IsRangeIter h it (lo+(i:Nat) * 1) ((n:Int) - (i:Nat)) 1) where
 mem:=by simp
 obj:=λi h st b a=>by
  have e:b=it:=by simpa using a
  subst e
  exact ⟨_,st,λv z=>by
   have u:Data.fields _=Data.cell v:=z
   cases u⟩
 keep:=λi h h' st k=>k it (by simp) _ st
 item:=by
  intro X g hw f j i pins s U H E I hf st l
  subst g hw f
  obtain ⟨f0,f1,f2,d,f4,m⟩:=hf it (by simp)
  have W:=Walks.range (prog:=X.prog) (w:=X.w) (I.ok.hd j) it lo 1 n
  refine W.item i s _ _ l st λv h' tk x c p=>?_
  obtain ⟨t,rfl⟩:=x
  have q:Inv X pins U H { s with heap:=h',toks:=tk }:=I.turned (λb o a e=>p b o (by simpa using a) e) f0 f1 d f4 m
  refine #[_,rfl,yw (s:={ s with heap:=h',toks:=tk }) (n:="range_iterator") c rfl rfl (by decide) #[.int (lo+i),H,q,#[t,?_],#[rfl,rfl],c,λb a=>(hf b a).1]]
  rw[Int.mul_one]
 done:=by
  intro X g hw f j i pins s U H E I hf st l
  subst g hw f
  obtain ⟨f0,f1,f2,d,f4,m⟩:=hf it (by simp)
  exact wpAny_pyNext_range_end (I.ok.hd j) st (by have:n<=i:=l;lia) λh' r=>#[rfl,I.turned (t':=s.toks) (λb o a e=>r b o a e) f0 f1 d f4 m]
 self:=λ_ _ _ _ _ st h=>wpAny_pyIter_rangeiter st h
end L2
namespace L2
open PySem PySem.Spec PyProof.Rows
section
variable {X:Cx} {tg:Expr}
theorem pL {lo hi:Int} {tk:Nat} (I:Inv X pins U H s) (h1:-(2 ^ 62)<=lo) (h2:lo < 2 ^ 62) (h3:-(2 ^ 62)<=hi) (c:hi < 2 ^ 62) (q:R (Itr lo (hi - lo).toNat) H):wpAny (model X.prog X.w) X.A (pyIter (.ref s.heap.objs.size)) (PIE X pins U tg R) E { s with heap:=s.heap.push { cls:=.type "range",data:=.fields (List.toArray [.int lo t,.int hi u,.int 1 v]) },toks:=tk }:=by
 refine wpAny_pyIter_range (IsRange.new ..) (small_one h1 h2 h3 c) ?_
 have a:Inv X pins U H { s with heap:=s.heap.push { cls:=.type "range",data:=.fields (List.toArray [.int lo t,.int hi u,.int 1 v]) },toks:=tk }:=I.kept λb o e=>Fg _ e
 refine ⟨(s.heap.push { cls:=.type "range",data:=.fields (List.toArray [.int lo t,.int hi u,.int 1 v]) }).objs.size,[(s.heap.push { cls:=.type "range",data:=.fields (List.toArray [.int lo t,.int hi u,.int 1 v]) }).objs.size],_,_,H,rfl,
  a.kept (t':=tk) λb o e=>Fg _ e,qM _ lo (hi - lo).toNat,?_,λb d=>?_,q⟩
 .have e1:lo+((0:Nat):Int) * 1=lo:=by simp
  have f:(((hi - lo).toNat:Nat):Int) - ((0:Nat):Int)=Builtin.Range.rangeSize lo hi 1:=by rw[rangeSize_one];split <;> omega
  show IsRangeIter _ _ (lo+((0:Nat):Int) * 1) ((((hi - lo).toNat:Nat):Int) - ((0:Nat):Int)) 1
  rw[e1,f]
  exact Fs _ rfl
 .have e:b=(s.heap.push { cls:=.type "range",data:=.fields (List.toArray [.int lo t,.int hi u,.int 1 v]) }).objs.size:=by simpa using d
  subst e
  exact a.fpOk (FA _) (a.hok.fresh (FA _))
def B6 (ta:TA):TI:=λU H R=>ta U H λvs H1=>∃ j:Int,vs=[.int j]/\-(2 ^ 62)<=j/\j < 2 ^ 62/\R (Itr 0 j.toNat) H1
def B5 (ta:TA):TI:=λU H R=>ta U H λvs H1=>∃ i j:Int,vs=[.int i,.int j]/\(-(2 ^ 62)<=i/\i < 2 ^ 62/\-(2 ^ 62)<=j/\j < 2 ^ 62)/\R (Itr i (j - i).toNat) H1
theorem uJ (g:Gl X "range") (hm:X.mg "range"=none) (ha:PA X [a] ta) (c:starEach [a] X.env=[(false,eval a X.env)]:=by rfl):PI X tg (.Call (.Name "range" p) [a] [] pos) (B6 ta):=by
 intro pins s U H R I h
 refine Call_ (jO I g hm boot_range (PyProof.Rows.callWith_type1 (thn (ha pos pins s U H _ I h) λus s1 #[vs,H1,i,d,b]=>?_) c rfl))
 obtain ⟨j,e,b,f,q⟩:=b
 subst e
 cases d with
 | cons r rr =>
  cases rr
  obtain ⟨t,rfl⟩:=r
  exact call_range_1 (pL i (by omega) (by omega) b f (by simpa using q))
theorem uI (n:Gl X "range") (hm:X.mg "range"=none) (ha:PA X [a,b] ta) (f:starEach [a,b] X.env=[(false,eval a X.env),(false,eval b X.env)]:=by rfl) (c:starEach [b] X.env=[(false,eval b X.env)]:=by rfl) :
  PI X tg (.Call (.Name "range" p) [a,b] [] pos) (B5 ta):=by
 intro pins s U H R I h
 refine Call_ (jO I n hm boot_range (PyProof.Rows.callWith_type1 (thn (ha pos pins s U H _ I h) λus s1 #[vs,H1,o,g,d]=>?_) (by rw[f,c]) (by rw[c];rfl)))
 obtain ⟨i,j,e,⟨d,k,m,l⟩,q⟩:=d
 subst e
 cases g with
 | cons r rr =>
  cases rr with
  | cons r' rr =>
   cases rr
   obtain ⟨t,rfl⟩:=r
   obtain ⟨t',rfl⟩:=r'
   exact call_range_2 (pL o d k m l q)
def tFor (b:TI) (g:TG) (tb:TS):TS:=λD U H=>b U H λJ H1=>∃ W:Nat->Nat->St->Hp->Prop,(∃ m,W 0 m U H1)/\∀ i m U H,W i m U H ->
 (J.stop i H/\D.nx U H)\/(J.go i H/\∃ N:St->Hp->Prop,(∀ U' H',N U' H'->∃ a,a < m/\W (i+1) a U' H')/\∀ x H',J.yld i H x H'->g x U H' λU2 H2=>tb { D with nx:=N,ct:=N,bk:=D.nx } U2 H2)
def kY (fp:List Addr) (h:Heap):List (Addr×Obj):=fp.filterMap λb=>(h.get? b).map λo=>(b,o)
theorem fg (a:b∈fp) (e:h.get? b=some o):(b,o)∈kY fp h:=List.mem_filterMap.mpr #[b,a,by rw[e];rfl]
theorem uM (d:p∈kY fp h):p.1∈fp/\h.get? p.1=some p.2:=by
 obtain ⟨b,a,e⟩:=List.mem_filterMap.mp d
 cases q:h.get? b with
 | none=>rw[q] at e;cases e
 | some o =>
  rw[q] at e
  have c:(b,o)=p:=F8 e
  subst c
  exact #[a,q]
theorem Inv.pinned (I:Inv X pins U H s) (hf:∀ b∈fp,FpOk X pins H b) (f:∀ b∈fp,∃ o,s.heap.get? b=some o/\∀ v,o.data≠.cell v):Inv X (pins++kY fp s.heap) U H s :=
 I.pins_of λp g=>(Fq.mp g).elim (λz=>I.pin p (Fj _ z)) λz=>by
  obtain ⟨a,e⟩:=uM z
  obtain ⟨f0,f1,f2,_⟩:=hf p.1 a
  obtain ⟨o,c,d⟩:=f p.1 a
  rw[e] at c;cases c
  exact #[e,f0,f1,f2,d]
theorem Inv.unpinned (I:Inv X (pins++pl) U H s):Inv X pins U H s:=I.pins_of λp a=>I.pin p (Fj _ (Fi _ a))
set_option tactic.hygienic true in
theorem DH (q:PassesOwn (model X.prog X.w) X.A X.env X.xe) (O:X.calm=true) (hi:PI X tg iter wi) (τ:PG X tg g) (j:PSs X body tb) (hs:∀ x,foldedSetIterable iter X.env x=pure x:=by intro _;rfl):PS X (.For tg iter body [] pos) (tFor wi g tb):=by
 intro pins s U H D I h
 refine wpAny_For (thn (hi pins s U H _ I h) λv s1 h1=>thn h1 λae s2 h2=>?_) hs
 obtain ⟨it,fp,L,J,H2,e,I2,T,K,f2,W,⟨m0,w0⟩,turn⟩:=h2
 subst e
 have c:∀ {H':Hp},(∀ b∈fp,H' b=none)->∀ b∈fp,FpOk X pins H' b:=λσ b j=>#[σ b j,(f2 b j).2]
 refine codeAny_forLoop_any (λn s'=>∃ i U' H',Inv X pins U' H' s'/\L i s'.heap/\(∀ b∈fp,H' b=none)/\W i n U' H') ?_ m0 #[0,U,H2,I2,K,λb j=>(f2 b j).1,w0]
 rintro n s3 ⟨i,U3,B,M,z,y,w3⟩
 rcases turn i n U3 B w3 with ⟨stop,R⟩ | ⟨go,N,V,step⟩
 .refine wpAny_passesOwn q (thn (T.done X rfl rfl rfl O i pins s3 U3 B X.xe M (c y) z stop) λr s4 #[G,I4]=>?_)
  subst G
  exact wpAny_execs_nil #[U3,B,I4,R]
 .refine wpAny_passesOwn q (thn (T.item X rfl rfl rfl O i pins s3 U3 B X.xe M (c y) z go) λr s4 #[u,G,h4]=>?_)
  subst G
  refine wpAny_passesOwn q (thn h4 λ_ s5 #[x,P,I5,r5,y5,p,F]=>?_)
  have E:=I5.pinned (c F) (T.obj _ _ p)
  refine wpAny_passesOwn q (thn (τ _ s5 U3 P x u _ E r5 (step x P y5)) λ_ ρ #[U6,S,I6,q6]=>?_)
  refine wpAny_passesOwn q (thn (j _ ρ U6 S _ I6 q6) λf C l=>?_)
  have again:∀ {U7:St} {k:Hp},Inv X (pins++kY fp s5.heap) U7 k C->N U7 k->∃ m,m < n/\∃ i U' H',Inv X pins U' H' C/\L i C.heap/\(∀ b∈fp,H' b=none)/\W i m U' H':=λ{U7 k} a t=>by
   obtain ⟨m',hm,Q⟩:=V U7 k t
   refine #[m',hm,i+1,U7,k,a.unpinned,T.keep _ _ _ p λb j o e=>(a.pin (b,o) (Fj _ (Fj _ (fg j e)))).1,λb j=>?_,Q]
   obtain ⟨o,e,d⟩:=T.obj _ _ p b j
   exact (a.pin (b,o) (Fj _ (Fj _ (fg j e)))).2.1
  cases f with
  | next=>obtain ⟨U7,k,a,t⟩:=l;exact again a t
  | cont=>obtain ⟨U7,k,a,t⟩:=l;exact again a t
  | brk=>obtain ⟨U7,k,a,l⟩:=l;exact #[U7,k,a.unpinned,l]
  | ret v=>obtain ⟨x7,U7,k,a,r7,l⟩:=l;exact #[x7,U7,k,a.unpinned,r7,l]
end
end L2
namespace L2
open PySem PySem.Spec PyProof.Rows
abbrev R2:=V->V->Hp->VK->Prop
def OpR (X:Cx) (f:Value->Value->Sem Value) (r:R2):Prop :=
 ∀ (pins:List (Addr×Obj)) (s:Shared) (U:St) (H:Hp) (x y:V) (v u:Value) (Q:VK),Inv X pins U H s->RelV x v->RelV y u->r x y H Q ->
  wpAny (model X.prog X.w) X.A (f v u) (EP X pins U Q) X.xe s
def UnR (X:Cx) (f:Value->Sem Value) (r:V->Hp->VK->Prop):Prop :=
 ∀ (pins:List (Addr×Obj)) (s:Shared) (U:St) (H:Hp) (x:V) (v:Value) (Q:VK),Inv X pins U H s->RelV x v->r x H Q ->
  wpAny (model X.prog X.w) X.A (f v) (EP X pins U Q) X.xe s
def b7 (X:Cx) (f:Value) (r:List V->Hp->VK->Prop):Prop :=
 ∀ (pins:List (Addr×Obj)) (s:Shared) (U:St) (H:Hp) (xs:List V) (us:List Value) (Q:VK),Inv X pins U H s->Vals xs us->r xs H Q ->
  wpAny (model X.prog X.w) X.A (call f us) (EP X pins U Q) X.xe s
def tOp (r:R2) (ta tb:TE):TE:=λU H Q=>ta U H λx H1=>tb U H1 λy H2=>r x y H2 Q
def tUn (r:V->Hp->VK->Prop) (ta:TE):TE:=λU H Q=>ta U H λx H1=>r x H1 Q
def rI (C:Int->Int->Prop) (g:Int->Int->V):R2:=λx y H Q=>∃ i j,x=.int i/\y=.int j/\C i j/\Q (g i j) H
def rI0 (g:Int->Int->V):R2:=λx y H Q=>∃ i j,x=.int i/\y=.int j/\Q (g i j) H
def rU (g:Int->V):V->Hp->VK->Prop:=λx H Q=>∃ i,x=.int i/\Q (g i) H
section
variable {X:Cx} {a b c:Expr} {ta tb tc:TE} {pos:Pos}
theorem E5 (ha:PE X a ta) (e:PE X b tb) {R:V->V->Hp->Prop} (I:Inv X pins U H s) (h:ta U H λx H1=>tb U H1 λy H2=>R x y H2) {f:Value->Value->Sem Value} (hf:∀ v u s2 x y H2,Inv X pins U H2 s2->RelV x v->RelV y u->R x y H2->wpAny (model X.prog X.w) X.A (f v u) Q X.xe s2) :
  wpAny (model X.prog X.w) X.A (eval a X.env) (λv j=>wpAny (model X.prog X.w) X.A (eval b X.env) (λu J=>wpAny (model X.prog X.w) X.A (f v u) Q X.xe J) X.xe j) X.xe s:=by
 refine thn (ha pins s U H _ I h) λv s1 #[x,H1,l,d,i]=>?_
 refine thn (e pins s1 U H1 _ l i) λu s2 #[y,H2,k,c,g]=>?_
 exact hf v u s2 x y H2 k d c g
theorem pe_op (d:OpR X (binaryOp op) r) (ha:PE X a ta) (e:PE X b tb):PE X (.BinOp a op b pos) (tOp r ta tb):=by
 intro pins s U H Q I h
 exact wpAny_BinOp (E5 ha e I h λv u s2 x y H2 g c f q=>d pins s2 U H2 x y v u Q g c f q)
theorem pe_un (b:UnR X (unaryOp op) r) (ha:PE X a ta):PE X (.UnaryOp op a pos) (tUn r ta):=by
 intro pins s U H Q I h
 exact UnaryOp_ (thn (ha pins s U H _ I h) λv s1 #[x,H1,d,c,e]=>b pins s1 U H1 x v Q d c e)
theorem opI {g:Int->Int->Int} (rule:∀ (i j:Int) (t u:Tok) (s:Shared) (Q:Value->Shared->Prop) (E:Value->Shared->Prop),C i j->Q (.int (g i j) s.toks) { s with toks:=s.toks+1 }->wpAny (model X.prog X.w) X.A (f (.int i t) (.int j u)) Q E s) :
  OpR X f (rI C λi j=>.int (g i j)):=by
 intro pins s U H x y v u Q I a b h
 obtain ⟨i,j,rfl,rfl,c,q⟩:=h
 obtain ⟨t,rfl⟩:=a
 obtain ⟨t',rfl⟩:=b
 exact rule i j t t' s _ _ c #[.int (g i j),H,I.tok _,#[_,rfl],q]
theorem opI0 {g:Int->Int->Int} (rule:∀ (i j:Int) (t u:Tok) (s:Shared) (Q:Value->Shared->Prop) (E:Value->Shared->Prop),Q (.int (g i j) s.toks) { s with toks:=s.toks+1 }->wpAny (model X.prog X.w) X.A (f (.int i t) (.int j u)) Q E s) :
  OpR X f (rI0 λi j=>.int (g i j)):=by
 intro pins s U H x y v u Q I a b h
 obtain ⟨i,j,rfl,rfl,q⟩:=h
 obtain ⟨t,rfl⟩:=a
 obtain ⟨t',rfl⟩:=b
 exact rule i j t t' s _ _ #[.int (g i j),H,I.tok _,#[_,rfl],q]
theorem Eb {g:Int->Int->Bool} (rule:∀ (i j:Int) (t u:Tok) (s:Shared) (Q:Value->Shared->Prop) (E:Value->Shared->Prop),Q (.bool (g i j)) s->wpAny (model X.prog X.w) X.A (f (.int i t) (.int j u)) Q E s) :
  OpR X f (rI0 λi j=>.bl (g i j)):=by
 intro pins s U H x y v u Q I a b h
 obtain ⟨i,j,rfl,rfl,q⟩:=h
 obtain ⟨t,rfl⟩:=a
 obtain ⟨t',rfl⟩:=b
 exact rule i j t t' s _ _ #[.bl (g i j),H,I,rfl,q]
def vM (i j:Int):Prop:=0 < j/\j < 1073741824
def zj (i j:Int):Prop:=0<=j/\j<=1000000/\i.natAbs < 2 ^ 64
def CMul (i j:Int):Prop:=(-(2 ^ 64) < i/\i < 2 ^ 64)\/(-(2 ^ 64) < j/\j < 2 ^ 64)
theorem CMul.ok {i j:Int} (h:CMul i j):IntMulOk i j:=by
 rcases h with ⟨h1,h2⟩ | ⟨h1,h2⟩
 .exact .of_left (intBits_le_64 h1 h2)
 .exact .of_right (intBits_le_64 h1 h2)
theorem op_add:OpR X (binaryOp .Add) (rI0 λi j=>.int (i+j)):=opI0 λ_ _ _ _ _ _ _ q=>add_int q
theorem DW:OpR X (binaryOp .Sub) (rI0 λi j=>.int (i - j)):=opI0 λ_ _ _ _ _ _ _ q=>sub_int q
theorem op_mul:OpR X (binaryOp .Mult) (rI CMul λi j=>.int (i * j)):=opI λ_ _ _ _ _ _ _ a q=>mul_int q a.ok
theorem DZ:OpR X (binaryOp .Mod) (rI (λ_ j=>0 < j) λi j=>.int (i % j)):=opI λi j _ _ _ _ _ a q=>by
 have h1:(0:Int) < j:=a
 exact mod_int' (by omega) (by rw[Int.fmod_eq_emod_of_nonneg i (by omega)];exact q)
theorem DX:OpR X (binaryOp .Pow) (rI zj λi j=>.int (i ^ j.toNat)):=opI λ_ _ _ _ _ _ _ a q=>pow_int_small a.1 a.2.1 a.2.2 q
theorem unI {g:Int->Int} (rule:∀ (i:Int) (t:Tok) (s:Shared) (Q:Value->Shared->Prop) (E:Value->Shared->Prop),Q (.int (g i) s.toks) { s with toks:=s.toks+1 }->wpAny (model X.prog X.w) X.A (f (.int i t)) Q E s) :
  UnR X f (rU λi=>.int (g i)):=by
 intro pins s U H x v Q I a h
 obtain ⟨i,rfl,q⟩:=h
 obtain ⟨t,rfl⟩:=a
 exact rule i t s _ _ #[.int (g i),H,I.tok _,#[_,rfl],q]
theorem Cl:UnR X (unaryOp .USub) (rU λi=>.int (-i)):=unI λ_ _ _ _ _ q=>neg_int q
end
def CY:V->V->Bool
 | .non,.non=>true | .non,.int _=>true | .int _,.non=>true | .non,.bl _=>true | .bl _,.non=>true | .non,.str _=>true | .str _,.non=>true
 | .int _,.int _=>true | .bl _,.bl _=>true | .str _,.str _=>true | .byt _,.byt _=>true
 | .int _,.str _=>true | .str _,.int _=>true | .bl _,.str _=>true | .str _,.bl _=>true
 | _,_=>false
def rEq:R2:=λx y H Q=>CY x y=true/\Q (.bl (decide (x=y))) H
def rNe:R2:=λx y H Q=>CY x y=true/\Q (.bl (!decide (x=y))) H
theorem tX {i j:Int}:decide (V.int i=V.int j)=(i == j):=by
 rw[Bool.eq_iff_iff]
 simp
theorem yJ:decide (V.bl i=V.bl j)=(i == j):=by
 rw[Bool.eq_iff_iff]
 simp
theorem tW:decide (V.str i=V.str j)=(i == j):=by
 rw[Bool.eq_iff_iff]
 simp
theorem tY:decide (V.byt i=V.byt j)=(i.toList == j.toList):=by
 rw[Bool.eq_iff_iff]
 cases i
 cases j
 simp
section
variable {X:Cx} {a b c:Expr} {ta tb tc:TE} {pos:Pos}
theorem aR (I:Inv X pins U H s) (q:Q (.bl k) H) (e:k=k'):EP X pins U Q (.bool k') s:=by
 subst e
 exact #[.bl k,H,I,rfl,q]
theorem op_eq:OpR X (compareOp .Eq) rEq:=by
 intro pins s U H x y v u Q I c a h
 obtain ⟨b,q⟩:=h
 cases x with
 | non =>
  cases c
  cases y with
  | non=>cases a;exact PySem.EqNone.eq_none_none (aR I q (by simp))
  | bl j=>cases a;exact PySem.EqNone.eq_none_bool (aR I q (by simp))
  | int j=>obtain ⟨t',rfl⟩:=a;exact PySem.EqNone.eq_none_int (aR I q (by simp))
  | str j=>obtain ⟨t',rfl⟩:=a;exact PySem.EqNone.eq_none_str (aR I q (by simp))
  | _=>exact absurd (show false=true from b) FC
 | bl i =>
  cases c
  cases y with
  | non=>cases a;exact PySem.EqNone.eq_bool_none (aR I q (by simp))
  | bl j=>cases a;exact eq_bool (aR I q yJ)
  | str j=>obtain ⟨t',rfl⟩:=a;exact PySem.EqMixed.eq_bool_str (aR I q (by simp))
  | _=>exact absurd (show false=true from b) FC
 | int i =>
  obtain ⟨t,rfl⟩:=c
  cases y with
  | non=>cases a;exact PySem.EqNone.eq_int_none (aR I q (by simp))
  | int j=>obtain ⟨t',rfl⟩:=a;exact eq_int (aR I q tX)
  | str j=>obtain ⟨t',rfl⟩:=a;exact PySem.EqMixed.eq_int_str (aR I q (by simp))
  | _=>exact absurd (show false=true from b) FC
 | str i =>
  obtain ⟨t,rfl⟩:=c
  cases y with
  | non=>cases a;exact PySem.EqNone.eq_str_none (aR I q (by simp))
  | bl j=>cases a;exact PySem.EqMixed.eq_str_bool (aR I q (by simp))
  | int j=>obtain ⟨t',rfl⟩:=a;exact PySem.EqMixed.eq_str_int (aR I q (by simp))
  | str j=>obtain ⟨t',rfl⟩:=a;exact eq_str (aR I q tW)
  | _=>exact absurd (show false=true from b) FC
 | byt i =>
  obtain ⟨t,rfl⟩:=c
  cases y with
  | byt j=>obtain ⟨t',rfl⟩:=a;exact PySem.W.eq_bytes (aR I q tY)
  | _=>exact absurd (show false=true from b) FC
 | _=>cases y <;> exact absurd (show false=true from b) FC
theorem op_ne:OpR X (compareOp .NotEq) rNe:=by
 intro pins s U H x y v u Q I c a h
 obtain ⟨b,q⟩:=h
 cases x with
 | non =>
  cases c
  cases y with
  | non=>cases a;exact PySem.EqNone.ne_none_none (aR I q (by simp))
  | bl j=>cases a;exact PySem.EqNone.ne_none_bool (aR I q (by simp))
  | int j=>obtain ⟨t',rfl⟩:=a;exact PySem.EqNone.ne_none_int (aR I q (by simp))
  | str j=>obtain ⟨t',rfl⟩:=a;exact PySem.EqNone.ne_none_str (aR I q (by simp))
  | _=>exact absurd (show false=true from b) FC
 | bl i =>
  cases c
  cases y with
  | non=>cases a;exact PySem.EqNone.ne_bool_none (aR I q (by simp))
  | bl j=>cases a;exact ne_bool (aR I q (congrArg not yJ))
  | str j=>obtain ⟨t',rfl⟩:=a;exact PySem.EqMixed.ne_bool_str (aR I q (by simp))
  | _=>exact absurd (show false=true from b) FC
 | int i =>
  obtain ⟨t,rfl⟩:=c
  cases y with
  | non=>cases a;exact PySem.EqNone.ne_int_none (aR I q (by simp))
  | int j=>obtain ⟨t',rfl⟩:=a;exact ne_int (aR I q (congrArg not tX))
  | str j=>obtain ⟨t',rfl⟩:=a;exact PySem.EqMixed.ne_int_str (aR I q (by simp))
  | _=>exact absurd (show false=true from b) FC
 | str i =>
  obtain ⟨t,rfl⟩:=c
  cases y with
  | non=>cases a;exact PySem.EqNone.ne_str_none (aR I q (by simp))
  | bl j=>cases a;exact PySem.EqMixed.ne_str_bool (aR I q (by simp))
  | int j=>obtain ⟨t',rfl⟩:=a;exact PySem.EqMixed.ne_str_int (aR I q (by simp))
  | str j=>obtain ⟨t',rfl⟩:=a;exact ne_str (aR I q (congrArg not tW))
  | _=>exact absurd (show false=true from b) FC
 | byt i =>
  obtain ⟨t,rfl⟩:=c
  cases y with
  | byt j=>obtain ⟨t',rfl⟩:=a;exact PySem.W.ne_bytes (aR I q (congrArg not tY))
  | _=>exact absurd (show false=true from b) FC
 | _=>cases y <;> exact absurd (show false=true from b) FC
theorem BQ:OpR X (compareOp .Lt) (rI0 λi j=>.bl (decide (i < j))):=Eb λ_ _ _ _ _ _ _ q=>lt_int q
theorem pR:OpR X (compareOp .LtE) (rI0 λi j=>.bl (decide (i<=j))):=Eb λ_ _ _ _ _ _ _ q=>le_int q
theorem BR:OpR X (compareOp .Gt) (rI0 λi j=>.bl (decide (j < i))):=Eb λ_ _ _ _ _ _ _ q=>gt_int q
theorem xq:OpR X (compareOp .Is) (λx y H Q=>y=.non /\ Q (.bl (decide (x=.non))) H):=by
  intro pins s U H x y v u Q I a b h
  obtain ⟨rfl,q⟩:=h
  cases b
  refine is_none_gen (aR I q ?_)
  cases x <;> first
    | (cases a; rfl)
    | (obtain ⟨t,rfl⟩:=a; rfl)
theorem AC:OpR X (compareOp .IsNot) (λx y H Q=>y=.non /\ Q (.bl (!decide (x=.non))) H):=by
  intro pins s U H x y v u Q I a b h
  obtain ⟨rfl,q⟩:=h
  cases b
  refine isnot_none_gen (aR I q ?_)
  cases x <;> first
    | (cases a; rfl)
    | (obtain ⟨t,rfl⟩:=a; rfl)
theorem OpR.or (h:OpR X f r) (h':OpR X f r'):OpR X f (λx y H Q=>r x y H Q\/r' x y H Q):=by
 intro pins s U H x y v u Q I a b q
 rcases q with q | q
 .exact h pins s U H x y v u Q I a b q
 .exact h' pins s U H x y v u Q I a b q
theorem dS (b:Expr) (h:op≠.In:=by decide) (h2:op≠.NotIn:=by decide):behindInMarks op b=false:=by
  have e1:(op == CmpOp.In)=false:=by cases op <;> first | rfl | exact absurd rfl h
  have a:(op == CmpOp.NotIn)=false:=by cases op <;> first | rfl | exact absurd rfl h2
  cases b <;> simp[behindInMarks,e1,a]
theorem AA (d:OpR X (compareOp op) r) (ha:PE X a ta) (e:PE X b tb) (hm:behindInMarks op b=false):PE X (.Compare a [op] [b] pos) (tOp r ta tb):=by
 intro pins s U H Q I h
 exact wpAny_Compare1 (E5 ha e I h λv u s2 x y H2 g c f q=>d pins s2 U H2 x y v u Q g c f q) hm
def tTest (t:TE):TT:=λU H Q=>t U H λx H'=>∃ k,x=.bl k/\Q k H'
theorem As (i:OpR X (compareOp op) r) (ha:PE X a ta) (l:PE X b tb) (hm:behindInMarks op b=false):PT X (.Compare a [op] [b] pos) (tTest (tOp r ta tb)):=by
 intro pins s U H Q I h
 refine wpAny_isTrue_Compare1 (thn (ha pins s U H _ I h) λv s1 #[x,H1,t,j,o]=>thn (l pins s1 U H1 _ t o) λu s2 #[y,H2,n,f,m] =>
  thn (i pins s2 U H2 x y v u _ n j f m) λc s3 #[z,d,q,g,k,e,p]=>?_) hm
 subst e
 cases g
 exact FZ #[d,q,p]
def qP (r d:R2) (ta tb tc:TE):TE:=λU H Q=>ta U H λx H1=>tb U H1 λy H2=>r x y H2 λz a=>∃ k,z=.bl k /\
 (if k=true then tc U a λb c=>d y b c Q else Q (.bl false) a)
theorem xm (o:OpR X (compareOp op) r) (f:OpR X (compareOp op') r') (ha:PE X a ta) (p:PE X b tb) (t:PE X c tc) (hm:lastMarks [op,op'] [b,c]=false:=by with_unfolding_all rfl):PE X (.Compare a [op,op'] [b,c] pos) (qP r r' ta tb tc):=by
 intro pins s U H Q I h
 refine Compare_chain (thn (ha pins s U H _ I h) λv s1 #[x,H1,J,C,D]=>chain_link (thn (p pins s1 U H1 _ J D) λu s2 #[y,H2,w,i,q] =>
  thn (o pins s2 U H2 x y v u _ w C i q) λd s3 #[z,g,l,n,k,e,j]=>?_)) hm
 subst e
 cases n
 refine FZ ?_
 cases k with
 | false=>exact ite_ff #[.bl false,g,l,rfl,j]
 | true=>exact ite_tt (chain_last (thn (t pins s3 U g _ l j) λm s4 #[E,A,B,F,G]=>f pins s4 U A y E u m Q B i F G))
theorem lf:(sizeLine:Nat) < 2 ^ 63:=by rw[sizeLine_eq];decide
theorem op_add_str:OpR X (binaryOp .Add) (λx y H Q=>∃ i j,x=.str i/\y=.str j/\i.length+j.length<=sizeLine/\Q (.str (i++j)) H):=by
 intro pins s U H x y v u Q I a b h
 obtain ⟨i,j,rfl,rfl,hz,q⟩:=h
 obtain ⟨t,rfl⟩:=a
 obtain ⟨t',rfl⟩:=b
 exact add_str (λt' tk=>#[.str (i++j),H,I.tok _,#[_,rfl],q]) hz
theorem cH (r:Vals [x] us):∃ u,us=[u]/\RelV x u:=by
 cases r with
 | cons r1 r2=>cases r2;exact #[_,rfl,r1]
theorem j0 (r:Vals [x,y] us):∃ u j,us=[u,j]/\RelV x u/\RelV y j:=by
 cases r with
 | cons r1 r2 =>
  cases r2 with
  | cons r3 r4=>cases r4;exact #[_,_,rfl,r1,r3]
theorem yW:b7 X (.builtin "abs") (λxs H Q=>∃ i,xs=[.int i]/\Q (.int (if i < 0 then -i else i)) H):=by
 intro pins s U H xs us Q I r h
 obtain ⟨i,rfl,q⟩:=h
 obtain ⟨u,rfl,t,rfl⟩:=cH r
 exact call_abs_int λu tk=>#[.int (if i < 0 then -i else i),H,I.tok _,#[_,rfl],q]
theorem vw (b:X.calm=true):b7 X (.builtin "max") (λxs H Q=>∃ i j,xs=[.int i,.int j]/\Q (.int (if j > i then j else i)) H):=by
 intro pins s U H xs us Q I r h
 obtain ⟨i,j,rfl,q⟩:=h
 obtain ⟨u,c,rfl,⟨t,rfl⟩,⟨t',rfl⟩⟩:=j0 r
 refine max_two_ints (I.ok.hd b) λh' tk k=>#[_,H,I.kept k,?_,q]
 by_cases a:j > i
 .rw[if_pos a,if_pos a];exact #[_,rfl]
 .rw[if_neg a,if_neg a];exact #[_,rfl]
theorem vv (b:X.calm=true):b7 X (.builtin "min") (λxs H Q=>∃ i j,xs=[.int i,.int j]/\Q (.int (if j < i then j else i)) H):=by
 intro pins s U H xs us Q I r h
 obtain ⟨i,j,rfl,q⟩:=h
 obtain ⟨u,c,rfl,⟨t,rfl⟩,⟨t',rfl⟩⟩:=j0 r
 refine min_two_ints (I.ok.hd b) λh' tk k=>#[_,H,I.kept k,?_,q]
 by_cases a:j < i
 .rw[if_pos a,if_pos a];exact #[_,rfl]
 .rw[if_neg a,if_neg a];exact #[_,rfl]
theorem vB:b7 X (.type "int") (λxs H Q=>(∃ i,xs=[.int i]/\Q (.int i) H)\/∃ k,xs=[.bl k]/\Q (.int (if k then 1 else 0)) H):=by
 intro pins s U H xs us Q I r h
 rcases h with ⟨i,rfl,q⟩ | ⟨k,rfl,q⟩
 .obtain ⟨u,rfl,t,rfl⟩:=cH r
  exact call_int_int #[.int i,H,I,#[_,rfl],q]
 .obtain ⟨u,rfl,a⟩:=cH r
  cases a
  exact call_int_bool #[.int (if k then 1 else 0),H,I.tok _,#[_,rfl],q]
theorem qF:b7 X (.builtin "divmod") (λxs H Q=>∃ i j,xs=[.int i,.int j]/\vM i j/\∀ p,H p=none->Q (.ref p) (upd H p (.tup [.int (i / j),.int (i % j)]))):=by
 intro pins s U H xs us Q I r h
 obtain ⟨i,j,rfl,⟨h1,h2⟩,q⟩:=h
 obtain ⟨u,c,rfl,⟨t,rfl⟩,⟨t',rfl⟩⟩:=j0 r
 refine divmod_int (by omega) ?_ (.inl (PyProof.noPylong_small (by omega)))
 rw[Int.fdiv_eq_ediv_of_nonneg i (by omega),Int.fmod_eq_emod_of_nonneg i (by omega)]
 have a:H s.heap.objs.size=none:=I.hok.fresh (FA _)
 refine #[.ref s.heap.objs.size,_,?_,rfl,q _ a]
 refine I.laid (λb o e=>Fg _ e) (FA _) #[by simp only[FO,List.length_nil];rw[sizeLine_eq];decide,[.int (i / j) s.toks,.int (i % j) (s.toks+1)],.cons #[_,rfl] (.cons #[_,rfl] .nil),?_]
 exact #[_,Fs s.heap rfl,rfl,0,rfl]
end
end L2
namespace L2
open PySem PySem.Spec PyProof.Rows
theorem RelO.some_of (r:RelO (some v) o):∃ u,o=some u/\RelV v u:=by
 cases o with
 | none=>exact (show False from r).elim
 | some u=>exact #[u,rfl,r]
section
variable {X:Cx} {pins:List (Addr×Obj)} {U:St} {H:Hp} {s:Shared} {a C dx:Addr} {fs:List (Str×V)} {f:Str} {v:V} {A:Around} {E:Value->Shared->Prop}
theorem Bx (a:attributeBase e f env (eval e env)=eval e env) (h:wpAny (model prog w) A (eval e env) (λo j=>wpAny (model prog w) A (getAttr o f true) Q E j) E s):wpAny (model prog w) A (eval (.Attribute e f pos) env) Q E s :=
 Attribute_any_ h (by rw[arm_eval_Attribute,a])
end
end L2
namespace L2
open PySem PySem.Spec PyProof.Rows
structure Room (k:Nat) (A:Around):Prop where
 hd:A.handled=none
 dp:A.depth+3 * k+5 < recursionLimit
 un:A.units+16 * k+200 < cLine
 gd:A.guards=some []
theorem Room.mono {j k:Nat} (r:Room k A) (h:j<=k):Room j A:=#[r.hd,by have:=r.dp;omega,by have:=r.un;omega,r.gd]
theorem Room.deeper {k:Nat} (r:Room (k+1) A) (env:Env):Room k (A.deeper env) :=
 #[r.hd,by have:=r.dp;show A.depth+1+3 * k+5 < _;omega,by have:=r.un;show A.units+3+16 * k+200 < _;omega,r.gd]
theorem Room.depth {k:Nat} (r:Room k A):A.depth < recursionLimit:=by have:=r.dp;omega
theorem Room.units {k:Nat} (r:Room k A):A.units+64 < cLine:=by have:=r.un;omega
def tNil:TA:=λ_ H Q=>Q [] H
def BH (ta:TE) (a:TA):TA:=λU H Q=>ta U H λx H1=>a U H1 λxs H2=>Q (x::xs) H2
section
variable {X:Cx} {e:Expr} {es:List Expr} {te:TE} {t:TA} {pos:Pos}
theorem nV:PA X [] tNil:=λ_ _ _ _ H Q I h=>Calls.spliced_nil #[[],H,I,.nil,h]
theorem ie (ha:PE X e te) (c:PA X es t) (b:starEach (e::es) X.env=(false,eval e X.env)::starEach es X.env:=by rfl):PA X (e::es) (BH te t):=by
 intro pos pins s U H Q I h
 rw[b]
 show wpAny _ _ (spliced ((false,eval e X.env)::backTo pos (starEach es X.env))) _ _ s
 refine Calls.spliced_cons (thn (ha pins s U H _ I h) λu s1 #[x,H1,j,d,i]=>?_)
 exact thn (c pos pins s1 U H1 _ j i) λus s2 #[xs,H2,g,a,f]=>#[x::xs,H2,g,.cons d a,f]
def tTup (t:TA):TE:=λU H Q=>t U H λxs H1=>xs.length<=sizeLine/\∀ p,H1 p=none->Q (.ref p) (upd H1 p (.tup xs))
def tLst (t:TA):TE:=λU H Q=>t U H λxs H1=>xs.length<=sizeLine/\∀ p,H1 p=none->Q (.ref p) (upd H1 p (.lst xs))
theorem xj (h:PA X es t):PE X (.Tuple es x1 pos) (tTup t):=by
 intro pins s U H Q I c
 refine wpAny_Tuple_spliced (thn (h pos pins s U H _ I c) λus s1 #[xs,H1,a,r,z,q]=>#[by rw[<- r.length];exact z,?_])
 have hf:H1 s1.heap.objs.size=none:=a.hok.fresh (FA _)
 refine #[.ref s1.heap.objs.size,upd H1 s1.heap.objs.size (.tup xs),a.laid (t':=s1.toks) (λb u e=>Fg _ e) (FA _) ?_,rfl,q _ hf]
 exact #[z,us,r,#[_,Fs _ rfl,rfl,_,rfl]]
theorem DN (h:PA X es t):PE X (.List es pos) (tLst t):=by
 intro pins s U H Q I c
 refine wpAny_List_spliced (thn (h pos pins s U H _ I c) λus s1 #[xs,H1,a,r,z,q]=>#[by rw[<- r.length];exact z,?_])
 have hf:H1 s1.heap.objs.size=none:=a.hok.fresh (FA _)
 refine #[.ref s1.heap.objs.size,upd H1 s1.heap.objs.size (.lst xs),a.laid (t':=s1.toks) (λb u e=>Fg _ e) (FA _) ?_,rfl,q _ hf]
 exact #[z,us,0,r,Fs _ rfl]
end
abbrev Sp:=List V->Hp->VK->XK->Prop
abbrev CXT:=List Env->Hp->Shared->XK->Value->Shared->Prop
structure Env0 (P:Program) (w:World) (K:FG) (mg:Str->Option Value) (base:Heap) (A:Around) (outer:List Env) (s:Shared) (H:Hp):Prop where
 frames:A.frames=some outer
 mod:Mod K mg base
 bs:∀ b o,base.get? b=some o->s.heap.get? b=some o/\H b=none
 bsz:base.objs.size<=s.heap.objs.size
 funs:s.heap.FunFrames base outer
 frf:∀ b∈frs outer,H b=none
 hok:HOk P w H s.heap
 bare:AllBare s.gens
def CE (outer:List Env) (P:Program) (w:World) (H:Hp) (s:Shared) (Q:VK) (u:Value) (s':Shared):Prop :=
 ∃ v H',s'.os=s.os/\AllBare s'.gens/\Un (frs outer) [] H H' s.heap s'.heap/\HOk P w H' s'.heap/\RelV v u/\Q v H'
def CR (CX:CXT) (outer:List Env) (P:Program) (w:World) (H:Hp) (s:Shared) (Q:VK) (E:XK) (r:Result) (s':Shared):Prop :=
 match r with
 | .ok (.ret u)=>CE outer P w H s Q u s'
 | .ok _=>False
 | .error e=>CX outer H s E e s'
structure FnOk (P:Program) (w:World) (K:FG) (mg:Str->Option Value) (base:Heap) (CX:CXT) (k:Nat) (f:Addr) (fd:FuncData) (ps:List Str) (sp:Sp):Prop where
 len:∀ vs H Q E,sp vs H Q E->vs.length=ps.length
 run:∀ (A:Around) (outer:List Env) (s:Shared) (H:Hp) (args:Args) (us:List Value) (vs:List V) (Q:VK) (E:XK),Room k A->Env0 P w K mg base A outer s H->BindsTo s fd args (ps.zip us)->Vals vs us->sp vs H Q E ->
  codeAny (model P w) A (.call (.ref f) args) (CR CX outer P w H s Q E) s
theorem FnOk.imp {K:FG} {k:Nat} (F:FnOk P w K mg base CX k f fd ps sp) (h:∀ vs H Q E,sp' vs H Q E->sp vs H Q E):FnOk P w K mg base CX k f fd ps sp' :=
 #[λvs H Q E q=>F.len vs H Q E (h _ _ _ _ q),λA outer s H args us vs Q E a he b c d=>F.run A outer s H args us vs Q E a he b c (h _ _ _ _ d)]
section
variable {X:Cx} {pins:List (Addr×Obj)} {U:St} {H:Hp} {s s':Shared}
theorem Inv.env0 (I:Inv X pins U H s):Env0 X.prog X.w X.K X.mg X.base X.A X.stack s H :=
 #[I.ok.frames,I.ok.mod,I.bs,F1 I.ok.bsz I.sz,I.stack,I.stkFree,I.hok,I.bare]
theorem Inv.after (I:Inv X pins U H s) (h:CE X.stack X.prog X.w H s Q u s'):EP X pins U Q u s':=by
 obtain ⟨v,H',os,bare,un,hok,r,q⟩:=h
 obtain ⟨c,g,d,t,a⟩:=s'
 obtain rfl:a=s.os:=os
 exact #[v,H',I.call (h':=c) (g':=g) (d':=d) (t':=t) (ch:=[]) un hok bare (λb z=>absurd z (by simp)),r,q]
end
def tCall (sp:Sp) (dvs:List V) (E:XK) (t:TA):TE:=λU H Q=>t U H λvs H1=>sp (vs++dvs) H1 Q E
def Binds (K:FG) (fd:FuncData) (ps:List Str) (ds:List Value):Prop :=
 ∀ (s:Shared) (us:List Value),K.In s.heap->(us++ds).length=ps.length->BindsTo s fd #[us,[]] (ps.zip (us++ds))
theorem Binds.all {K:FG} (h:∀ us:List Value,us.length=ps.length->bindArgs fd #[us,[]]=pure (ps.zip us)):Binds K fd ps []:=λs us _ hl=>by
 rw[List.append_nil] at hl ⊢
 exact .of_eq (h us hl)
def sC (CX:CXT) (X:Cx) (E:XK):Prop:=∀ (pins:List (Addr×Obj)) (U:St) (H:Hp) (s:Shared) (e:Value) (s':Shared),Inv X pins U H s->CX X.stack H s E e s'->X.xe e s'
section
variable {X:Cx} {CX:CXT} {k:Nat} {f C:Addr} {fd:FuncData} {ps:List Str} {sp:Sp} {dvs:List V} {ds:List Value} {E:XK} {x m:Str} {p pos apos:Pos} {e o:Expr} {es:List Expr} {ta:TE} {t:TA}
set_option tactic.hygienic true in
theorem C6 (F:FnOk X.prog X.w X.K X.mg X.base CX k f fd ps sp) (d:Room k X.A) (g:Binds X.K fd ps ds) (hd:Vals dvs ds) (c:sC CX X E) (I:Inv X pins U H s) (r:Vals vs us) (h:sp (vs++dvs) H Q E):wpAny (model X.prog X.w) X.A (call (.ref f) us) (EP X pins U Q) X.xe s:=by
 have b:Vals (vs++dvs) (us++ds):=r.append hd
 have hl:(us++ds).length=ps.length:=by rw[<- b.length];exact F.len _ _ _ _ h
 refine wpAny_call (codeAny_mono (F.run X.A X.stack s H #[us,[]] (us++ds) (vs++dvs) Q E d I.env0 (g s us I.kIn hl) b h) λr s' a=>?_)
 cases r with
 | error e=>exact c pins U H s e s' I a
 | ok fl =>
  cases fl with
  | ret u=>exact I.after a
  | next=>exact False.elim a
  | brk=>exact False.elim a
  | cont=>exact False.elim a
theorem AB (F:FnOk X.prog X.w X.K X.mg X.base CX k f fd ps sp) (g:Room k X.A) (j:Gl X x) (hm:X.mg x=some (.ref f)) (l:PySem.W.keepIn X.K (.ref f)=true) (i:Binds X.K fd ps ds) (hd:Vals dvs ds) (d:sC CX X E)
  (ha:PA X (e::es) t) (a:(x == ("__debug__":Str))=false:=by decide) (he:starEach (e::es) X.env=(false,eval e X.env)::starEach es X.env:=by rfl) (b:(backTo pos (starEach es X.env)).any (·.1)=false:=by rfl) :
  PE X (.Call (.Name x p) (e::es) [] pos) (tCall sp dvs E t):=by
 intro pins s U H Q I h
 refine wpAny_Call_Name_kw (io I j hm ?_ a)
 refine PySem.W.callWith_K (h₀:=X.base) I.ok.mod.kin l (thn (ha pos pins s U H _ I h) λus s1 #[vs,H1,c,r,q]=>#[c.kIn,?_]) he b
 exact C6 F g i hd d c r q
end
structure FnScope (N P:List Str) (sc:Scope):Prop where
 kind:sc.kind=.function
 co:sc.isCoroutine=false
 gen:sc.isGenerator=false
 nd:N.Nodup
 pre:N.take P.length=P
 par:∀ x∈P,sc.names.lookup x=some .local\/sc.names.lookup x=some .cell
 nofree:∀ y∈sc.names,y.2≠.free
theorem mY {kindOf:Str->Option NameKind}:∀ {binds:List (Str×Value)} {m:Str->Option Value},(∀ v,(x,v) ∉ binds)->bindL kindOf binds m x=m x
 | [],_,_=>rfl
 | (n,v)::r,m,h=>by
  unfold bindL
  rw[mY λw hw=>h w (Ff _ hw)]
  split
  .have:x≠n:=by rintro rfl;exact h v Fe
   simp[this]
  .rfl
theorem m4 {kindOf:Str->Option NameKind}:∀ {binds:List (Str×Value)} {m:Str->Option Value},(∀ v,(x,v) ∉ binds)->bindC kindOf binds m x=m x
 | [],_,_=>rfl
 | (n,v)::r,m,h=>by
  unfold bindC
  rw[m4 λw hw=>h w (Ff _ hw)]
  split
  .rfl
  .have:x≠n:=by rintro rfl;exact h v Fe
   simp[this]
theorem mZ {kindOf:Str->Option NameKind}:∀ {P:List Str} {vs:List Value} {i:Nat} {m:Str->Option Value},P.Nodup->P[i]?=some x->vs[i]?=some v->kindOf x=some .local ->
  bindL kindOf (P.zip vs) m x=some v
 | [],_,_,_,_,h,_,_=>by simp at h
 | _::_,[],_,_,_,_,h,_=>by simp at h
 | p::P,w::vs,0,m,nd,h1,h2,hk=>by
  simp at h1 h2;subst h1;subst h2
  show bindL kindOf ((p,w)::P.zip vs) m p=_
  unfold bindL
  rw[mY λv j=>(List.nodup_cons.mp nd).1 (List.of_mem_zip j).1,if_pos hk]
  simp
 | p::P,w::vs,i+1,m,nd,h1,h2,hk=>by
  show bindL kindOf ((p,w)::P.zip vs) m x=_
  unfold bindL
  exact mZ (i:=i) (List.nodup_cons.mp nd).2 (by simpa using h1) (by simpa using h2) hk
theorem m5 {kindOf:Str->Option NameKind}:∀ {P:List Str} {vs:List Value} {i:Nat} {m:Str->Option Value},P.Nodup->P[i]?=some x->vs[i]?=some v->kindOf x≠some .local ->
  bindC kindOf (P.zip vs) m x=some v
 | [],_,_,_,_,h,_,_=>by simp at h
 | _::_,[],_,_,_,_,h,_=>by simp at h
 | p::P,w::vs,0,m,nd,h1,h2,hk=>by
  simp at h1 h2;subst h1;subst h2
  show bindC kindOf ((p,w)::P.zip vs) m p=_
  unfold bindC
  rw[m4 λv j=>(List.nodup_cons.mp nd).1 (List.of_mem_zip j).1,if_neg hk]
  simp
 | p::P,w::vs,i+1,m,nd,h1,h2,hk=>by
  show bindC kindOf ((p,w)::P.zip vs) m x=_
  unfold bindC
  exact m5 (i:=i) (List.nodup_cons.mp nd).2 (by simpa using h1) (by simpa using h2) hk
def fE (N:List Str) (vs:List V):St:=vs.map some++List.replicate (N.length - vs.length) none
def dD (CX:CXT) (P:Program) (w:World) (K:FG) (mg:Str->Option Value) (base:Heap) (N:List Str) (qual:Str) (scope:Scope) (f:Addr) (cd:Value) (A:Around) (outer:List Env) (s:Shared) (H:Hp) (E:XK):Cx where
 prog:=P
 w:=w
 K:=K
 mg:=mg
 base:=base
 A:=A.deeper (envOfC qual scope s.heap.objs.size f cd)
 N:=N
 s₀:=s
 H₀:=H
 env:=envOfC qual scope s.heap.objs.size f cd
 outer:=outer
 stack:=envOfC qual scope s.heap.objs.size f cd::outer
 ex:=[]
 calm:=true
 fn:=λ_=>true
 pn:=[]
 xe:=λe s'=>wpAny (model P w) (A.deeper (envOfC qual scope s.heap.objs.size f cd)) (leaving (envOfC qual scope s.heap.objs.size f cd) e) (λ_ a=>CX outer H s E e a) (λb a=>CX outer H s E b a) s'
theorem qD {sc:Scope} {n:Nat} (h:sc.names.lookup x=some .cell):∃ c,(cellsFrom n sc.names []).lookup x=some c:=by
 have q:=PySem.W.cellsFrom_some sc.names n [] (.inl h)
 exact Option.isSome_iff_exists.mp q
theorem mM {K:FG} (S:FnScope N ps scope) (hd:A.handled=none) (d:Env0 P w K mg base A outer s H) (hl:vs.length=ps.length) (r:Vals vs us) (x:InCallC s s.heap.objs.size (bindL (envOfC qual scope s.heap.objs.size f cd).kindOf (ps.zip us) λ_=>none) (cellsFrom (s.heap.objs.size+1) scope.names []) (bindC (envOfC qual scope s.heap.objs.size f cd).kindOf (ps.zip us) λ_=>none) s1) :
  Inv (dD CX P w K mg base N qual scope f cd A outer s H E) [] (fE N vs) H s1:=by
 have B:ps.length<=N.length:=by have:=congrArg List.length S.pre;rw[FP] at this;omega
 obtain ⟨h1,tk,rfl,o⟩:=x.done
 have j:∀ b:Addr,b ∉ (dD CX P w K mg base N qual scope f cd A outer s H E).ex:=λb z=>absurd (show b∈([]:List Addr) from z) (by simp)
 refine ⟨⟨d.mod,S.kind,rfl,rfl,FA _,λy z c h1 h2=>?_,λy g=>?_,λy c _ h=>?_,λ_=>hd,Around.frames_deeper d.frames,.inr ⟨rfl,rfl⟩,λb z=>absurd z (j b),d.bs,d.bsz,λb _ _=>j b,λb z=>absurd z (j b),d.funs,d.frf⟩,
  rfl,d.bare,Un.kept o,⟨_,x.toInCall.ns,λi y v h1 h2 h3=>?_⟩,λy c h=>⟨_,x.cell y c h⟩,d.hok.fresh (FA _),λy c h=>?_,λp l=>absurd (show p∈([]:List (Addr×Obj)) from l) (by simp),d.hok.kept o,?_⟩
 .exact name_of_addr x.apart (PySem.mem_of_lookup h1) (PySem.mem_of_lookup h2)
 .have g:scope.names.lookup y=some .cell\/scope.names.lookup y=some .free:=g
  rcases g with g | g
  .exact qD g
  .exact absurd rfl (S.nofree _ (PySem.mem_of_lookup g))
 .exact Nat.le_of_lt (x.above y c (PySem.mem_of_lookup h))
 .have hi:i < vs.length:=by
   unfold fE at h2
   by_cases hi:i < vs.length
   .exact hi
   .rw[List.getElem?_append_right (by simpa using hi)] at h2
    rw[List.getElem?_replicate] at h2
    split at h2 <;> cases h2
  have ha:vs[i]?=some v:=by
   unfold fE at h2
   rw[FW (by simpa using hi),Fz] at h2
   cases e:vs[i]? with
   | none=>rw[e] at h2;cases h2
   | some a=>rw[e] at h2;cases h2;rfl
  obtain ⟨u,hu,t⟩:=r.get ha
  have l:ps[i]?=some y:=by
   rw[<- S.pre,List.getElem?_take_of_lt (by omega)];exact h1
  have m:ps.Nodup:=by rw[<- S.pre];exact S.nd.sublist (List.take_sublist _ _)
  refine #[u,t,?_]
  rcases S.par y (Fv l) with k | k
  .exact .inl #[k,mZ m l hu k]
  .obtain ⟨c,e⟩:=qD (n:=s.heap.objs.size+1) k
   refine .inr #[.inl k,c,e,?_]
   have q:=x.cell y c e
   rw[m5 m l hu (by show scope.names.lookup y≠_;rw[k];decide)] at q
   exact q
 .exact d.hok.fresh (Nat.le_of_lt (x.above y c (PySem.mem_of_lookup h)))
 .unfold fE
  show _=N.length
  rw[FN,Ft,List.length_replicate]
  lia
set_option tactic.hygienic true in
theorem B8 {K:FG} {k:Nat} {p kV doc pm a ct F:Value} (D:K.lookup f=some #[F,od,.func (PySem.W.fnOf name qual params body scope p kV doc pm an a ct),osl]) (m:PySem.W.codeIn K a qual=true) (S:FnScope N ps scope) (len:∀ vs H Q E,sp vs H Q E->vs.length=ps.length) (c:∀ (A:Around) (outer:List Env) (s:Shared) (H:Hp) (vs:List V) (Q:VK) (E:XK),Room k (A.deeper (envOfC qual scope s.heap.objs.size f a))->sp vs H Q E ->
   ∃ t,PSs (dD CX P w K mg base N qual scope f a A outer s H E) body t/\t { nx:=λ_ H'=>Q .non H',rt:=Q } (fE N vs) H) :
  FnOk P w K mg base CX (k+1) f (PySem.W.fnOf name qual params body scope p kV doc pm an a ct) ps sp:=by
 refine #[len,λA outer s H args us vs Q E j i B r h=>?_]
 have hl:=len _ _ _ _ h
 have z:K.In s.heap:=i.mod.kin.keeps λb o e=>(i.bs b o e).1
 have lim:s.heap.NoLimit:=i.mod.nolimit.keeps λb o e=>(i.bs b o e).1
 have d:∀ y∈ps.zip us,scope.names.lookup y.1=some .local\/(scope.names.lookup y.1=some .cell/\((cellsFrom (s.heap.objs.size+1) scope.names []).lookup y.1).isSome=true):=λ#[n,v] L=>by
  rcases S.par n (List.of_mem_zip L).1 with q | q
  .exact .inl q
  .exact .inr #[q,PySem.W.cellsFrom_some _ _ _ (.inl q)]
 refine codeAny_call_function j.depth (z _ _ D) rfl S.co S.gen rfl (PySem.W.codeRec_of z m) (B _ _ _ _ ?_)
 refine wpAny_newFunctionEnv_cells S.kind d λenv he s1 x=>?_
 subst he
 refine #[lim.keeps x.toInCall.keep,codeAny_func ?_]
 obtain ⟨t,G,C⟩:=c A outer s H vs Q E (j.deeper _) h
 have I:Inv (dD CX P w K mg base N qual scope f a A outer s H E) [] (fE N vs) H s1:=mM S j.hd i hl r x
 refine wpAny_mono (G [] s1 (fE N vs) H _ I C) (λfl s' g=>?_) λe s' g=>g
 have fin:∀ {U':St} {H':Hp} {v:V} {u:Value},Inv (dD CX P w K mg base N qual scope f a A outer s H E) [] U' H' s'->RelV v u->Q v H'->CE outer P w H s Q u s' :=
  λ{U' H' v u} J l q=>#[v,H',J.os,J.bare,J.base,J.hok,l,q]
 cases fl with
 | ret u =>
  obtain ⟨v,U',H',J,l,q⟩:=g
  exact fin J l q
 | next =>
  obtain ⟨U',H',J,q⟩:=g
  exact fin (v:=V.non) (u:=Value.none) J rfl q
 | brk =>
  obtain ⟨_,_,_,q⟩:=g
  exact False.elim q
 | cont =>
  obtain ⟨_,_,_,q⟩:=g
  exact False.elim q
end L2
namespace L2
open PySem PySem.Spec PyProof.Rows
section
variable {X:Cx} {x:Str} {p pos:Pos} {e:Expr} {es:List Expr} {t:TA} {id T:String} {r:List V->Hp->VK->Prop}
def tCB (r:List V->Hp->VK->Prop) (t:TA):TE:=λU H Q=>t U H λvs H1=>r vs H1 Q
theorem kZ (d:b7 X (.builtin id) r) (j:Gl X x) (hm:X.mg x=none) (i:bootBuiltins x=some (.builtin id)) (ha:PA X (e::es) t) (g:x≠"__name__":=by decide) (a:(x == ("__debug__":Str))=false:=by decide)
  (he:starEach (e::es) X.env=(false,eval e X.env)::starEach es X.env:=by rfl) (b:(backTo pos (starEach es X.env)).any (·.1)=false:=by rfl):PE X (.Call (.Name x p) (e::es) [] pos) (tCB r t):=by
 intro pins s U H Q I h
 refine wpAny_Call_Name_kw (jO I j hm i ?_ g a)
 exact PyProof.Rows.callWith_builtin1 (thn (ha pos pins s U H _ I h) λus s1 #[vs,H1,k,c,f]=>d pins s1 U H1 vs us Q k c f) he b
theorem uK (d:b7 X (.type T) r) (j:Gl X x) (hm:X.mg x=none) (i:bootBuiltins x=some (.type T)) (ha:PA X (e::es) t) (g:x≠"__name__":=by decide) (a:(x == ("__debug__":Str))=false:=by decide)
  (he:starEach (e::es) X.env=(false,eval e X.env)::starEach es X.env:=by rfl) (b:(backTo pos (starEach es X.env)).any (·.1)=false:=by rfl):PE X (.Call (.Name x p) (e::es) [] pos) (tCB r t):=by
 intro pins s U H Q I h
 refine wpAny_Call_Name_kw (jO I j hm i ?_ g a)
 exact PyProof.Rows.callWith_type1 (thn (ha pos pins s U H _ I h) λus s1 #[vs,H1,k,c,f]=>d pins s1 U H1 vs us Q k c f) he b
end
end L2
namespace HT
open PySem PyProof.Rows
def lexLt:List Int->List Int->Bool
 | [],[]=>false
 | [],_::_=>true
 | _::_,[]=>false
 | x::xs,y::ys=>if x=y then lexLt xs ys else decide (x < y)
section
variable {prog:Program} {w:World} {A:Around} {E:Value->Shared->Prop} {s:Shared}
theorem cat_tup (m:IsTup s.heap t vs.toArray) (l:IsTup s.heap b ws.toArray) (j:vs≠[]) (h1:ws=[]->Q (.ref t) s) (h2:ws≠[]->Q (.ref s.heap.objs.size) { s with heap:=s.heap.push { cls:=.type "tuple",data:=.seq (vs++ws).toArray } }) (hsz:vs.length+ws.length<=sizeLine):wpAny (model prog w) A (binaryOp .Add (.ref t) (.ref b)) Q E s:=by
 obtain ⟨⟨cls,dd,data,sl⟩,g,i,n,hd⟩:=id m
 obtain ⟨⟨k,c,data2,d⟩,a,f,h,hd2⟩:=id l
 simp only at i hd f hd2
 subst i hd f hd2
 have e:vs.toArray++ws.toArray=(vs++ws).toArray:=by simp
 by_cases hw:ws=[]
 .exact concat_meets #[_,g,rfl] #[_,a,rfl] noFill_tuple_add seq_tuple_add PySem.F.slot_tuple_add PySem.F.entry_tuple_add (PySem.F.args_tuple_add_2 _ _)
   (tuple_addW1 t b vs.toArray ws.toArray n h dd c sl d (by simpa using j) (by simp[hw])) #[g,a,h1 hw]
 .refine concat_meets #[_,g,rfl] #[_,a,rfl] noFill_tuple_add seq_tuple_add PySem.F.slot_tuple_add PySem.F.entry_tuple_add (PySem.F.args_tuple_add_2 _ _)
   (tuple_addW2 t b vs.toArray ws.toArray n h dd c sl d (by simpa using j) (by simpa using hw) (by rw[FE,FE];exact hsz)) #[g,a,?_]
  rw[e]
  exact h2 hw
def sIx (n d:Nat):Option Int->Nat
 | none=>d
 | some v=>if v < 0 then (v+(n:Int)).toNat else min v.toNat n
theorem CZ (n d:Nat) (hd:d<=n) (o:Option Int):sIx n d o<=n:=by
 cases o with
 | none=>exact hd
 | some v =>
  show (if v < 0 then (v+(n:Int)).toNat else min v.toNat n)<=n
  by_cases a:v < 0
  .rw[if_pos a];omega
  .rw[if_neg a];exact Nat.min_le_right _ _
theorem t6 (v:Int) (n d:Nat):(if v < 0 then max (v+(n:Int)) 0 else min v (n:Int))=((sIx n d (some v):Nat):Int):=by
 show (if v < 0 then max (v+(n:Int)) 0 else min v (n:Int))=(((if v < 0 then (v+(n:Int)).toNat else min v.toNat n):Nat):Int)
 by_cases a:v < 0
 .simp only[if_pos a];omega
 .simp only[if_neg a];omega
theorem sA (lo hi:Option Int) (n:Nat):Builtin.Slice.sliceAdjust lo hi 1 (n:Int)=(((sIx n 0 lo:Nat):Int),((sIx n n hi:Nat):Int)):=by
 have h1:¬ ((1:Int) < 0):=by omega
 unfold Builtin.Slice.sliceAdjust
 simp only[h1,if_false]
 refine Prod.ext ?_ ?_
 .cases lo with
  | none=>rfl
  | some v=>exact t6 v n 0
 .cases hi with
  | none=>rfl
  | some v=>exact t6 v n n
theorem rj (i j:Nat):Builtin.Slice.slicePlaces (i:Int) (j:Int) 1=j - i:=by
 unfold Builtin.Slice.slicePlaces
 have h1:(1:Int) > 0:=by omega
 simp only[h1,if_true,Int.ediv_one]
 split <;> lia
theorem kN (p:IsPart v o) (h:Q o s):wpAny (model prog w) A (Builtin.Slice.slicePartIndex v) Q E s:=by
 cases p with
 | none=>exact slicePart_none h
 | int i t=>exact slicePart_int h
theorem eK {sl:Addr} {c d:Value} {lo hi:Option Int} {n:Nat} (f:s.heap.IsSliceOf sl c d .none) (pl:IsPart c lo) (pu:IsPart d hi) (h:Q (((sIx n 0 lo:Nat):Int),1,sIx n n hi - sIx n 0 lo) s):wpAny (model prog w) A (Builtin.Slice.sliceApplied (.ref sl) (pure (n:Int))) Q E s:=by
 obtain ⟨os,a,e,b⟩:=id f
 unfold Builtin.Slice.sliceApplied Builtin.Slice.sliceFields
 refine Fb (Fb (wpAny_field a b (x:=c) rfl (Fb (wpAny_field a b (x:=d) rfl (Fb (wpAny_field a b (x:=.none) rfl (Fc ?_)))))))
 refine Fb (slicePart_none ?_)
 show wpAny _ _ (if ((1:Int) == 0)=true then _ else _) _ _ s
 rw[if_neg (by decide)]
 refine Fb (kN pl (Fb (kN pu (Fb (Fc ?_)))))
 show wpAny _ _ (match Builtin.Slice.sliceAdjust lo hi 1 (n:Int) with | (lo,hi)=>pure (lo,(1:Int),Builtin.Slice.slicePlaces lo hi 1)) _ _ s
 rw[sA lo hi n]
 show wpAny _ _ (pure (((sIx n 0 lo:Nat):Int),(1:Int),Builtin.Slice.slicePlaces ((sIx n 0 lo:Nat):Int) ((sIx n n hi:Nat):Int) 1)) _ _ s
 rw[rj]
 exact Fc h
theorem xi (xs:Array Value) (i k:Nat):((List.range k).filterMap λ(m:Nat)=>xs[((i:Int)+(m:Int) * 1).toNat]?).toArray=((xs.toList.drop i).take k).toArray:=by
 have e:(λ(m:Nat)=>xs[((i:Int)+(m:Int) * 1).toNat]?)=λm=>xs[i+m]?:=by
  funext m
  have:((i:Int)+(m:Int) * 1).toNat=i+m:=by omega
  rw[this]
 rw[e]
 have:=pick_run xs i k
 rw[List.filterMap_map] at this
 have a:((λx=>xs[x]?) ∘ λx=>i+x)=λm=>xs[i+m]?:=rfl
 rw[a] at this
 rw[this]
theorem getItem_tuple_cut {lo hi:Option Int} (b:IsTup s.heap t items) (g:s.heap.IsSliceOf sl vl vu .none) (pl:IsPart vl lo) (pu:IsPart vu hi) (hw:¬ (sIx items.size 0 lo=0/\sIx items.size items.size hi=items.size)) (h:Q (.ref s.heap.objs.size) { s with heap:=s.heap.push { cls:=.type "tuple",data:=.seq ((items.toList.drop (sIx items.size 0 lo)).take (sIx items.size items.size hi - sIx items.size 0 lo)).toArray } }) (hsz:items.size<=sizeLine):wpAny (model prog w) A (getItem (.ref t) (.ref sl)) Q E s:=by
 have a:sizeOk (.seq ((items.toList.drop (sIx items.size 0 lo)).take (sIx items.size items.size hi - sIx items.size 0 lo)).toArray):=by
  show ((items.toList.drop (sIx items.size 0 lo)).take (sIx items.size items.size hi - sIx items.size 0 lo)).toArray.size<=sizeLine
  rw[FE,FP,List.length_drop,Array.length_toList]
  lia
 have l:sIx items.size items.size hi<=items.size:=CZ _ _ (FA _) hi
 obtain ⟨os,d,c,i⟩:=id g
 have f:s.TypeIs (.ref sl) "slice":=#[os,d,c]
 unfold getItem
 try with_reducible refine Fd ?_
 first | refine Fb (Fc ?_) | skip
 refine Fb (wpAny_sequenceKey b.typeIs (by decide) ?_)
 refine Fb (wpAny_callSpecial?_slot (name:=Str.ofString "__getitem__") b.typeIs PyProof.Rows.slot_tuple_getitem
  (wpAny_call_entry PyProof.Rows.slot_tuple_getitem b.typeIs entry_tuple_getitem ?_ (args_tuple_getitem _ _)))
 show wpAny _ _ (Builtin.Tuple.tupleItemsOf (.ref t) >>= _) _ _ s
 refine Fb (tupleItemsOf_ b ?_)
 refine Fb (wpAny_typeOf f ?_)
 rw[if_pos (by decide)]
 refine Fb (eK g pl pu ?_)
 have e:¬ ((((sIx items.size 0 lo:Nat):Int) == 0 && (1:Int) == 1 && (sIx items.size items.size hi - sIx items.size 0 lo) == items.size)=true):=by
  intro q
  rw[Bool.and_eq_true,Bool.and_eq_true] at q
  have k:((sIx items.size 0 lo:Nat):Int)=0:=eq_of_beq q.1.1
  have j:sIx items.size items.size hi - sIx items.size 0 lo=items.size:=eq_of_beq q.2
  exact hw #[by omega,by omega]
 show wpAny _ _ (if (((sIx items.size 0 lo:Nat):Int) == 0 && (1:Int) == 1 && (sIx items.size items.size hi - sIx items.size 0 lo) == items.size)=true then _ else _) _ _ s
 rw[if_neg e,xi]
 first
  | exact Fb (m:=Builtin.Tuple.tupleExact _) (wpAny_newObj_type (Fc #[_,rfl,Fc h]) a)
  | exact Fb (m:=Builtin.Tuple.tupleExact _) (wpAny_newObj_type (Fb (Fc (Fc #[_,rfl,Fc h]))) a)
  | exact Fb (Fb (m:=Builtin.Tuple.tupleExact _) (wpAny_newObj_type (Fc (Fc #[_,rfl,Fc h])) a))
  | exact Fb (Fb (m:=Builtin.Tuple.tupleExact _) (wpAny_newObj_type (Fc #[_,rfl,Fc h]) a))
end
end HT
namespace L2
open PySem PySem.Spec PyProof.Rows
abbrev TO:=St->Hp->(Option Int->Hp->Prop)->Prop
def PO (X:Cx) (e:Option Expr) (t:TO):Prop :=
 ∀ (pins:List (Addr×Obj)) (s:Shared) (U:St) (H:Hp) (Q:Option Int->Hp->Prop),Inv X pins U H s->t U H Q ->
  wpAny (model X.prog X.w) X.A (evalPart e X.env) (λu s'=>∃ o H',Inv X pins U H' s'/\IsPart u o/\Q o H') X.xe s
def zx:TO:=λ_ H Q=>Q none H
def tPart (t:TE):TO:=λU H Q=>t U H λx H1=>∃ i,x=.int i/\Q (some i) H1
section
variable {X:Cx} {e:Expr} {te:TE} {lo hi:Option Expr} {tl th:TO} {pos p2:Pos}
theorem Ax:PO X none zx:=by
 intro pins s U H Q I h
 rw[evalPart_none]
 exact Fc #[none,H,I,.none,h]
theorem Aw (h:PE X e te):PO X (some e) (tPart te):=by
 intro pins s U H Q I hw
 rw[evalPart_some]
 refine thn (h pins s U H _ I hw) λu s1 #[x,H1,c,a,b]=>?_
 obtain ⟨i,rfl,q⟩:=b
 obtain ⟨t,rfl⟩:=a
 exact #[some i,H1,c,.int i t,q]
def SlR (X:Cx) (r:V->Option Int->Option Int->Hp->VK->Prop):Prop :=
 ∀ (pins:List (Addr×Obj)) (s:Shared) (U:St) (H:Hp) (x:V) (v a b:Value) (lo hi:Option Int) (sl:Addr) (Q:VK),Inv X pins U H s->RelV x v->s.heap.IsSliceOf sl a b .none->IsPart a lo->IsPart b hi->r x lo hi H Q ->
  ∃ T id,typeLookup (.type T) "__getitem__"=pure (some (.builtin id))/\s.TypeIs v T/\wpAny (model X.prog X.w) X.A (getItem v (.ref sl)) (EP X pins U Q) X.xe s
theorem SlR.or (h:SlR X r) (h':SlR X r'):SlR X (λx lo hi H Q=>r x lo hi H Q\/r' x lo hi H Q):=by
 intro pins s U H x v c b lo hi sl Q I a d pl pu q
 rcases q with q | q
 .exact h pins s U H x v c b lo hi sl Q I a d pl pu q
 .exact h' pins s U H x v c b lo hi sl Q I a d pl pu q
def tSl (r:V->Option Int->Option Int->Hp->VK->Prop) (te:TE) (tl th:TO):TE:=λU H Q=>te U H λx H1=>tl U H1 λl H2=>th U H2 λu a=>r x l u a Q
theorem pQ (n:SlR X r) (he:PE X e te) (hl:PO X lo tl) (hu:PO X hi th):PE X (.Subscript e (.Slice lo hi none p2) pos) (tSl r te tl th):=by
 intro pins s U H Q I h
 refine Subscript_ (thn (he pins s U H _ I h) λv s1 #[x,H1,z,o,p]=>?_)
 refine wpAny_Slice (thn (hl pins s1 U H1 _ z p) λc s2 #[l,H2,i,pl,g]=>thn (hu pins s2 U H2 _ i g) λa s3 #[u,d,y,pu,t]=>?_)
 rw[evalPart_none]
 refine Fc ?_
 have m:Inv X pins U d { s3 with heap:=s3.heap.push { cls:=.type "slice",data:=.fields (List.toArray [c,a,.none]) } }:=y.kept (t':=s3.toks) λb ob q=>Fg _ q
 obtain ⟨T,id,f,j,k⟩:=n pins { s3 with heap:=s3.heap.push { cls:=.type "slice",data:=.fields (List.toArray [c,a,.none]) } } U d x v c a l u s3.heap.objs.size Q m o (Heap.IsSliceOf.new ..) pl pu t
 show wpAny (model X.prog X.w) X.A (subscriptTail e (.Slice lo hi none p2) v (.ref s3.heap.objs.size)) (EP X pins U Q) X.xe { s3 with heap:=s3.heap.push { cls:=.type "slice",data:=.fields (List.toArray [c,a,.none]) } }
 exact tail_any (ops:=[.ref s3.heap.objs.size,v]) j f k (by with_unfolding_all rfl)
def qA (xs:List V) (lo hi:Option Int):List V:=(xs.drop (HT.sIx xs.length 0 lo)).take (HT.sIx xs.length xs.length hi - HT.sIx xs.length 0 lo)
theorem kb (xs:List V) (lo hi:Option Int):(qA xs lo hi).length<=xs.length:=by
 unfold qA
 rw[FP,List.length_drop]
 lia
def Dw (K:FG):V->Option Int->Option Int->Hp->VK->Prop:=λx lo hi H Q=>∃ a xs,x=.ref a/\SqT K H a xs /\
 ¬ (HT.sIx xs.length 0 lo=0/\HT.sIx xs.length xs.length hi=xs.length)/\∀ p,H p=none->Q (.ref p) (upd H p (.tup (qA xs lo hi)))
theorem sl_tup:SlR X (Dw X.K):=by
 intro pins s U H x v i g lo hi sl Q I e f pl pu h
 obtain ⟨a,xs,rfl,d,hw,q⟩:=h
 cases e
 obtain ⟨its,r,c,hz⟩:=I.tuple d
 have hlen:its.toArray.size=xs.length:=by rw[FE];exact r.length.symm
 refine #["tuple",_,PyProof.Rows.slot_tuple_getitem.lookup,c.typeIs,?_]
 refine HT.getItem_tuple_cut c f pl pu (by rw[hlen];exact hw) ?_ (by rw[hlen];exact hz)
 rw[hlen]
 refine #[.ref s.heap.objs.size,_,I.laid (t':=s.toks) (o:=.tup (qA xs lo hi)) (λb ob q=>Fg _ q) (FA _) ?_,rfl,q _ (I.hok.fresh (FA _))]
 exact #[F1 (kb xs lo hi) hz,_,(r.drop (HT.sIx xs.length 0 lo)).take (HT.sIx xs.length xs.length hi - HT.sIx xs.length 0 lo),IsTupD.new _ _]
def sT (K:FG):R2:=λx y H Q=>∃ a b xs ys,x=.ref a/\y=.ref b/\SqT K H a xs/\SqT K H b ys/\xs≠[]/\xs.length+ys.length<=sizeLine /\
 (ys=[]->Q (.ref a) H)/\(ys≠[]->∀ p,H p=none->Q (.ref p) (upd H p (.tup (xs++ys))))
theorem Vals.nil_iff (r:Vals xs us):us=[] ↔ xs=[]:=by
 cases r with
 | nil=>simp
 | cons _ _=>simp
theorem op_catT:OpR X (binaryOp .Add) (sT X.K):=by
 intro pins s U H x y v u Q I g k h
 obtain ⟨a,b,xs,ys,rfl,rfl,ha,i,f,hz,l,j⟩:=h
 cases g
 cases k
 obtain ⟨its,d,m,_⟩:=I.tuple ha
 obtain ⟨e,c,p2,_⟩:=I.tuple i
 refine HT.cat_tup m p2 (λz=>f (d.nil_iff.mp z)) (λz=>#[.ref a,H,I,rfl,l (c.nil_iff.mp z)]) (λz=>?_) (by rw[<- d.length,<- c.length];exact hz)
 refine #[.ref s.heap.objs.size,_,I.laid (t':=s.toks) (o:=.tup (xs++ys)) (λb ob q=>Fg _ q) (FA _) ?_,rfl,j (λw=>z (c.nil_iff.mpr w)) _ (I.hok.fresh (FA _))]
 exact #[by rw[FN];exact hz,_,d.append c,IsTupD.new _ _]
end
end L2
namespace L2
open PySem PySem.Spec PyProof.Rows
def ixN (n:Nat) (i:Int):Option Nat:=if 0<=i then (if i < n then some i.toNat else none) else if -(n:Int)<=i then some (i+n).toNat else none
def atI {α:Type} (xs:List α) (i:Int):Option α:=(ixN xs.length i).bind λj=>xs[j]?
theorem tF {n:Nat} {i:Int} {j:Nat} (h:ixN n i=some j):seqIndex? i n=some j/\j < n/\-(n:Int)<=i/\i < n:=by
 unfold ixN at h
 by_cases h0:0<=i
 .rw[if_pos h0] at h
  by_cases h1:i < n
  .rw[if_pos h1] at h
   have e:i.toNat=j:=F8 h
   exact #[by rw[seqIndex_of h0 h1,e],by omega,by omega,h1]
  .rw[if_neg h1] at h;cases h
 .rw[if_neg h0] at h
  by_cases h1:-(n:Int)<=i
  .rw[if_pos h1] at h
   have e:(i+n).toNat=j:=F8 h
   exact #[by rw[seqIndex_neg (by omega) h1,e],by omega,h1,by omega]
  .rw[if_neg h1] at h;cases h
theorem o6 {i:Int} (h:atI xs i=some v):∃ j,seqIndex? i xs.length=some j/\xs[j]?=some v/\j < xs.length/\-(xs.length:Int)<=i/\i < xs.length:=by
 unfold atI at h
 cases e:ixN xs.length i with
 | none=>rw[e] at h;cases h
 | some j =>
  rw[e] at h
  obtain ⟨h1,h2,h3,a⟩:=tF e
  exact #[j,h1,h,h2,h3,a]
def uh (b:Expr):Prop:=∀ o i,subscripted b false o i=operate [o,i] (getItem o i)
def IxR (X:Cx) (r:R2):Prop :=
 ∀ (value slice:Expr) (pins:List (Addr×Obj)) (s:Shared) (U:St) (H:Hp) (x y:V) (v u:Value) (Q:VK),Inv X pins U H s->RelV x v->RelV y u->r x y H Q ->
  subscripted slice false v u=operate [v,u] (getItem v u)->wpAny (model X.prog X.w) X.A (subscriptTail value slice v u) (EP X pins U Q) X.xe s
def MtR (X:Cx) (id:String) (r:V->List V->Hp->VK->Prop):Prop :=
 ∀ (pins:List (Addr×Obj)) (s:Shared) (U:St) (H:Hp) (x:V) (xs:List V) (v:Value) (us:List Value) (Q:VK),Inv X pins U H s->RelV x v->Vals xs us->r x xs H Q ->
  wpAny (model X.prog X.w) X.A (call (.builtin id) (v::us)) (EP X pins U Q) X.xe s
section
variable {X:Cx} {a b:Expr} {ta tb:TE} {pos:Pos}
theorem IxR.or (h:IxR X r) (h':IxR X r'):IxR X (λx y H Q=>r x y H Q\/r' x y H Q):=by
 intro value slice pins s U H x y v u Q I a b q c
 rcases q with q | q
 .exact h value slice pins s U H x y v u Q I a b q c
 .exact h' value slice pins s U H x y v u Q I a b q c
theorem pe_ix (d:IxR X r) (ha:PE X a ta) (e:PE X b tb) (i:uh b):PE X (.Subscript a b pos) (tOp r ta tb):=by
 intro pins s U H Q I h
 exact Subscript_ (E5 ha e I h λv u s2 x y H2 g c f q=>d a b pins s2 U H2 x y v u Q g c f q (i _ _))
def wX (K:FG):R2:=λx y H Q=>∃ p xs i v,x=.ref p/\y=.int i/\SqL K H p xs/\atI xs i=some v/\Q v H
def wW (K:FG):R2:=λx y H Q=>∃ p xs i v,x=.ref p/\y=.int i/\SqT K H p xs/\atI xs i=some v/\Q v H
def rIxS:R2:=λx y H Q=>∃ z i c,x=.str z/\y=.int i/\z.length<=sizeLine/\atI z.cps.toList i=some c/\Q (.str #[(List.toArray [c])]) H
theorem ix_list:IxR X (wX X.K):=by
 intro value slice pins s U H x y v u Q I k e h c
 obtain ⟨p,xs,i,z,rfl,rfl,f,he,q⟩:=h
 cases k
 obtain ⟨t,rfl⟩:=e
 obtain ⟨its,r,pl,hz⟩:=I.list f
 obtain ⟨j,h1,h2,h3,g,l⟩:=o6 he
 obtain ⟨w,d,a⟩:=r.get h2
 have hl:=r.length
 have m:=lf
 have fin:EP X pins U Q w s:=#[z,H,I,a,q]
 by_cases h0:0<=i
 .have b:i.toNat=j:=by
   rw[seqIndex_of h0 l] at h1
   exact F8 h1
  exact item_listR pl.isList h0 (by omega) (by rw[b];simpa using d) fin c
 .have b:(i+(its.toArray.size:Int)).toNat=j:=by
   rw[seqIndex_neg (by lia) g] at h1
   rw[FE,<- hl]
   exact F8 h1
  exact subscriptTail_builtinR (x:=w) pl.isList.typeIs slot_list_getitem.lookup
   (wpAny_getItem_list_neg (Q:=λr s'=>r=w/\EP X pins U Q r s') pl.isList (by omega) (by rw[FE] <;> omega) (by omega) (by rw[b];simpa using d) #[rfl,fin]) c
theorem Ez:IxR X (wW X.K):=by
 intro value slice pins s U H x y v u Q I e b h d
 obtain ⟨p,xs,i,z,rfl,rfl,c,he,q⟩:=h
 cases e
 obtain ⟨t,rfl⟩:=b
 obtain ⟨its,r,pl,hz⟩:=I.tuple c
 obtain ⟨j,h1,h2,h3,k,l⟩:=o6 he
 obtain ⟨w,f,a⟩:=r.get h2
 have hl:=r.length
 have g:=lf
 have fin:EP X pins U Q w s:=#[z,H,I,a,q]
 exact subscriptTail_builtinR (x:=w) pl.typeIs slot_tuple_getitem.lookup
  (getItem_tuple (j:=j) (Q:=λr s'=>r=w/\EP X pins U Q r s') pl (by omega) (by omega) (by rw[FE,<- hl];exact h1) (by simpa using f) #[rfl,fin]) d
theorem EA:IxR X rIxS:=by
 intro value slice pins s U H x y v u Q I b e h g
 obtain ⟨z,i,c,rfl,rfl,hz,he,q⟩:=h
 obtain ⟨t,rfl⟩:=b
 obtain ⟨t',rfl⟩:=e
 obtain ⟨j,h1,h2,h3,a,d⟩:=o6 he
 have hl:z.cps.toList.length=z.length:=by simp[Str.length]
 rw[hl] at h1 a d
 have k:=lf
 exact tail_any (typeIs_str s z t) slot_str_getitem.lookup (getItem_str (c:=c) (by
  have e1:decide (i < -(2 ^ 63:Int))=false:=FI (by omega)
  have f:decide (i ≥ 2 ^ 63)=false:=FI (by omega)
  rw[e1,f,Bool.or_false]) (by rw[h1];simpa using h2) #[.str #[(List.toArray [c])],H,I.tok _,#[_,rfl],q]) g
theorem rB (its:List Value) (n j:Nat) (u:Value):Obj.mapSeq (·.setIfInBounds j u) { cls:=.type "list",data:=.seq its.toArray n }={ cls:=.type "list",data:=.seq (its.set j u).toArray n }:=by
 simp[Obj.mapSeq]
theorem Inv.lst {pins:List (Addr×Obj)} {U:St} {H:Hp} {s:Shared} {p:Addr} {xs:List V} (I:Inv X pins U H s) (h:H p=some (.lst xs)) :
  ∃ (its:List Value) (n:Nat),Vals xs its/\s.heap.get? p=some { cls:=.type "list",data:=.seq its.toArray n }/\xs.length<=sizeLine:=by
 obtain ⟨z,its,n,r,e⟩:=I.hok p _ h
 exact #[its,n,r,e,z]
theorem Inv.lstUpd {its its':List Value} {n a:Nat} (I:Inv X pins U H s) (h:H p=some (.lst xs)) (c:s.heap.get? p=some { cls:=.type "list",data:=.seq its.toArray n }) (hf:f { cls:=.type "list",data:=.seq its.toArray n }={ cls:=.type "list",data:=.seq its'.toArray a }) (r:Vals ys its') (hz:ys.length<=sizeLine) (t:Nat) :
  Inv X pins U (upd H p (.lst ys)) { s with heap:=s.heap.update p f,toks:=t }:=by
 have e:(s.heap.update p f).get? p=some { cls:=.type "list",data:=.seq its'.toArray a }:=by
  rw[FL f c (by rw[hf] <;> rfl),hf]
 refine I.write (x:=p) (e:=p) (by rw[h];trivial) (.inl rfl) (λb u d q=>(FX _ _ (Ne.symm d)).trans q) #[_,e] ?_
 exact #[hz,its',a,r,e]
def sP:V->V->V->Hp->(Hp->Prop)->Prop:=λo i v H Q=>∃ p xs k j,o=.ref p/\i=.int k/\H p=some (.lst xs)/\ixN xs.length k=some j/\Q (upd H p (.lst (xs.set j v)))
theorem wv:vK X sP:=by
 intro pins s U H o i v ov w u Q I g m l h
 obtain ⟨p,xs,k,j,rfl,rfl,c,f,q⟩:=h
 cases g
 obtain ⟨t,rfl⟩:=m
 obtain ⟨its,n,r,a,hz⟩:=I.lst c
 obtain ⟨h1,h2,h3,e⟩:=tF f
 have hl:=r.length
 have x:=lf
 have d:Inv X pins U (upd H p (.lst (xs.set j v))) { s with heap:=s.heap.update p (Obj.mapSeq (·.setIfInBounds j u)) } :=
  I.lstUpd c a (rB its n j u) (r.set l j) (by rw[List.length_set];exact hz) s.toks
 by_cases h0:0<=k
 .have b:k.toNat=j:=by
   rw[seqIndex_of h0 e] at h1
   exact F8 h1
  exact PySem.W.ki_setAt a h0 (by omega) (by rw[FE,<- hl];exact e) (by rw[b];exact #[_,d,q])
 .have b:(k+(its.toArray.size:Int)).toNat=j:=by
   rw[seqIndex_neg (by omega) h3] at h1
   rw[FE,<- hl]
   exact F8 h1
  exact PySem.W.ki_setBack a (by omega) (by rw[FE,<- hl];exact h3) (by omega) (by rw[b];exact #[_,d,q])
theorem nB (lo hi:Option Int) (n:Nat):(sliceBounds lo hi none n).1=((HT.sIx n 0 lo:Nat):Int)/\(sliceBounds lo hi none n).2.1=((HT.sIx n n hi:Nat):Int)/\(sliceBounds lo hi none n).2.2=1:=by
 refine #[?_,?_,rfl]
 .cases lo with
  | none=>simp[sliceBounds,HT.sIx]
  | some i =>
   simp only[sliceBounds,HT.sIx,Option.getD_none,show (1:Int) > 0 by decide,if_true]
   by_cases h:i < 0
   .simp only[h,if_true] <;> omega
   .simp only[h,if_false] <;> omega
 .cases hi with
  | none=>simp[sliceBounds,HT.sIx]
  | some i =>
   simp only[sliceBounds,HT.sIx,Option.getD_none,show (1:Int) > 0 by decide,if_true]
   by_cases h:i < 0
   .simp only[h,if_true] <;> omega
   .simp only[h,if_false] <;> omega
theorem lL (its:List Value) (lo hi:Option Int):slicePick its.toArray lo hi none=((its.drop (HT.sIx its.length 0 lo)).take (HT.sIx its.length its.length hi - HT.sIx its.length 0 lo)).toArray:=by
 obtain ⟨h1,h2,h3⟩:=nB lo hi its.toArray.size
 unfold slicePick
 rw[h1,h2,h3]
 simp only[sliceRange_one,pick_run,FE] <;> rfl
def Dx (K:FG):V->Option Int->Option Int->Hp->VK->Prop:=λx lo hi H Q=>∃ a xs,x=.ref a/\SqL K H a xs/\∀ p,H p=none->Q (.ref p) (upd H p (.lst (qA xs lo hi)))
theorem sl_list:SlR X (Dx X.K):=by
 intro pins s U H x v i g lo hi sl Q I e f pl pu h
 obtain ⟨a,xs,rfl,d,q⟩:=h
 cases e
 obtain ⟨its,r,c,hz⟩:=I.list d
 have hlen:=r.length
 refine #["list",_,slot_list_getitem.lookup,c.isList.typeIs,?_]
 refine wpAny_getItem_list_slice c.isList f pl pu .none (by simp) ?_ (by rw[FE] <;> omega)
 rw[lL,<- hlen]
 refine #[.ref s.heap.objs.size,_,I.laid (t':=s.toks) (o:=.lst (qA xs lo hi)) (λb ob q=>Fg _ q) (FA _) ?_,rfl,q _ (I.hok.fresh (FA _))]
 exact #[F1 (kb xs lo hi) hz,_,0,(r.drop (HT.sIx xs.length 0 lo)).take (HT.sIx xs.length xs.length hi - HT.sIx xs.length 0 lo),Fs _ rfl]
def fJ:V->Bool
 | .non=>true
 | .bl _=>true
 | .int _=>true
 | .str _=>true
 | _=>false
def eqV:V->V->Bool
 | .non,.non=>true
 | .bl a,.bl b=>a == b
 | .bl a,.int b=>(if a then 1 else 0) == b
 | .int a,.bl b=>a == (if b then 1 else 0)
 | .int a,.int b=>a == b
 | .str a,.str b=>a == b
 | _,_=>false
theorem EQ (d:RelV y u) (c:RelV x v) (e:fJ y=true) (fx:fJ x=true):SeqAt.EqAt A s u v (eqV y x):=by
 cases y with
 | non =>
  cases d
  cases x with
  | non=>cases c;exact SeqAt.EqAt.same _
  | bl b=>cases c;exact SeqAt.EqAt.none_bool b
  | int b=>obtain ⟨t,rfl⟩:=c;exact SeqAt.EqAt.none_int b t
  | str b=>obtain ⟨t,rfl⟩:=c;exact SeqAt.EqAt.none_str b t
  | _=>exact absurd (show false=true from fx) FC
 | bl a =>
  cases d
  cases x with
  | non=>cases c;exact SeqAt.EqAt.bool_none a
  | bl b=>cases c;exact SeqAt.EqAt.bool_bool a b
  | int b=>obtain ⟨t,rfl⟩:=c;exact SeqAt.EqAt.bool_int a b t
  | str b=>obtain ⟨t,rfl⟩:=c;exact SeqAt.EqAt.bool_str a b t
  | _=>exact absurd (show false=true from fx) FC
 | int a =>
  obtain ⟨t',rfl⟩:=d
  cases x with
  | non=>cases c;exact SeqAt.EqAt.int_none a t'
  | bl b=>cases c;exact SeqAt.EqAt.int_bool a t' b
  | int b=>obtain ⟨t,rfl⟩:=c;exact SeqAt.EqAt.int_int a t' b t
  | str b=>obtain ⟨t,rfl⟩:=c;exact SeqAt.EqAt.int_str a t' b t
  | _=>exact absurd (show false=true from fx) FC
 | str a =>
  obtain ⟨t',rfl⟩:=d
  cases x with
  | non=>cases c;exact SeqAt.EqAt.str_none a t'
  | bl b=>cases c;exact SeqAt.EqAt.str_bool a t' b
  | int b=>obtain ⟨t,rfl⟩:=c;exact SeqAt.EqAt.str_int a t' b t
  | str b=>obtain ⟨t,rfl⟩:=c;exact SeqAt.EqAt.str_str a t' b t
  | _=>exact absurd (show false=true from fx) FC
 | _=>exact absurd (show false=true from e) FC
def eqU (x:V) (u:Value):Bool:=match u with
 | .none=>eqV .non x
 | .bool b=>eqV (.bl b) x
 | .int i _=>eqV (.int i) x
 | .str z _=>eqV (.str z) x
 | _=>false
theorem oM (r:RelV y u) (f:fJ y=true):eqU x u=eqV y x:=by
 cases y with
 | non=>cases r;rfl
 | bl b=>cases r;rfl
 | int i=>obtain ⟨t,rfl⟩:=r;rfl
 | str z=>obtain ⟨t,rfl⟩:=r;rfl
 | _=>exact absurd (show false=true from f) FC
theorem k8 (a:RelV x v) (fx:fJ x=true):∀ {xs:List V} {us:List Value},Vals xs us->xs.all fJ=true->∀ u∈us,SeqAt.EqAt A s u v (eqU x u)
 | _,_,.nil,_=>λu hu=>by cases hu
 | y::xs,u::us,.cons r t,f=>λj hu=>by
  rw[List.all_cons,Bool.and_eq_true] at f
  rcases Fm.mp hu with rfl | hu
  .rw[oM r f.1];exact EQ r a f.1 fx
  .exact k8 a fx t f.2 j hu
theorem oS:b7 X (.builtin "len") (λxs H Q=>∃ p ys,xs=[.ref p]/\(SqL X.K H p ys\/SqT X.K H p ys)/\Q (.int ys.length) H):=by
 intro pins s U H xs us Q I r h
 obtain ⟨p,ys,rfl,a,q⟩:=h
 obtain ⟨u,rfl,c⟩:=cH r
 cases c
 have d:=lf
 rcases a with a | a
 .obtain ⟨its,b,pl,hz⟩:=I.list a
  have hlen:=b.length
  exact Calls.call_len_list pl.isList (by simp only[FE] <;> omega) #[.int ys.length,H,I.tok _,#[s.toks+1,by rw[FE,hlen]],q]
 .obtain ⟨its,b,pl,hz⟩:=I.tuple a
  have hlen:=b.length
  exact len_tuple pl (by simp only[FE] <;> omega) #[.int ys.length,H,I.tok _,#[s.toks+1,by rw[FE,hlen]],q]
theorem oR:b7 X (.type "list") (λxs H Q=>∃ p ys,xs=[.ref p]/\(SqL X.K H p ys\/SqT X.K H p ys)/\∀ l,H l=none->Q (.ref l) (upd H l (.lst ys))):=by
 intro pins s U H xs us Q I r h
 obtain ⟨p,ys,rfl,d,q⟩:=h
 obtain ⟨u,rfl,i⟩:=cH r
 cases i
 have fin:∀ (its:List Value),Vals ys its->ys.length<=sizeLine->∀ (h':Heap) (a:Nat),(∀ b o',s.heap.get? b=some o'->h'.get? b=some o') ->
   h'.get? s.heap.objs.size=some { cls:=.type "list",dict:=none,data:=.seq its.toArray a,slots:=(List.toArray []) }->EP X pins U Q (.ref s.heap.objs.size) { s with heap:=h' }:=λits c hz h' a kp e =>
  #[.ref s.heap.objs.size,_,I.laid (t':=s.toks) kp (FA _) (show ObjOk X.prog X.w _ h' _ (.lst ys) from #[hz,its,a,c,e]),rfl,q _ (I.hok.fresh (FA _))]
 rcases d with d | d
 .obtain ⟨its,c,pl,hz⟩:=I.list d
  have hlen:=c.length
  obtain ⟨o,f,g,n,hd⟩:=pl.isList
  exact call_list_seq p (.inl rfl) f g hd (λh' a kp e=>fin its c hz h' a kp e) (by simp only[FE] <;> omega)
 .obtain ⟨its,c,pl,hz⟩:=I.tuple d
  have hlen:=c.length
  obtain ⟨o,f,g,n,hd⟩:=pl
  exact call_list_seq p (.inr rfl) f g hd (λh' a kp e=>fin its c hz h' a kp e) (by simp only[FE] <;> omega)
theorem lW:b7 X (.type "tuple") (λxs H Q=>∃ p ys,xs=[.ref p]/\((SqL X.K H p ys/\∀ l,H l=none->Q (.ref l) (upd H l (.tup ys)))\/(SqT X.K H p ys/\Q (.ref p) H))):=by
 intro pins s U H xs us Q I r h
 obtain ⟨p,ys,rfl,h⟩:=h
 obtain ⟨u,rfl,f⟩:=cH r
 cases f
 rcases h with ⟨c,q⟩ | ⟨c,q⟩
 .obtain ⟨its,a,pl,hz⟩:=I.list c
  have hlen:=a.length
  refine call_tuple_list pl.isList (λh' kp=>?_) (by simp only[FE] <;> omega)
  have d:Inv X pins U H { s with heap:=h' }:=I.kept (t':=s.toks) kp
  have g:Inv X pins U (upd H h'.objs.size (.tup ys)) { s with heap:=h'.push { cls:=.type "tuple",data:=.seq its.toArray } } :=
   d.laid (t':=s.toks) (λb o e=>Fg _ e) (FA _) (show ObjOk X.prog X.w _ _ _ (.tup ys) from #[hz,its,a,IsTupD.new _ _])
  exact #[.ref h'.objs.size,_,g,rfl,q _ (d.hok.fresh (FA _))]
 .obtain ⟨its,a,pl,hz⟩:=I.tuple c
  exact call_tuple_same pl #[.ref p,H,I,rfl,q]
def tyV (K:FG) (T:String) (x:V) (H:Hp):Prop:=match x with
 | .str _=>T="str"
 | .int _=>T="int"
 | .ref p=>(T="list"/\∃ xs,SqL K H p xs)\/(T="tuple"/\((∃ o,K.lookup p=some o/\o.cls=.type "tuple"/\o.dict=none)\/∃ xs,H p=some (.tup xs))) \/
   (T="dict"/\((∃ kvs,H p=some (.dK kvs))\/∃ kvs n,H p=some (.dT kvs n)))\/(T="set"/\∃ S n,H p=some (.set S n))
 | _=>False
theorem Cn (I:Inv X pins U H s) (r:RelV x v) (ty:tyV X.K T x H) :
  s.TypeIs v T/\∀ a,v=.ref a->∃ ob,s.heap.get? a=some ob/\ob.dict=none:=by
 cases x with
 | str z =>
  obtain ⟨t,rfl⟩:=r
  cases (show T="str" from ty)
  exact #[typeIs_str s z t,λ_ e=>nomatch e]
 | int i =>
  obtain ⟨t,rfl⟩:=r
  cases (show T="int" from ty)
  exact #[typeIs_int s i t,λ_ e=>nomatch e]
 | ref p =>
  cases r
  rcases ty with ⟨rfl,xs,h⟩ | ⟨rfl,⟨o,b,g,hd⟩ | ⟨xs,j⟩⟩ | ⟨rfl,b⟩ | ⟨rfl,S,n,b⟩
  .obtain ⟨its,_,pl,_⟩:=I.list h
   refine #[pl.isList.typeIs,λa e=>?_]
   cases e
   obtain ⟨o,n,e,c,hd,_⟩:=pl
   exact #[o,e,hd]
  .refine #[#[o,I.kIn p o b,g],λa e=>?_]
   cases e
   exact #[o,I.kIn _ o b,hd]
  .obtain ⟨_,its,_,o,e,c,n,d⟩:=I.hok p _ j
   refine #[#[o,e,c],λa f=>?_]
   cases f
   exact #[o,e,congrArg Prod.snd d]
  .have z:∃ o,s.heap.get? p=some o/\o.ExactDict:=by
    rcases b with ⟨kvs,b⟩ | ⟨kvs,n,b⟩
    .obtain ⟨_,_,_,_,o,_,_,e,ex,_⟩:=I.hok p _ b
     exact #[o,e,ex]
    .obtain ⟨_,_,_,_,o,_,_,e,ex,_⟩:=I.hok p _ b
     exact #[o,e,ex]
   obtain ⟨o,e,ex⟩:=z
   refine #[#[o,e,ex.1],λa f=>?_]
   cases f
   exact #[o,e,ex.2.1]
  .obtain ⟨o,_,_,_,e,ex,_⟩:=I.hok p _ b
   refine #[#[o,e,ex.1],λa f=>?_]
   cases f
   exact #[o,e,ex.2.1]
 | _=>exact False.elim ty
def tBM (K:FG) (T:String) (r:V->List V->Hp->VK->Prop) (to:TE) (t:TA):TE:=λU H Q=>to U H λx H1=>tyV K T x H1/\t U H1 λxs H2=>r x xs H2 Q
variable {o e:Expr} {es:List Expr} {to:TE} {t:TA} {name:Str} {apos cpos:Pos} {T id:String} {r:V->List V->Hp->VK->Prop}
theorem BP (l:PlainAttrs T) (slot:Slot T name id) (f:typeOf (.builtin id)=pure (.type "method_descriptor")) (hm:MtR X id r) (m:PE X o to) (ha:PA X (e::es) t)
  (c:attributeBase o name X.env (eval o X.env)=eval o X.env:=by rfl)
  (d:((backTo cpos (starEach (e::es) X.env)).all (λx=>!x.1) && (backToKw cpos (keywordEach [] X.env)).all (λx=>x.1.isSome)
   && decide ((e::es).length+([]:List Keyword).length+(if ([]:List Keyword).isEmpty then 0 else 1) < 30))=true:=by rfl)
  (b:(apos.endLine == cpos.line)=true:=by rfl) (u:starEach (e::es) X.env=(false,eval e X.env)::starEach es X.env:=by rfl) (a:(backTo cpos (starEach es X.env)).any (·.1)=false:=by rfl) :
  PE X (.Call (.Attribute o name apos) (e::es) [] cpos) (tBM X.K T r to t):=by
 intro pins s U H Q I h
 refine wpAny_Call_method_late c d b rfl (thn (m pins s U H _ I h) λv s1 #[x,H1,g,j,ty,p]=>?_)
 obtain ⟨h1,h2⟩:=Cn g j ty
 refine #[T,id,l,slot,f,h1,h2,?_]
 have i:=ha cpos pins s1 U H1 _ g p
 rw[u] at i ⊢
 refine Calls.callWith_builtin (by show (false || (backTo cpos (starEach es X.env)).any (·.1))=false;rw[a] <;> rfl) (Calls.evalArgs_plain ?_)
 exact thn i λus s2 #[vs,H2,q,k,n]=>hm pins s2 U H2 x vs v us Q q j k n
end
end L2
namespace L2
open PySem PySem.Spec PyProof.Rows
def MtM (X:Cx) (id:String) (r:V->List V->Hp->VK->Prop):Prop :=
 ∀ (pins:List (Addr×Obj)) (s:Shared) (U:St) (H:Hp) (x:V) (xs:List V) (v:Value) (us:List Value) (Q:VK),Inv X pins U H s->RelV x v->Vals xs us->r x xs H Q ->
  wpAny (model X.prog X.w) X.A (call (.builtin id) (v::us)) (EP X pins U Q) X.xe s
theorem Vals.one (h:Vals [x] us):∃ u,us=[u]/\RelV x u:=by
 cases h with | cons r t=>cases t;exact #[_,rfl,r]
theorem Vals.rep (h:Vals xs us):∀ k:Nat,Vals (List.replicate k xs).flatten (List.replicate k us).flatten
 | 0=>.nil
 | k+1=>by
  rw[List.replicate_succ,List.replicate_succ,List.flatten_cons,List.flatten_cons]
  exact Vals.append h (Vals.rep h k)
section
variable {X:Cx} {pins:List (Addr×Obj)} {U:St} {H:Hp} {s:Shared} {l b:Addr} {xs ys zs:List V}
theorem Inv.lset {its its':List Value} {n:Nat} {t':Nat} (I:Inv X pins U H s) (a:H l=some (.lst xs)) (e:s.heap.get? l=some { cls:=.type "list",data:=.seq its.toArray n }) (hf:f its.toArray=its'.toArray) (c:Vals ys its') (hz:ys.length<=sizeLine) :
  Inv X pins U (upd H l (.lst ys)) { s with heap:=s.heap.update l (Obj.mapSeq f),toks:=t' }:=by
 have q:=PySem.IsL.update e f
 rw[hf] at q
 refine I.write (x:=l) (e:=l) (by rw[a];exact trivial) (.inl rfl) (λd u b hu=>(FX s.heap (Obj.mapSeq f) (Ne.symm b)).trans hu) #[_,q] ?_
 exact #[hz,its',_,c,q]
theorem Inv.lnew {t':Nat} (I:Inv X pins U H s) (a:Vals ys its) (hz:ys.length<=sizeLine) :
  Inv X pins U (upd H s.heap.objs.size (.lst ys)) { s with heap:=s.heap.push { cls:=.type "list",data:=.seq its.toArray },toks:=t' } :=
 I.laid (λ_ _ q=>Fg _ q) (FA _) #[hz,its,0,a,Fs _ rfl]
theorem Inv.fresh (I:Inv X pins U H s):H s.heap.objs.size=none:=I.hok.fresh (FA _)
theorem Inv.lstM (I:Inv X pins U H s) (a:H l=some (.lst xs)):xs.length<=sizeLine/\∃ (its:List Value) (n:Nat),Vals xs its/\xs.length=its.length/\s.heap.get? l=some { cls:=.type "list",data:=.seq its.toArray n }:=by
 obtain ⟨z,its,n,r,e⟩:=I.hok l _ a
 exact #[z,its,n,r,r.length,e]
theorem xC {n:Nat} (h:n<=sizeLine):Builtin.List.listTooLong n=false:=by
 unfold Builtin.List.listTooLong
 exact FI (by omega)
end
section
variable {X:Cx}
def sU:V->List V->Hp->VK->Prop:=λx vs H Q=>∃ l xs y,x=.ref l/\vs=[y]/\H l=some (.lst xs)/\xs.length < sizeLine/\Q .non (upd H l (.lst (xs++[y])))
theorem uS:MtM X "list.append" sU:=by
 intro pins s U H x vs v us Q I b c h
 obtain ⟨l,xs,y,rfl,rfl,a,hz,q⟩:=h
 cases b
 obtain ⟨u,rfl,d⟩:=c.one
 obtain ⟨z,its,n,r,hl,e⟩:=I.lstM a
 refine call_meets F.slot_list_append #[_,e,rfl] F.entry_list_append (F.args_list_append_2 _ _) (PySem.list_append l its.toArray n u (by rw[FE];omega)) #[e,?_]
 refine #[.non,_,I.lset (its':=its++[u]) a e (by simp) (r.append (.cons d .nil)) ?_,rfl,q]
 rw[FN,List.length_singleton]
 lia
def sR:V->List V->Hp->VK->Prop:=λx vs H Q=>∃ l b xs zs,x=.ref l/\vs=[.ref b]/\H l=some (.lst xs)/\H b=some (.lst zs)/\xs.length+zs.length<=sizeLine/\Q .non (upd H l (.lst (xs++zs)))
theorem uQ:MtM X "list.extend" sR:=by
 intro pins s U H x vs v us Q I g k h
 obtain ⟨l,b,xs,zs,rfl,rfl,d,i,hz,q⟩:=h
 cases g
 obtain ⟨u,rfl,o⟩:=k.one
 cases o
 obtain ⟨z,its,n,r,hl,e⟩:=I.lstM d
 obtain ⟨p,a,j,f,hl2,m⟩:=I.lstM i
 have hsz:its.toArray.size+a.toArray.size<=sizeLine:=by rw[FE,FE];omega
 have c:¬ (!its.toArray.isEmpty && Builtin.List.listTooLong (its.toArray.size+a.toArray.size))=true:=by
  rw[xC hsz,Bool.and_false]
  exact FC
 refine call_meets F.slot_list_extend #[_,e,rfl] F.entry_list_extend (F.args_list_extend_2 _ _)
  (AutoSeq1.list_extend_list_list_0 l its.toArray n b a.toArray j c (by rw[FE];omega) (by omega)) #[e,m,?_]
 refine #[.non,_,I.lset (its':=its++a) d e (by simp) (r.append f) ?_,rfl,q]
 rw[FN]
 lia
def Am:R2:=λx y H Q=>∃ l b xs zs,x=.ref l/\y=.ref b/\H l=some (.lst xs)/\H b=some (.lst zs)/\xs.length+zs.length<=sizeLine/\∀ p,H p=none->Q (.ref p) (upd H p (.lst (xs++zs)))
theorem Ea:OpR X (binaryOp .Add) Am:=by
 intro pins s U H x y v u Q I f i h
 obtain ⟨l,b,xs,zs,rfl,rfl,d,g,hz,q⟩:=h
 cases f
 cases i
 obtain ⟨z,its,n,r,hl,e⟩:=I.lstM d
 obtain ⟨o,a,m,c,hl2,j⟩:=I.lstM g
 refine PySem.P.add_list e j ?_ (by rw[FE,FE];omega)
 have k:its.toArray++a.toArray=(its++a).toArray:=by simp
 rw[k]
 exact #[.ref _,_,I.lnew (t':=s.toks) (r.append c) (by rw[FN];omega),rfl,q _ I.fresh]
end
end L2
namespace Att
open PySem PySem.W PySem.Calls PyProof.Rows
theorem kh:∀ (ns:List Int) (vs:List Value),WellAll P h vs (ns.map WData.int)->IntsAre vs ns:=by
 intro ns
 induction ns with
 | nil =>
  intro vs w
  rw[List.map_nil] at w
  cases w
  exact .nil
 | cons n ns ih =>
  intro vs w
  rw[FF] at w
  cases w with
  | cons a b =>
   cases a
   exact .cons _ _ (ih _ b)
theorem ux {l:OpenLaw} {n:Nat} (j:l.most=some n) (b:l.row.toRowW.claim.pre args=true) (g:WellAll P h vals args) :
  ∃ a vs ns,vals=[Value.ref a]/\args=[WData.list (ns.map WData.int)]/\h.get? a=some { cls:=.type "list",data:=.seq vs.toArray }/\IntsAre vs ns/\ns.length<=n:=by
 have f:WShape.hasAll [] args [.list .int]=true:=(pre_splitW b).1
 have i:l.pre.holds [] { args:=args }=true:=(pre_splitW b).2
 obtain ⟨d,r,rfl,h1,h2⟩:=hasAllW_cons f
 obtain rfl:=hasAllW_nil h2
 obtain ⟨xs,rfl,h3⟩:=hasW_list h1
 obtain ⟨ns,rfl⟩:=items_int h3
 have hlen:ns.length<=n:=by
  unfold OpenLaw.pre at i
  have c:(WTm.not (.lt (.lit (.int (n:Int))) (.len (.arg 0)))).holds [] { args:=[.list (ns.map .int)] }=true:=by
   have c:=(holds_andW i).1
   rw[j] at c
   exact c
  have e:=condW_of c (w_not (w_lt w_lit (w_len_list (w_arg rfl))))
  rw[Ft] at e
  refine Nat.le_of_not_lt λq=>?_
  have k:(n:Int) < ((ns.length:Nat):Int):=by omega
  first
   | (rw[FH k] at e;exact absurd e (by decide))
   | (simp at e;omega)
 cases g with
 | cons w1 w2 =>
  cases w2
  cases w1 with
  | list ho hall=>exact #[_,_,ns,rfl,rfl,ho,kh ns _ hall,hlen]
theorem uH (l:OpenLaw) (args:List WData):l.row.toRowW.claim.post args (.bool true) args=true :=
 postW_of (r:=l.row.toRowW) (X:=(true == true))
  (show WShape.has [] (.bool true) .bool=true by first | rfl | decide | simp[WShape.has,WShape.arms,WShape.armsAll])
  (show (WTm.eq .res (.lit (.bool true))).value [] { args:=args,res:=some (.bool true),after:=args }=some (.bool (true == true)) from w_eq_bool (w_res rfl) w_lit) rfl
theorem attach_call {l:OpenLaw} {n:Nat} (v:l.most=some n) (h:d.params.defaults=[]) (call:∀ (w:World) (s₀ b:Shared) (mg mb:Str->Option Value) (e:Addr) (o:Obj) (pm cd doc:Value) (a:Addr) (vs:List Value) (ns:List Int),
   Ground q loose [] XP w s₀ mg mb b.heap->YP w b.heap ->
   b.heap.get? e=some o->o.data=.func (docDef d.name d.params d.body d.scope pm cd doc)->b.heap.CodeRec cd d.name->mg d.name=some (.ref e) ->
   b.heap.get? a=some { cls:=.type "list",data:=.seq vs.toArray }->IntsAre vs ns->ns.length<=n->b.gens=(List.toArray []) ->
   codeAny (model l.prog w) callerA (.call (.ref e) #[[.ref a],[]]) (λr s'=>r=.ok (.ret (.bool true))/\OldK b.heap s'.heap/\s'.os=b.os/\AllBare s'.gens) b) :
  WalkO q loose XP YP l.row.toRowW d [] (λf vs=>PySem.call f vs):=by
 intro w s₀ b mg mb G τ e o pm cd doc A kV t hd j p i x args vals as g m z k s
 obtain rfl:A=.none:=Dflts.none p h
 obtain rfl:kV=.none:=Dflts.noKw p
 obtain ⟨a,vs,ns,rfl,rfl,c,hints,hlen⟩:=ux v g k
 refine enter_call (codeAny_mono (call w s₀ b mg mb e o pm cd doc a vs ns G τ t (fd_plain hd) j i c hints hlen x) λr s' u=>?_)
 obtain ⟨rfl,h2,h3,y⟩:=u
 exact #[.inl #[.bool true,.bool true,[],rfl,λ_=>rfl,.bool true,uH l _,λ_=>#[List.Pairwise.nil,λ_ hm=>(nomatch hm)]],h2,h3,y]
section
variable {prog:Program} {w:World} {A:Around} {E:Value->Shared->Prop} {s:Shared} {K:Frag}
theorem call_fn (X:K.In s.heap) (g:s.heap.NoLimit) (l:K.lookup f=some #[oc,od,.func (fnOf name qual params body scope dV kV doc pm an cdv ct),osl]) (k:codeIn K cdv qual=true) (b:A.depth < recursionLimit) (c:BindsTo s (fnOf name qual params body scope dV kV doc pm an cdv ct) args binds) (a:(binds.all λy=>scope.names.lookup y.1 == some .local || scope.names.lookup y.1 == some .cell)=true) (h:∀ I,InCallC s s.heap.objs.size (bindL (envOfC qual scope s.heap.objs.size f cdv).kindOf binds λ_=>none) (cellsFrom (s.heap.objs.size+1) scope.names [])
        (bindC (envOfC qual scope s.heap.objs.size f cdv).kindOf binds λ_=>none) I ->
      wpAny (model prog w) (A.deeper (envOfC qual scope s.heap.objs.size f cdv)) (execs body (envOfC qual scope s.heap.objs.size f cdv))
        (λfl s'=>R (.ok (.ret (match fl with | .ret v=>v | _=>.none))) s')
        (λe s'=>wpAny (model prog w) (A.deeper (envOfC qual scope s.heap.objs.size f cdv)) (leaving (envOfC qual scope s.heap.objs.size f cdv) e) (λ_ j=>R (.error e) j) (λJ j=>R (.error J) j) s') I) (i:scope.isCoroutine=false) (d:scope.isGenerator=false) (m:scope.kind=.function):codeAny (model prog w) A (.call (.ref f) args) R s:=by
  refine codeAny_call_function b (X _ _ l) rfl i d rfl (codeRec_of X k) (c _ _ _ _ ?_)
  refine wpAny_newFunctionEnv_cells m (kindsX a _) λenv he I x=>?_
  subst he
  exact #[g.keeps x.toInCall.keep,codeAny_func (h I x)]
end
end Att
namespace L2
open PySem PySem.Spec PyProof.Rows
theorem l8:∀ {vs:List Value} {ns:List Int},IntsAre vs ns->Vals (ns.map V.int) vs
 | _,_,.nil=>.nil
 | _,_,.cons n t h=>.cons #[t,rfl] (l8 h)
def BB (H:Hp):Prop:=∀ b,H b=none\/∃ o xs,H b=some (.frz o (.lst xs))
set_option tactic.hygienic true in
theorem xX {K:FG} {k:Nat} (O:K.In s₁.heap) (y:s₁.heap.Ns mainGlobals mg) (f:s₁.heap.Ns builtinsNs mb) (I:∀ x:Str,x≠"__name__"->mb x=bootBuiltins x) (l:s₁.heap.NoLimit) (S:s₁.gens=(List.toArray [])) (ha:s₁.heap.get? a=some { cls:=.type "list",data:=.seq vs.toArray }) (hi:IntsAre vs ns) (hl:ns.length<=sizeLine) (T:Room k callerA) (F:∀ base:Heap,K.In base->base.Ns mainGlobals mg->FnOk P w K mg base CX k fa fd [x] sp) (i:∀ (s:Shared) (u:Value),BindsTo s fd #[[u],[]] [(x,u)]) (C:∀ H:Hp,BB H->SqL K H a (ns.map V.int)->sp [.ref a] H (λv _=>v=.bl true) λ_ _ _=>False) (G:∀ H e s',CX [] H s₁ (λ_ _ _=>False) e s'->False) :
  codeAny (model P w) callerA (.call (.ref fa) #[[.ref a],[]]) (λr s'=>r=.ok (.ret (.bool true))/\OldK s₁.heap s'.heap/\s'.os=s₁.os/\AllBare s'.gens) s₁:=by
 have M:=l8 hi
 have j:=hi.length
 have core:∀ H:Hp,BB H->SqL K H a (ns.map V.int)->HOk P w H s₁.heap->(∀ b,H b≠none->b=a)->(H a≠none->K.lookup a=none) ->
   codeAny (model P w) callerA (.call (.ref fa) #[[.ref a],[]]) (λr s'=>r=.ok (.ret (.bool true))/\OldK s₁.heap s'.heap/\s'.os=s₁.os/\AllBare s'.gens) s₁:=by
  intro H N X hok L Q
  have c:∀ {b:Addr} {o:Obj},s₁.heap.get? b=some o->H b=none->(oE s₁.heap H).get? b=some o:=λe n=>yt e n
  have E:∀ {b:Addr} {o:Obj} {es:Array DictEntry} {B:Nat},s₁.heap.get? b=some o->o.data=.dict es B->H b=none:=λ{b o es B} e d=>by
   cases q:H b with
   | none=>rfl
   | some u =>
    have D:b=a:=L b (by rw[q];simp)
    subst D
    rw[ha] at e;cases e
    have d':Data.seq vs.toArray _=Data.dict es B:=d
    cases d'
  have g:∀ {b:Addr} {m:Str->Option Value},s₁.heap.Ns b m->(oE s₁.heap H).Ns b m:=λ{b m} #[o,es,B,e,d,r]=>#[o,es,B,c e (E e d),d,r]
  have t:K.In (oE s₁.heap H):=λb o e=>c (O b o e) (by
   cases q:H b with
   | none=>rfl
   | some u =>
    have D:b=a:=L b (by rw[q];simp)
    subst D
    rw[Q (by rw[q];simp)] at e;cases e)
  have τ:Mod K mg (oE s₁.heap H):=#[t,g y,#[mb,g f,I],let #[mc,h1,h2]:=l;#[mc,g h1,h2]]
  have ρ:Env0 P w K mg (oE s₁.heap H) callerA [] s₁ H:=#[rfl,τ,λb o e=>AI e,Nat.le_of_eq (u7 _ _),trivial,λb f=>absurd (show b∈([]:List Addr) from f) (by simp),hok,.of_eq S]
  refine codeAny_mono ((F _ t (g y)).run callerA [] s₁ H #[[.ref a],[]] [.ref a] [.ref a] _ _ T ρ (i s₁ (.ref a)) (.cons rfl .nil) (C H N X)) λr s' h=>?_
  cases r with
  | error e=>exact (G H e s' h).elim
  | ok fl =>
   cases fl with
   | next=>exact False.elim h
   | brk=>exact False.elim h
   | cont=>exact False.elim h
   | ret u =>
    obtain ⟨v,H',os,bare,un,p,σ,q⟩:=h
    have R:v=.bl true:=q
    subst R
    obtain rfl:u=Value.bool true:=σ
    refine #[rfl,OldK.of_keep λb o e=>?_,os,bare]
    cases q:H b with
    | none=>exact un.keep b o e q (by intro z;exact absurd (show b∈([]:List Addr) from z) (by simp)) (by simp)
    | some u =>
     rcases N b with z | ⟨ob,xs,z⟩
     .rw[q] at z;cases z
     .have z2:=un.frzs b ob _ z
      obtain ⟨e1,_⟩:=hok b _ z
      obtain ⟨W,_⟩:=p b _ z2
      rw[e] at e1;cases e1
      exact W
 cases J:K.lookup a with
 | some o =>
  have e:=O a o J
  rw[ha] at e
  cases e
  refine core (λ_=>none) (λ_=>.inl rfl) (.inr #[_,vs.toArray,_,J,rfl,rfl,rfl,by rw[FE,j];exact hl,by simpa using M]) (λb u z=>by have A:(none:Option HO)=some u:=z;cases A) (λb z=>absurd rfl z) λz=>absurd rfl z
 | none =>
  refine core (λb=>if b=a then some (.frz { cls:=.type "list",data:=.seq vs.toArray } (.lst (ns.map V.int))) else none) (λb=>?_) (.inl (.inr #[{ cls:=.type "list",data:=.seq vs.toArray },if_pos rfl])) (λb u z=>?_) (λb z=>?_) λ_=>J
  .by_cases f:b=a
   .exact .inr #[_,_,if_pos f]
   .exact .inl (if_neg f)
  .by_cases f:b=a
   .have A:=(if_pos f).symm.trans z
    cases A
    subst f
    exact #[ha,by rw[Ft];exact hl,vs,_,M,ha]
   .have A:=(if_neg f).symm.trans z
    cases A
  .by_cases f:b=a
   .exact f
   .exact absurd (if_neg f) z
end L2
namespace L2
open PySem PySem.Spec PyProof.Rows
end L2
namespace L2
open PySem PySem.Spec PyProof.Rows
abbrev CX0:CXT:=λ_ _ _ _ _ _=>False
abbrev E0:XK:=λ_ _ _=>False
theorem pass0:sC CX0 X E0:=λ_ _ _ _ _ _ _ h=>h.elim
structure Fun (K:FG) (x qual:Str) (st:Stmt) (f:Addr) (fd:FuncData):Prop where
 ex:∃ (oc:Value) (od:Option Addr) (kV doc pm:Value) (an:Option Addr) (cdv ct:Value) (osl:Array (Option Value)),
  fd=PySem.W.fnOf x qual (aK st) (aG st) (ah st) .none kV doc pm an cdv ct/\K.lookup f=some #[oc,od,.func fd,osl]/\PySem.W.codeIn K cdv qual=true
 kp:PySem.W.keepIn K (.ref f)=true
section
variable {P:Program} {w:World} {K:FG} {mg:Str->Option Value} {base:Heap}
theorem Fun.ok {st:Stmt} {k:Nat} (F:Fun K x qual st f fd) (S:FnScope N ps (ah st)) (len:∀ vs H Q E,sp vs H Q E->vs.length=ps.length) (b:∀ (a:Value) (A:Around) (outer:List Env) (s:Shared) (H:Hp) (vs:List V) (Q:VK) (E:XK),Room k (A.deeper (envOfC qual (ah st) s.heap.objs.size f a))->sp vs H Q E ->
   ∃ t,PSs (dD CX0 P w K mg base N qual (ah st) f a A outer s H E).nox (aG st) t/\t { nx:=λ_ H'=>Q .non H',rt:=Q } (fE N vs) H):FnOk P w K mg base CX0 (k+1) f fd ps sp:=by
 obtain ⟨j,od,kV,doc,pm,an,a,ct,g,rfl,i,d⟩:=F.ex
 refine B8 i d S len λA outer s H vs Q E e c=>?_
 obtain ⟨t,h,q⟩:=b a A outer s H vs Q E e c
 exact #[t,h.nox,q]
theorem Fun.binds {st:Stmt} (F:Fun K x qual st f fd) (h:∀ (kV doc pm:Value) (an:Option Addr) (a ct:Value) (us:List Value),us.length=ps.length->bindArgs (PySem.W.fnOf x qual (aK st) (aG st) (ah st) .none kV doc pm an a ct) #[us,[]]=pure (ps.zip us)):Binds K fd ps []:=by
 obtain ⟨e,od,kV,doc,pm,an,a,ct,b,rfl,d,c⟩:=F.ex
 exact .all (h kV doc pm an a ct)
theorem EJ {st:Stmt} {kV doc pm a ct:Value} (l:K.lookup f=some #[oc,od,.func (PySem.W.fnOf x qual (aK st) (aG st) (ah st) .none kV doc pm an a ct),osl]) (c:PySem.W.codeIn K a qual=true) (k:PySem.W.keepIn K (.ref f)=true):Fun K x qual st f (PySem.W.fnOf x qual (aK st) (aG st) (ah st) .none kV doc pm an a ct):=#[#[oc,od,kV,doc,pm,an,a,ct,osl,rfl,l,c],k]
end
theorem hu_of {k:Nat} (a:Room k A):A.units+1 < cLine:=Nat.lt_of_le_of_lt (Nat.add_le_add_left (by decide:1<=64) _) a.units
def Same (H H':Hp):Prop:=∀ b o,H b=some o->H' b=some o
theorem Same.refl (H:Hp):Same H H:=λ_ _ h=>h
theorem Same.trans (a:Same H H1) (b:Same H1 H2):Same H H2:=λc o h=>b c o (a c o h)
theorem Same.free (e:Same H H') (h:H' l=Option.none):H l=Option.none:=by
 cases q:H l with
 | none=>rfl
 | some o =>
  rw[e l o q] at h
  cases h
theorem Same.seq {K:FG} (e:Same H H') (h:SqL K H a xs):SqL K H' a xs:=by
 rcases h with (h | ⟨o,h⟩) | h
 .exact .inl (.inl (e _ _ h))
 .exact .inl (.inr #[o,e _ _ h])
 .exact .inr h
end L2
end
section
namespace L2
open PySem PySem.Spec PyProof.Rows
section
variable {prog:Program} {w:World} {A:Around} {E:Value->Shared->Prop} {s:Shared}
theorem pw (ty:s.TypeIs (.ref d) "dict") (h:wpAny (model prog w) A.in1 (dictSet d k v) Q E s) :
  wpAny (model prog w) A (setItem (.ref d) k v) Q E s:=by
 unfold setItem
 refine Fd (Fb (wpAny_sequenceKey ty (by decide) (Fb (wpAny_callSpecial?_slot ty slot_dict_setitem (wpAny_call_entry slot_dict_setitem ty entry_dict_setitem ?_ (args_dict_setitem _ _ _))))))
 refine Fb (wpAny_notOrdered_dict ty ?_)
 refine (?_:wpAny _ _ (dictSet d k v >>= _) _ _ s)
 exact Fb (wpAny_mono h (λ_ _ z=>Fc #[_,rfl,Fc z]) λ_ _ z=>z)
theorem me {b:Int} {c:Nat} {F:Option Nat->Prop} (a:s.heap.get? d=some o) (g:o.ExactDict) (hd:o.data=.dict es c) (hz:es.size<=sizeLine) (find:wpAny (model prog w) A (dictFind d key b) (λr s'=>s'=s/\F r) E s) (old:∀ i h' o',F (some i)->h'.get? d=some o'->o'.ExactDict->o'.data=.dict (es.modify i λe=>{ e with val:=v }) c->Heap.SameBut d s.heap h'->Q () { s with heap:=h' }) (new:∀ h' o',F none->h'.get? d=some o'->o'.ExactDict->o'.data=.dict (es.push #[b,key,v]) (c+1)->Heap.SameBut d s.heap h'->Q () { s with heap:=h' }) :
  wpAny (model prog w) A (dictSetHashed d key b v) Q E s:=by
 unfold dictSetHashed
 refine Fd (Fb (wpAny_mono find ?_ λ_ _ z=>z))
 rintro (_ | i) _ ⟨rfl,f⟩
 .exact Fb (wpAny_rule (wpAny_updateDictKeys (hz:=hz) a hd (new _ _ f (FL _ a (Obj.isFreed_of_dict (Obj.data_mapDictKeys hd _))) (g.mapDictKeys _) (Obj.data_mapDictKeys hd _) (Heap.SameBut.update ..))))
 .exact Fb (wpAny_rule (Fb (wpAny_updateDict a hd (wpAny_point (old i _ _ f (FL _ a (Obj.isFreed_of_dict (Obj.data_mapDict hd _))) (g.mapDict _) (Obj.data_mapDict hd _) (Heap.SameBut.update ..))))))
end
section
variable {prog:Program} {w:World} {K:Type} [DecidableEq K] {A:Around} {E:Value->Shared->Prop} {s:Shared} {d:Addr} {k:K}
section
variable {knd:HeapKind prog w K}
def DictOfHE (knd:HeapKind prog w K) (h:Heap) (d:Addr) (xs:List (K×Addr×Value)) (n:Int):Prop :=
 ∃ o es a,h.get? d=some o/\o.ExactDict/\o.data=.dict es a/\es.toList=xs.map (entryOfKey knd)/\(∀ x∈xs,knd.is h x.1 x.2.1)/\(xs.map (·.1)).Nodup/\(es.size:Int)=a+n
theorem DictOfHE.of {n:Int} (x:DictOfHE knd h d xs n):h.DictOfH knd d xs:=let #[o,es,c,h1,h2,h3,a,b,h6,_]:=x;#[o,es,c,h1,h2,h3,a,b,h6]
theorem uO {y:Addr×Value} (a:(xs.map (·.1)).Nodup) (h:k ∉ xs.map (·.1)):((xs++[(k,y)]).map (·.1)).Nodup:=by
 rw[List.map_append]
 exact List.nodup_append.mpr #[a,List.nodup_cons.mpr #[List.not_mem_nil,List.nodup_nil],λx b y c e=>h (by have:=FT.mp c;subst this;exact e ▸ b)]
theorem iL (hu:knd.room A) (b:knd.is s.heap k a) {n:Int} (hm:DictOfHE knd s.heap d xs n) (r:∀ h',DictOfHE knd h' d (storedH xs k a v) n->Heap.SameBut d s.heap h'->Q () { s with heap:=h',toks:=s.toks+knd.draws k }) (hsz:xs.length<=sizeLine:=by size_fits):wpAny (model prog w) A (dictSet d (.ref a) v) Q E s:=by
 obtain ⟨o,es,B,l,t,hd,he,g,m,q⟩:=hm
 unfold dictSet
 refine Fd (Fb (knd.pyHash hu b ?_))
 refine me (s:={ s with toks:=s.toks+knd.draws k }) (F:=λ| none=>∀ (j:Nat) (p:Addr×Value),xs[j]?≠some (k,p) | some j=>∃ p,xs[j]?=some (k,p)) l t hd (size_of_entries he ▸ hsz)
  (wpAny_dictFind_heap (s:={ s with toks:=s.toks+knd.draws k }) hu b l hd he g m (λz=>#[rfl,z]) λj p z=>#[rfl,p,z]) ?_ ?_
 .rintro i h' o' ⟨p,f⟩ g1 g2 g3 h
  have at':=storedH_old (atKey_of_get m f) a v
  refine r h' #[o',_,_,g1,g2,g3,?_,?_,?_,?_] h <;> try rw[at']
  .rw[Array.toList_modify,he]
   exact modify_map_putAt (entryOfKey knd) _ k v (λ_ _=>rfl) m f
  .intro x c
   obtain ⟨y,u,rfl⟩:=Fy.mp c
   have:=knd.keeps (g y u) l hd h
   by_cases e:y.1=k <;> simpa[putAt,e] using this
  .exact (keys_map_putAt xs k v).symm ▸ m
  .rw[Array.size_modify];exact q
 .intro h' o' f g1 g2 g3 h
  have at':=storedH_new (atKey_none_of_get f) a v
  refine r h' #[o',_,_,g1,g2,g3,?_,?_,?_,?_] h <;> try rw[at']
  .simp[he,entryOfKey]
  .intro x c
   rcases Fq.mp c with c | c
   .exact knd.keeps (g x c) l hd h
   .cases FT.mp c;exact knd.keeps b l hd h
  .exact uO m (not_mem_keys_of_get f)
  .rw[Array.size_push];omega
theorem lM (hu:knd.room A.in1) (b:knd.is s.heap k a) {n:Int} (hm:DictOfHE knd s.heap d xs n) (c:∀ h',DictOfHE knd h' d (storedH xs k a v) n->Heap.SameBut d s.heap h'->Q () { s with heap:=h',toks:=s.toks+knd.draws k }) (hsz:xs.length<=sizeLine:=by size_fits):wpAny (model prog w) A (setItem (.ref d) (.ref a) v) Q E s :=
 pw hm.of.typeIs (iL (hsz:=hsz) hu b hm c)
end
section
variable {knd:KeyKind prog w K} {key:Value}
theorem gp (a:knd.is k key=true) (hm:DictOfE knd s.heap d kvs) (m:∀ h',DictOfE knd h' d (stored kvs k v)->Heap.SameBut d s.heap h'->Q () { s with heap:=h',toks:=s.toks+1 }) (hsz:kvs.length<=sizeLine:=by size_fits):wpAny (model prog w) A (dictSet d key v) Q E s:=by
 obtain ⟨o,⟨es⟩,t,l,n,hd,j,b,g,rfl⟩:=hm
 have same:=b.findIdx k
 have hz:(#[es]:Array DictEntry).size<=sizeLine:=by have:=b.length;simp at this ⊢;omega
 unfold dictSet
 refine Fd (Fb (knd.pyHash a ?_))
 refine me (s:={ s with toks:=s.toks+1 }) (F:=λr=>es.findIdx? (λe=>knd.is k e.key)=r) l n hd hz
  (wpAny_dictFind_of (s:={ s with toks:=s.toks+1 }) a l hd j #[rfl,by simp]) ?_ ?_
 .intro i h' o' f g1 g2 g3 h
  have at':stored kvs k v=_:=if_pos (any_of_findIdx_some (same.symm.trans f))
  refine m h' #[o',_,_,g1,g2,g3,j.modify _ _,?_,?_,(Array.size_modify).symm] h <;> rw[at']
  .simpa using b.modify g f v
  .exact (keys_map_store kvs k v).symm ▸ g
 .intro h' o' f g1 g2 g3 h
  have no:=not_mem_of_findIdx_none (same.symm.trans f)
  have at':stored kvs k v=_:=if_neg λz=>by
   obtain ⟨x,c,e⟩:=List.any_eq_true.mp z
   exact no (Fy.mpr #[x,c,of_decide_eq_true e])
  refine m h' #[o',_,_,g1,g2,g3,j.push a _,?_,?_,by simp] h <;> rw[at']
  .simpa using b.append a (knd.hash k) v
  .rw[List.map_append]
   exact List.nodup_append.mpr #[g,List.nodup_cons.mpr #[List.not_mem_nil,List.nodup_nil],λx c y p e=>no (by cases FT.mp p;have q:x=k:=e;exact q ▸ c)]
theorem kQ (a:knd.is k key=true) (hm:DictOfE knd s.heap d kvs) (b:∀ h',DictOfE knd h' d (stored kvs k v)->Heap.SameBut d s.heap h'->Q () { s with heap:=h',toks:=s.toks+1 }) (hsz:kvs.length<=sizeLine:=by size_fits):wpAny (model prog w) A (setItem (.ref d) key v) Q E s :=
 pw hm.of.typeIs (gp (hsz:=hsz) a hm b)
end
end
section
variable {κ:Type} [DecidableEq κ]
def ke (kvs:List (κ×V)) (k:κ):Option V:=(kvs.find? λa=>decide (a.1=k)).map (·.2)
def ff (kvs:List (κ×V)) (k:κ) (v:V):List (κ×V) :=
 if (kvs.any λa=>decide (a.1=k))=true then kvs.map (λa=>if a.1=k then (a.1,v) else a) else kvs++[(k,v)]
theorem i6 {p:κ×V} {k:κ} (e:p.1=k):ke (p::r) k=some p.2:=by simp[ke,List.find?_cons,e]
theorem i7 {p:κ×V} {k:κ} (e:¬ p.1=k):ke (p::r) k=ke r k:=by simp[ke,List.find?_cons,e]
theorem pk (k:κ):∀ kvs:List (κ×V),(kvs.any λj=>decide (j.1=k))=(ke kvs k).isSome
 | []=>rfl
 | p::r=>by
  rw[List.any_cons]
  by_cases e:p.1=k
  .simp only[i6 e,FH e,Bool.true_or,Option.isSome_some]
  .rw[i7 e,FI e,Bool.false_or];exact pk k r
theorem j9 (kvs:List (κ×V)) (k:κ) (v:V):(ff kvs k v).length<=kvs.length+1:=by
 unfold ff
 split
 .rw[Ft];omega
 .rw[FN,FO,List.length_nil];omega
theorem RelO.isSome_eq (r:RelO o u):o.isSome=u.isSome:=by
 cases o with
 | none=>cases u with
  | none=>rfl
  | some _=>exact (show False from r).elim
 | some _=>cases u with
  | none=>exact (show False from r).elim
  | some _=>rfl
theorem RelO.getD (r:RelO o u) (a:RelV d d'):RelV (o.getD d) (u.getD d'):=by
 cases o with
 | none=>cases u with
  | none=>exact a
  | some _=>exact (show False from r).elim
 | some _=>cases u with
  | none=>exact (show False from r).elim
  | some _=>exact r
theorem KV.val (r:KV kvs vs) (k:κ):RelO (ke kvs k) (valueAt vs k):=by
 unfold KV at r
 induction r with
 | nil=>exact True.intro
 | @cons p q ps qs h t ih =>
  obtain ⟨h1,h2⟩:=h
  by_cases e:p.1=k
  .have a:q.1=k:=h1.symm.trans e
   have b:valueAt (q::qs) k=some q.2:=by simp[valueAt,List.find?_cons,a]
   rw[i6 e,b];exact h2
  .have a:¬ q.1=k:=λz=>e (h1.trans z)
   have b:valueAt (q::qs) k=valueAt qs k:=by simp[valueAt,List.find?_cons,a]
   rw[i7 e,b];exact ih
theorem KV.any (r:KV kvs vs) (k:κ):(kvs.any λj=>decide (j.1=k))=vs.any λj=>decide (j.1=k):=by
 unfold KV at r
 induction r with
 | nil=>rfl
 | cons h t ih=>rw[List.any_cons,List.any_cons,ih,h.1]
theorem KV.repl (r:KV kvs vs) (k:κ) (a:RelV y u) :
  KV (kvs.map λj=>if j.1=k then (j.1,y) else j) (vs.map λj=>if j.1=k then (j.1,u) else j):=by
 unfold KV at r ⊢
 induction r with
 | nil=>exact .nil
 | @cons p q ps qs h t ih =>
  rw[FF,FF]
  refine .cons ?_ ih
  obtain ⟨h1,h2⟩:=h
  by_cases e:p.1=k
  .rw[if_pos e,if_pos (h1.symm.trans e)];exact #[h1,a]
  .rw[if_neg e,if_neg (λz=>e (h1.trans z))];exact #[h1,h2]
theorem KV.put (r:KV kvs vs) (k:κ) (a:RelV y u):KV (ff kvs k y) (stored vs k u):=by
 unfold ff stored
 rw[r.any k]
 by_cases e:(vs.any λb=>decide (b.1=k))=true
 .rw[if_pos e,if_pos e];exact r.repl k a
 .rw[if_neg e,if_neg e];exact Paired.snoc r #[rfl,a]
theorem KV.length {kvs:List (κ×V)} (r:KV kvs vs):kvs.length=vs.length:=Paired.length r
end
theorem tz (r:RelV (kV k) u):(bV P w).is k u=true:=by
 cases k with
 | inl i=>obtain ⟨t,e⟩:=(show ∃ t,u=Value.int i t from r);subst e;exact p9 P w i t
 | inr x=>obtain ⟨t,e⟩:=(show ∃ t,u=Value.str x t from r);subst e;exact p8 P w x t
theorem mL:∀ {a:List Key} {us:List Value},Vals (a.map kV) us->ItemsAre (bV P w) a us
 | [],_,r=>by rw[List.map_nil] at r;cases r;exact .nil
 | k::a,_,r=>by
  rw[FF] at r
  cases r with
  | cons h t=>exact .cons (tz h) (mL t)
abbrev KT (H:Hp):List (List Key×V)->List (List Key×Addr×Value)->Prop:=Paired λp q=>p.1=q.1/\H q.2.1=some (.tup (p.1.map kV))/\RelV p.2 q.2.2
theorem KT.val (r:KT H kvs xs) (k:List Key):RelO (ke kvs k) ((atKey xs k).map (·.2)):=by
 induction r with
 | nil=>exact True.intro
 | @cons p q ps qs h t ih =>
  obtain ⟨h1,_,h2⟩:=h
  by_cases e:p.1=k
  .have a:q.1=k:=h1.symm.trans e
   have b:atKey (q::qs) k=some q.2:=by simp[atKey,List.find?_cons,a]
   rw[i6 e,b];exact h2
  .have a:¬ q.1=k:=λz=>e (h1.trans z)
   have b:atKey (q::qs) k=atKey qs k:=by simp[atKey,List.find?_cons,a]
   rw[i7 e,b];exact ih
theorem KT.repl (r:KT H kvs xs) (k:List Key) (a:RelV y u) :
  KT H (kvs.map λj=>if j.1=k then (j.1,y) else j) (xs.map (putAt k u)):=by
 induction r with
 | nil=>exact .nil
 | @cons p q ps qs h t ih =>
  rw[FF,FF]
  refine .cons ?_ ih
  obtain ⟨h1,h2,h3⟩:=h
  unfold putAt
  by_cases e:p.1=k
  .rw[if_pos e,if_pos (h1.symm.trans e)];exact #[h1,h2,a]
  .rw[if_neg e,if_neg (λz=>e (h1.trans z))];exact #[h1,h2,h3]
theorem KT.put (r:KT H kvs xs) (k:List Key) (c:H b=some (.tup (k.map kV))) (a:RelV y u) :
  KT H (ff kvs k y) (storedH xs k b u):=by
 have e:(kvs.any λd=>decide (d.1=k))=(atKey xs k).isSome:=by
  rw[pk,(r.val k).isSome_eq,Option.isSome_map]
 unfold ff storedH
 rw[e]
 by_cases q:(atKey xs k).isSome=true
 .rw[if_pos q,if_pos q];exact r.repl k a
 .rw[if_neg q,if_neg q];exact Paired.snoc r #[rfl,c,a]
theorem KT.keeps (r:KT H kvs xs) (a:∀ b ys,H b=some (.tup ys)->H' b=some (.tup ys)):KT H' kvs xs :=
 Paired.mapP r λ_ _ z=>#[z.1,a _ _ z.2.1,z.2.2]
section
variable {P:Program} {w:World} {H:Hp} {h:Heap} {a:Addr}
theorem BO (ok:HOk P w H h) (e:Rd H a u):ObjOk P w H h a u:=e.ok ok
theorem rT (ok:HOk P w H h) (e:Rd H a (.dK kvs)):kvs.length<=sizeLine/\(a == sysModules)=false/\∃ vs,KV kvs vs/\DictOfE (bV P w) h a vs :=
 show ObjOk P w H h a (.dK kvs) from BO ok e
theorem Ce (ok:HOk P w H h) (e:Rd H a (.dK kvs)):kvs.length<=sizeLine/\(a == sysModules)=false/\∃ vs,KV kvs vs/\h.DictOf (bV P w) a vs:=let #[z,y,vs,r,d]:=rT ok e;#[z,y,vs,r,d.of]
def HdT (H:Hp) (a:Addr) (kvs:List (List Key×V)):Prop:=∃ n,H a=some (.dT kvs n)
def RdT (H:Hp) (a:Addr) (kvs:List (List Key×V)):Prop:=∃ n,Rd H a (.dT kvs n)
theorem om (ok:HOk P w H h) (e:H a=some (.tup (ks.map kV))):(tupleKind (bV P w)).is h ks a:=by
 obtain ⟨_,its,r,o,h1,h2,n,h3⟩:=(show ObjOk P w H h a (.tup (ks.map kV)) from ok a _ e)
 exact #[o,its.toArray,n,h1,h2,congrArg Prod.fst h3,by simpa using mL r]
theorem rS {n:Int} (ok:HOk P w H h) (e:Rd H a (.dT kvs n)):kvs.length<=sizeLine/\(a == sysModules)=false /\
  ∃ xs,KT H kvs xs/\DictOfHE (tupleKind (bV P w)) h a xs n:=by
 obtain ⟨z,y,xs,r,o,es,f,h1,h2,h3,c,d⟩:=(show ObjOk P w H h a (.dT kvs n) from BO ok e)
 refine #[z,y,xs,r,o,es,f,h1,h2,h3,c,λx b=>?_,d]
 have all:∀ {l:List (List Key×V)} {m:List (List Key×Addr×Value)},KT H l m->∀ x∈m,(tupleKind (bV P w)).is h x.1 x.2.1:=by
  intro l m q
  induction q with
  | nil=>intro x b;exact nomatch b
  | @cons p q ps qs hq t ih =>
   intro x b
   rcases Fm.mp b with e | b
   .subst e
    exact om ok (by rw[<- hq.1];exact hq.2.1)
   .exact ih x b
 exact all r x b
theorem Cd (ok:HOk P w H h) (e:RdT H a kvs):kvs.length<=sizeLine/\(a == sysModules)=false /\
  ∃ xs,KT H kvs xs/\h.DictOfH (tupleKind (bV P w)) a xs:=let #[_,e]:=e;let #[z,y,xs,r,d]:=rS ok e;#[z,y,xs,r,d.of]
end
def DGet (H:Hp) (a:Addr) (y:V) (r:Option V):Prop :=
 (∃ kvs k,Rd H a (.dK kvs)/\y=kV k/\r=ke kvs k)\/∃ kvs k b,RdT H a kvs/\y=.ref b/\H b=some (.tup (k.map kV))/\r=ke kvs k
def DPut (H:Hp) (a:Addr) (y v:V) (H':Hp):Prop :=
 (∃ kvs k,H a=some (.dK kvs)/\y=kV k/\kvs.length < sizeLine/\H'=upd H a (.dK (ff kvs k v))) \/
 ∃ kvs k b,∃ n,H a=some (.dT kvs n)/\y=.ref b/\H b=some (.tup (k.map kV))/\kvs.length < sizeLine/\H'=upd H a (.dT (ff kvs k v) n)
theorem DGet.t {n:Int} (e:H a=some (.dT kvs n)) (c:H b=some (.tup (k.map kV))):DGet H a (.ref b) (ke kvs k):=.inr #[kvs,k,b,#[n,.inl e],rfl,c,rfl]
theorem DPut.t {n:Int} (e:H a=some (.dT kvs n)) (c:H b=some (.tup (k.map kV))) (hl:kvs.length < sizeLine) :
  DPut H a (.ref b) v (upd H a (.dT (ff kvs k v) n)):=.inr #[kvs,k,b,n,e,rfl,c,hl,rfl]
section
variable {X:Cx} {pins:List (Addr×Obj)} {U:St} {H:Hp} {s:Shared} {a:Addr} {y v:V} {u r:Value} {o:Option V} {A:Around} {E:Value->Shared->Prop}
theorem Inv.big (I:Inv X pins U H s):sysModules < s.heap.objs.size:=by
 have h:mainGlobals < s.heap.objs.size:=(I.mod.glob.keeps I.bk).lt
 exact Nat.lt_trans (by decide) h
theorem vi (hu:A.units+1 < cLine) (I:Inv X pins U H s) (g:DGet H a y (some v)) (i:RelV y u) (h:∀ j s',Inv X pins U H s'->RelV v j->Q j s') :
  wpAny (model X.prog X.w) A (getItem (.ref a) u) Q E s:=by
 rcases g with ⟨kvs,k,e,f,l⟩ | ⟨kvs,k,b,e,f,n,l⟩
 .subst f
  obtain ⟨z,hd,vs,rel,dd⟩:=Ce I.hok e
  obtain ⟨j,hw,c⟩:=RelO.some_of (v:=v) (o:=valueAt vs k) (by rw[l];exact rel.val k)
  exact wpAny_getItem_of (tz i) dd.mapOf hw (h j _ (I.tok _) c)
 .subst f
  cases (show u=Value.ref b from i)
  obtain ⟨z,hd,xs,rel,dd⟩:=Cd I.hok e
  obtain ⟨j,hw,c⟩:=RelO.some_of (v:=v) (o:=(atKey xs k).map (·.2)) (by rw[l];exact rel.val k)
  obtain ⟨p,m,d⟩:=Fh.mp hw
  refine wpAny_getItem_heap (tupleKind_room_in1 hu) (om I.hok n) dd m ?_
  rw[d]
  exact h j _ (I.tok _) c
theorem kF {t':Nat} (I:Inv X pins U H s) (d:Mut (H a)) (f:Heap.SameBut a s.heap h') (he:∃ q,h'.get? a=some q) (new:ObjOk X.prog X.w (upd H a ob) h' a ob) :
  Inv X pins U (upd H a ob) { s with heap:=h',toks:=t' } :=
 I.write (x:=a) (e:=a) d (.inl rfl) (λb q c z=>(f.2 b c).trans z) he new
theorem yG (z:kvs.length<=sizeLine) (hd:(a == sysModules)=false) (rel:KV kvs vs) (dd:DictOfE (bV P w) h' a vs) :
  ObjOk P w H' h' a (.dK kvs):=#[z,hd,vs,rel,dd]
theorem vh (hu:A.units+1 < cLine) (I:Inv X pins U H s) (g:DPut H a y v H') (o:RelV y u) (p:RelV v r) (h:∀ s',Inv X pins U H' s'->Q () s') :
  wpAny (model X.prog X.w) A (setItem (.ref a) u r) Q E s:=by
 rcases g with ⟨kvs,k,e,m,l,j⟩ | ⟨kvs,k,b,n,e,m,t,l,j⟩
 .subst m j
  obtain ⟨z,hd,vs,rel,dd⟩:=rT I.hok (.inl e)
  have hz:vs.length<=sizeLine:=by rw[<- rel.length];exact z
  have hl:(ff kvs k v).length<=sizeLine:=by have:=j9 kvs k v;omega
  refine kQ (hsz:=hz) (tz o) dd λh' d i=>h _ ?_
  have he:∃ q,h'.get? a=some q:=let #[q,_,_,f,_]:=d;#[q,f]
  exact kF I (by rw[e];exact True.intro) i he (yG hl hd (rel.put k p) d)
 .subst m j
  cases (show u=Value.ref b from o)
  obtain ⟨z,hd,xs,rel,dd⟩:=rS I.hok (.inl e)
  have hz:xs.length<=sizeLine:=by rw[<- Paired.length rel];exact z
  have hl:(ff kvs k v).length<=sizeLine:=by have:=j9 kvs k v;omega
  refine lM (hsz:=hz) (tupleKind_room_in1 hu) (om I.hok t) dd λh' d i=>h _ ?_
  obtain ⟨q,es,D,f,h2,h3,B,_,C⟩:=d
  refine kF I (by rw[e];exact True.intro) i #[q,f] #[hl,hd,_,(rel.put k t p).keeps λc ys x=>?_,q,es,D,f,h2,h3,B,C]
  rw[av (BV x e (λz=>nomatch z))]
  exact x
end
theorem qy (I:Inv X pins U H s) (g:DGet H a y o):s.TypeIs (.ref a) "dict":=by
 rcases g with ⟨kvs,k,e,_,_⟩ | ⟨kvs,k,b,e,_,_,_⟩
 .obtain ⟨_,_,vs,_,dd⟩:=Ce I.hok e
  exact dd.typeIs
 .obtain ⟨_,_,xs,_,dd⟩:=Cd I.hok e
  exact dd.typeIs
theorem yH (h:Heap) (a:sysModules < h.objs.size):ObjOk P w H (h.push { cls:=.type "dict",data:=.dict (List.toArray []) }) h.objs.size (.dK []) :=
 #[Nat.zero_le _,beq_eq_false_iff_ne.mpr (Ne.symm (FD a)),[],.nil,_,(List.toArray []),0,Fs _ rfl,#[rfl,rfl,rfl],rfl,(λ_ h=>by simp at h),.nil,List.nodup_nil,rfl]
theorem yE (h:Heap) (a:sysModules < h.objs.size):ObjOk P w H (h.push { cls:=.type "dict",data:=.dict (List.toArray []) }) h.objs.size (.dT [] 0) :=
 #[Nat.zero_le _,beq_eq_false_iff_ne.mpr (Ne.symm (FD a)),[],.nil,_,(List.toArray []),0,Fs _ rfl,#[rfl,rfl,rfl],rfl,rfl,List.nodup_nil,rfl]
end L2
namespace L2
open PySem PySem.Spec PyProof.Rows
end L2
end
section
namespace L2
open PySem PySem.Spec PyProof.Rows
def ki (cells:List (Str×Addr)) (cs:List (Str×Addr)) (x:Str×NameKind):List (Str×Addr) :=
 if x.2 == .free then (match cells.lookup x.1 with | some c=>(x.1,c)::cs | none=>cs) else cs
def clo (cells:List (Str×Addr)) (names:List (Str×NameKind)):List (Str×Addr):=names.foldl (ki cells) []
theorem lu {α β:Type} {f:α->β->Sem (ForInStep β)} {g:β->α->β}:∀ {l:List α} {c:β},(∀ x∈l,∀ c,f x c=pure (.yield (g c x)))->forIn l c f=pure (l.foldl g c)
 | [],c,_=>rfl
 | x::l,c,h=>by
  rw[List.forIn_cons,h x Fe,pure_bind]
  exact lu λy j=>h y (Ff _ j)
theorem gv (h:∀ x∈scope.names,x.2=.free->∃ c,env.cells.lookup x.1=some c):closureFor scope env=pure (clo env.cells scope.names):=by
 simp only[closureFor]
 rw[lu (g:=ki env.cells) (λx d c=>by
  obtain ⟨n,kind⟩:=x
  unfold ki
  by_cases b:kind=.free
  .subst b
   obtain ⟨a,e⟩:=h _ d rfl
   have i:env.cells.lookup n=some a:=e
   simp[cellOf,i]
  .have f:(kind == NameKind.free)=false:=by simpa using b
   simp[f])]
 rfl
theorem mO:∀ {l:List (Str×NameKind)} {cs:List (Str×Addr)},(∀ y d,cs.lookup y=some d->cells.lookup y=some d)->(l.foldl (ki cells) cs).lookup x=some c->cells.lookup x=some c
 | [],cs,h,e=>h x c e
 | y::l,cs,h,e=>by
  refine mO (l:=l) (cs:=ki cells cs y) (λz d q=>?_) e
  unfold ki at q
  split at q
  .cases b:cells.lookup y.1 with
   | none=>rw[b] at q;exact h z d q
   | some a =>
    rw[b] at q
    simp only[List.lookup_cons] at q
    cases hz:z == y.1 with
    | true=>rw[hz] at q;have:=eq_of_beq hz;subst this;rw[b];exact q
    | false=>rw[hz] at q;exact h z d q
  .exact h z d q
theorem fv (e:(clo cells l).lookup x=some c):cells.lookup x=some c:=mO (λ_ _ q=>by simp at q) e
theorem lw (b:cells.lookup x=some c):∀ {l:List (Str×NameKind)} {cs:List (Str×Addr)},cs.lookup x=some c->(l.foldl (ki cells) cs).lookup x=some c
 | [],_,e=>e
 | y::l,cs,e=>by
  refine lw b (l:=l) (cs:=ki cells cs y) ?_
  unfold ki
  split
  .cases d:cells.lookup y.1 with
   | none=>exact e
   | some a =>
    simp only[List.lookup_cons]
    cases hz:x == y.1 with
    | true=>have:=eq_of_beq hz;subst this;rw[b] at d;exact d.symm
    | false=>exact e
  .exact e
theorem mP (a:cells.lookup x=some c):∀ {l:List (Str×NameKind)} {cs:List (Str×Addr)},(x,NameKind.free)∈l->(l.foldl (ki cells) cs).lookup x=some c
 | [],_,m=>by simp at m
 | y::l,cs,m=>by
  rcases Fm.mp m with rfl | m
  .refine lw a (l:=l) ?_
   simp[ki,a]
  .exact mP a (l:=l) (cs:=ki cells cs y) m
theorem tZ (a:cells.lookup x=some c) (m:(x,NameKind.free)∈l):(clo cells l).lookup x=some c:=mP a m
theorem jh {env:Env}:∀ {names:List (Str×NameKind)} {x:Str},names.lookup x=some .free ->
  (names.map λ(n,k)=>if (k == NameKind.free && env.scope.kind == .function && env.kindOf n == some .cell) then (n,NameKind.cell) else (n,k)).lookup x=some .cell \/
  (names.map λ(n,k)=>if (k == NameKind.free && env.scope.kind == .function && env.kindOf n == some .cell) then (n,NameKind.cell) else (n,k)).lookup x=some .free
 | [],_,h=>by simp at h
 | (n,k)::r,x,h=>by
  have j:=@jh env r x
  show List.lookup x ((if (k == NameKind.free && env.scope.kind == .function && env.kindOf n == some .cell)=true then (n,NameKind.cell) else (n,k))::_)=_ \/
   List.lookup x ((if (k == NameKind.free && env.scope.kind == .function && env.kindOf n == some .cell)=true then (n,NameKind.cell) else (n,k))::_)=_
  cases a:x == n with
  | true =>
   simp only[List.lookup_cons,a] at h
   cases h
   split
   .left;simp[List.lookup_cons,a]
   .right;simp[List.lookup_cons,a]
  | false =>
   simp only[List.lookup_cons,a] at h
   split
   .simp only[List.lookup_cons,a];exact j h
   .simp only[List.lookup_cons,a];exact j h
theorem kW {env:Env}:∀ {names:List (Str×NameKind)} {x:Str},
  ((names.map λ(n,k)=>if (k == NameKind.free && env.scope.kind == .function && env.kindOf n == some .cell) then (n,NameKind.cell) else (n,k)).lookup x=some .cell \/
  (names.map λ(n,k)=>if (k == NameKind.free && env.scope.kind == .function && env.kindOf n == some .cell) then (n,NameKind.cell) else (n,k)).lookup x=some .free)->(x,NameKind.free)∈names\/(x,NameKind.cell)∈names
 | [],_,h=>by simp at h
 | (n,k)::r,x,h=>by
  have j:=@kW env r x
  have h':List.lookup x ((if (k == NameKind.free && env.scope.kind == .function && env.kindOf n == some .cell)=true then (n,NameKind.cell) else (n,k))::(r.map λ(n,k)=>if (k == NameKind.free && env.scope.kind == .function && env.kindOf n == some .cell) then (n,NameKind.cell) else (n,k)))=some .cell \/
   List.lookup x ((if (k == NameKind.free && env.scope.kind == .function && env.kindOf n == some .cell)=true then (n,NameKind.cell) else (n,k))::(r.map λ(n,k)=>if (k == NameKind.free && env.scope.kind == .function && env.kindOf n == some .cell) then (n,NameKind.cell) else (n,k)))=some .free:=h
  cases a:x == n with
  | true =>
   have e:=eq_of_beq a
   subst e
   by_cases hf:k=.free
   .subst hf;exact .inl Fe
   .have b:(k == NameKind.free)=false:=by simpa using hf
    simp[b,List.lookup_cons] at h'
    rcases h' with q | q
    .subst q;exact .inr Fe
    .exact (hf q).elim
  | false =>
   refine (j ?_).imp (Ff _) (Ff _)
   split at h'
   .simpa only [List.lookup_cons,a] using h'
   .simpa only [List.lookup_cons,a] using h'
theorem lA {x:Str} {c:Addr}:∀ {names:List (Str×NameKind)} {n:Nat} {acc:List (Str×Addr)},(cellsFrom n names acc).lookup x=some c->n<=c\/acc.lookup x=some c
 | [],_,_,h=>.inr h
 | (y,k)::r,n,acc,h=>by
  unfold cellsFrom at h
  split at h
  .rcases lA h with q | q
   .exact .inl (Nat.le_of_succ_le q)
   .rw[List.lookup_cons] at q
    split at q
    .cases q;exact .inl (FA _)
    .exact .inr q
  .exact lA h
set_option tactic.hygienic true in
theorem yQ {x:Str} {c:Addr} {lo:Nat}:∀ {names:List (Str×NameKind)} {n:Nat} {acc:List (Str×Addr)},lo<=n->((x,NameKind.cell)∈names\/∀ d,acc.lookup x=some d->lo<=d)->(cellsFrom n names acc).lookup x=some c->lo<=c
 | [],_,_,_,m,h=>m.elim (λm=>by simp at m) λm=>m c h
 | (y,k)::r,n,acc,hl,m,h=>by
  unfold cellsFrom at h
  split at h
  .refine yQ (Nat.le_succ_of_le hl) ?_ h
   by_cases e:x=y
   .refine .inr λd hd=>?_
    rw[List.lookup_cons,beq_iff_eq.mpr e] at hd
    cases hd;exact hl
   .refine m.imp (λm=>(Fm.mp m).resolve_left λz=>e (Prod.mk.inj z).1) λm d hd=>m d ?_
    rw[List.lookup_cons,beq_false_of_ne e] at hd
    exact hd
  .rename_i j
   exact yQ hl (m.imp_left λm=>(Fm.mp m).resolve_left λz=>j (by rw[<- (Prod.mk.inj z).2];rfl)) h
set_option tactic.hygienic true in
theorem rW {x:Str}:∀ {names:List (Str×NameKind)} {n:Nat} {acc:List (Str×Addr)},(x,NameKind.cell) ∉ names->(cellsFrom n names acc).lookup x=acc.lookup x
 | [],_,_,_=>rfl
 | (y,k)::r,n,acc,h=>by
  have h2:(x,NameKind.cell) ∉ r:=λm=>h (Ff _ m)
  unfold cellsFrom
  split
  .rename_i a
   rw[rW h2,List.lookup_cons,beq_false_of_ne λe=>h (by rw[e,<- eq_of_beq a];exact Fe)]
  .exact rW h2
theorem rX:∀ {names:List (Str×NameKind)} {n:Nat} {acc:List (Str×Addr)},(∀ x y c,acc.lookup x=some c->acc.lookup y=some c->x=y)->(∀ x c,acc.lookup x=some c->c < n)->∀ x y c,(cellsFrom n names acc).lookup x=some c->(cellsFrom n names acc).lookup y=some c->x=y
 | [],_,_,h,_=>h
 | (z,k)::r,n,acc,h,hl=>by
  unfold cellsFrom
  split
  .refine rX (λx y c e1 j=>?_) λx c e=>?_
   .rw[List.lookup_cons] at e1 j
    cases J:x == z <;> cases I:y == z <;> rw[J] at e1 <;> rw[I] at j
    .exact h x y c e1 j
    .cases j;exact absurd (hl _ _ e1) (Nat.lt_irrefl _)
    .cases e1;exact absurd (hl _ _ j) (Nat.lt_irrefl _)
    .rw[eq_of_beq J,eq_of_beq I]
   .rw[List.lookup_cons] at e
    split at e
    .cases e;exact Nat.lt_succ_self _
    .exact Nat.lt_succ_of_lt (hl x c e)
  .exact rX h hl
theorem oP:∀ {names:List (Str×NameKind)} {h:Heap} {acc:List (Str×Addr)},(∀ x c,acc.lookup x=some c->∃ v,h.IsCell c v)->∀ x c,(cellsFrom h.objs.size names acc).lookup x=some c->∃ v,(pushCells h names).IsCell c v
 | [],_,_,h=>h
 | (z,k)::r,hp,acc,h=>by
  unfold cellsFrom pushCells
  split
  .have:=oP (names:=r) (h:=hp.push { cls:=.type "cell",data:=.cell none }) (acc:=(z,hp.objs.size)::acc) λx c e=>by
    rw[List.lookup_cons] at e
    split at e
    .cases e;exact #[none,_,Fs _ rfl,rfl]
    .obtain ⟨v,q⟩:=h x c e
     exact #[v,q.keeps λb o e=>Fg _ e]
   rwa [FY] at this
  .exact oP h
theorem lI {M:Model} {A:Around} {E:Value->Shared->Prop} {s:Shared} {scope:Scope} {globals:Addr} {cl:List (Str×Addr)} {qual:Str} {env:Env} {Q:Env->Shared->Prop}
  (h:Q (newEnv scope s.heap.objs.size globals (cellsFrom (s.heap.objs.size+1) scope.names cl) qual none .none (some env) builtinsNs) { s with heap:=pushCells (s.heap.push { cls:=.type "dict",data:=.dict (List.toArray []) }) scope.names }) :
  wpAny M A (newFunctionEnv scope globals cl [] qual none .none (some env)) Q E s:=by
 simp only[newFunctionEnv,Option.isSome_some,if_true]
 refine Fb (wpAny_alloc ?_)
 refine Fb (wpAny_layCells _ (λname kind cells=>by cases a:kind == NameKind.cell <;> simp[a]) _ _ _ _ ?_)
 rw[show ({ s with heap:=s.heap.push { cls:=.type "dict",data:=.dict (List.toArray []) } }:Shared).heap.objs.size=s.heap.objs.size+1 from FY ..]
 exact Fb (by rw[List.forIn_nil];exact Fc (Fc h))
abbrev kG (X:Cx) (scope:Scope) (C:Addr):List (Str×Addr):=cellsFrom (C+1) scope.names (clo X.env.cells scope.names)
def aS (X:Cx) (NY:List Str) (scope:Scope) (s:Shared) (H:Hp) (C:Addr) (fp:List Addr):Cx where
 prog:=X.prog
 w:=X.w
 K:=X.K
 mg:=X.mg
 base:=X.base
 A:=X.A
 N:=NY
 s₀:=s
 H₀:=H
 env:=compEnvC scope (kG X scope C) C X.env
 outer:=X.stack
 stack:=X.stack
 ex:=fp
 fn:=λx=>scope.names.lookup x == some .cell
 calm:=X.calm
 pn:=[]
 xe:=λ_ _=>False
def cap (ix:List (Option Nat)) (U:St):St:=ix.map λo=>match o with | some i=>(U[i]?).getD none | none=>none
def gq (sc:Scope) (b:List Str) (a:Scope) (NY:List Str) (ix:List (Option Nat)):Bool :=
 sc.kind == .function && sc.names.all (λy=>y.2 != .cell || sc.names.lookup y.1 == some .cell) && sc.names.all (λy=>y.2 != .local || sc.names.lookup y.1 == some .local) && sc.names.all (λy=>y.2 != .free || sc.names.lookup y.1 == some .free)
  && sc.names.all (λy=>y.2 != .free || (a.names.lookup y.1 == some .cell || a.names.lookup y.1 == some .free))
  && ix.length == NY.length && (NY.zip ix).all λp=>match p.2 with | none=>true | some i=>(b[i]? == some p.1) && sc.names.contains (p.1,NameKind.free)
structure CompOk (sc:Scope) (XN:List Str) (Xsc:Scope) (NY:List Str) (ix:List (Option Nat)):Prop where
 kind:sc.kind=.function
 cel:∀ y∈sc.names,y.2=.cell->sc.names.lookup y.1=some .cell
 loc:∀ y∈sc.names,y.2=.local->sc.names.lookup y.1=some .local
 fre:∀ y∈sc.names,y.2=.free->sc.names.lookup y.1=some .free
 out:∀ y∈sc.names,y.2=.free->Xsc.names.lookup y.1=some .cell\/Xsc.names.lookup y.1=some .free
 len:ix.length=NY.length
 cap:∀ (j:Nat) x i,NY[j]?=some x->ix[j]?=some (some i)->XN[i]?=some x/\(x,NameKind.free)∈sc.names
theorem CompOk.of (h:gq sc XN Xsc NY ix=true):CompOk sc XN Xsc NY ix:=by
 simp only[gq,Bool.and_eq_true,List.all_eq_true,beq_iff_eq] at h
 obtain ⟨⟨⟨⟨⟨⟨h1,h2⟩,h3⟩,c⟩,d⟩,h6⟩,b⟩:=h
 refine #[h1,λy a e=>?_,λy a e=>?_,λy a e=>?_,λy a e=>?_,h6,λj x i e1 f=>?_]
 .have:=h2 y a;rw[e] at this;simpa using this
 .have:=h3 y a;rw[e] at this;simpa using this
 .have:=c y a;rw[e] at this;simpa using this
 .have:=d y a;rw[e] at this;simpa using this
 .have m:(x,some i)∈NY.zip ix:=by
   refine Fv (i:=j) ?_
   rw[List.getElem?_zip_eq_some]
   exact #[e1,f]
  have:=b _ m
  simpa using this
section
variable {X:Cx}
theorem FpOk.of_upd (f:FpOk X pins H b) (h:b≠D):FpOk X pins (upd H D o) b:=#[by rw[av h];exact f.1,f.2]
theorem HOk.track (x:HOk P w H h) (d:H a=none) (new:ObjOk P w (upd H a o) h a o):HOk P w (upd H a o) h:=λb u e=>by
 by_cases f:b=a
 .subst f;rw[aI] at e;cases e;exact new
 .rw[av f] at e
  exact (x b u e).stay (λc v _ q=>q) (λc q=>by rw[av (aU q d)];exact q) λc xs q=>by rw[av (aU q d)];exact q
def PTs (τ:Cx) (ifs:List Expr) (t:TT):Prop :=
 ∀ (pins:List (Addr×Obj)) (s:Shared) (U:St) (H:Hp) (Q:Bool->Hp->Prop),Inv τ pins U H s->t U H Q ->
  wpAny (model τ.prog τ.w) τ.A (forIn ifs true λc r=>if r=true then do let ok <- isTrue c τ.env (eval c τ.env);pure (ForInStep.yield ok) else pure (ForInStep.yield r)) (TP τ pins U Q) τ.xe s
def tYes:TT:=λ_ H Q=>Q true H
theorem Ap:PTs τ [] tYes:=λpins s U H Q I h=>wpAny_tests_nil #[H,I,h]
theorem Ao (h:PT τ c t):PTs τ [c] t:=λpins s U H Q I q=>wpAny_tests_one (h pins s U H Q I q)
def qI (J:It) (g:TG) (tc:TT) (te:TE) (ρ:List V->Hp->Prop) (Y0:St) (H1:Hp):Prop :=
 ∃ W:Nat->Nat->List V->St->Hp->Prop,(∃ m,W 0 m [] Y0 H1)/\∀ i m ys Y H,W i m ys Y H->ys.length < sizeLine /\
  ((J.stop i H/\ρ ys H)\/(J.go i H/\∃ N:List V->St->Hp->Prop,(∀ a Y' H',N a Y' H'->∃ d,d < m/\W (i+1) d a Y' H')/\∀ x H',J.yld i H x H'->g x Y H' λY2 H2=>tc Y2 H2 λb c =>
   if b=true then te Y2 c λy e=>N (ys++[y]) Y2 e else N ys Y2 c))
def BJ (a:TI) (g:TG) (tc:TT) (te:TE) (ix:List (Option Nat)):TE:=λU H Q =>
 a U H λJ H1=>qI J g tc te (λys H2=>∀ p,H2 p=none->Q (.ref p) (upd H2 p (.lst ys))) (cap ix U) H1
theorem rV (d:CompOk scope X.N X.env.scope NY ix) (I:Inv X pins U H s) (f:∀ b∈fp,FpOk X pins H b) (j:s.heap.objs.size<=C) (n:∀ b∈fp,b < s.heap.objs.size) (K:s4.os=s.os) (J:s4.gens=s.gens) (keep:∀ b o,s.heap.get? b=some o->s4.heap.get? b=some o) (ns:s4.heap.Ns C λ_=>none) (w:∀ x c,(kG X scope C).lookup x=some c->∃ v,s4.heap.IsCell c v):Inv (aS X NY scope s H C fp) [] (cap ix U) H s4:=by
 have M:FpOk X pins H C:=I.fpOk j (I.hok.fresh j)
 have sb:∀ x c,(kG X scope C).lookup x=some c->C+1<=c\/X.env.cells.lookup x=some c:=λx c e=>(lA e).imp_right fv
 have lt:∀ x c,X.env.cells.lookup x=some c->c < s.heap.objs.size:=λx c e=>let #[_,q]:=I.cell x c e;q.lt
 have t:∀ x,(x,NameKind.free)∈scope.names->∃ c,X.env.cells.lookup x=some c:=λx m=>by
  rcases d.out _ m rfl with q | q
  .exact I.ok.has x (.inl q)
  .exact I.ok.has x (.inr q)
 refine ⟨⟨I.ok.mod,d.kind,I.ok.glob,I.ok.blt,j,rX (λx y c e1 A=>I.ok.inj x y c (fv e1) (fv A)) (λx c e=>Nat.lt_succ_of_le (F1 (Nat.le_of_lt (lt x c (fv e))) j)),λx D=>?_,λx c e h=>F1 j (Nat.le_of_succ_le (yQ (FA _) (.inl (PySem.mem_of_lookup (eq_of_beq e))) h)),λe=>I.ok.hd e,I.ok.frames,.inl rfl,λb g=>⟨FD (FJ (n b g) j),λx c e=>(sb x c e).elim (λz=>Nat.ne_of_gt (FJ (n b g) (F1 j (Nat.le_of_succ_le z)))) λz=>(f b g).2.2.2.2.1 x c z⟩,
  I.bs,F1 I.ok.bsz I.sz,λb o e g=>?_,λb g hz=>?_,I.stack,I.stkFree⟩,K,by rw[J];exact I.bare,Un.kept keep,⟨_,ns,λi x v e1 A T=>?_⟩,w,M.1,λx c e=>(sb x c e).elim (λz=>I.hok.fresh (F1 j (Nat.le_of_succ_le z))) λz=>I.freeC x c z,λp F=>absurd (show p∈([]:List (Addr×Obj)) from F) (by simp),I.hok.kept keep,?_⟩
 .refine Option.isSome_iff_exists.mp (PySem.W.cellsFrom_some _ _ _ ?_)
  rcases kW D with m | m
  .obtain ⟨c,e⟩:=t x m
   exact .inr (by rw[tZ e m];rfl)
  .exact .inl (d.cel _ m rfl)
 .rcases (f b g).2.2.2.1 with z | z
  .exact I.ok.noex b o e z
  .exact absurd (FJ (Fp e) (F1 I.ok.bsz z)) (Nat.lt_irrefl _)
 .rcases Fm.mp (I.stkSub b hz) with e | e
  .exact (f b g).2.1 e
  .exact (f b g).2.2.1 e
 .-- a captured name
  have q:∃ k,ix[i]?=some (some k)/\U[k]?=some (some v):=by
   unfold cap at A
   grind
  obtain ⟨k,O,ev⟩:=q
  obtain ⟨L,m⟩:=d.cap i x k e1 O
  obtain ⟨S,R,hl⟩:=I.loc
  have Q:Vis X.env.scope x:=by
   rcases d.out _ m rfl with q | q
   .exact .inr (.inl q)
   .exact .inr (.inr q)
  obtain ⟨u,r,l⟩:=hl k x v L ev Q
  refine #[u,r,.inr ?_]
  rcases l with ⟨B,_⟩ | ⟨_,c,P,G⟩
  .exfalso
   rcases d.out _ m rfl with q | q
   .have:=B.symm.trans q;cases this
   .have:=B.symm.trans q;cases this
  .obtain ⟨o,E,hd⟩:=G
   exact #[jh (d.fre _ m rfl),c,(rW λz=>by have h1:scope.names.lookup x=_:=d.cel _ z rfl;rw[show scope.names.lookup x=_ from d.fre _ m rfl] at h1;cases h1).trans (tZ P m),o,keep c o E,hd]
 .show (cap ix U).length=NY.length
  unfold cap
  rw[Ft]
  exact d.len
set_option tactic.hygienic true in
theorem gu (I:Nat->Shared->Prop) (turn:∀ n s,I n s->wpAny (model prog w) A (pyNext it) (λr J=>match r with
   | none=>R (.ok .next) J
   | some v=>wpAny (model prog w) A (letOwnedTupleGo target it v) (λ_ j=>wpAny (model prog w) A (assign target env v) (λ_ V =>
     wpAny (model prog w) A (forIn ifs true λc r=>if r=true then do let ok <- isTrue c env (eval c env);pure (ForInStep.yield ok) else pure (ForInStep.yield r)) (λok O =>
      if ok=true then wpAny (model prog w) A (eval elt env) (λx S =>
       wpAny (model prog w) A (call (.builtin "list.append") [acc,x]) (λ_ σ=>∃ m,m < n/\I m σ) (λ_ _=>False) S) (λ_ _=>False) O
      else ∃ m,m < n/\I m O) (λ_ _=>False) V) (λ_ _=>False) j) (λ_ _=>False) J) (λ_ _=>False) s) (n:Nat) (h:I n s) :
  codeAny (model prog w) A (.compLoop (.ListComp elt [#[target,iter,ifs,0]] scope pos) 0 it acc env) R s:=by
 refine codeAny_loop rfl I (λn s e=>?_) n h
 show wpAny _ A ((compTurn (.ListComp elt [#[target,iter,ifs,0]] scope pos) 0 it acc env).onRaise (λx=>do noteFrame x env;theTreesLotGoes x)) _ _ s
 refine wpAny_noted ?_
 rw[compTurn_list]
 refine Fb (wpAny_standAt (Fb (wpAny_mono (turn n s e) (λr J d=>?_) λ_ _ h'=>h'.elim)))
 cases r with
 | none=>exact Fc d
 | some v =>
  refine Fb (wpAny_mono d (λ_ j a=>?_) λ_ _ h'=>h'.elim)
  refine Fb (wpAny_mono a (λ_ V g=>Fb (wpAny_mono g (λok O b=>?_) λ_ _ h'=>h'.elim)) λ_ _ h'=>h'.elim)
  cases ok with
  | false=>exact Fc #[rfl,b]
  | true =>
   exact Fb (Fb (wpAny_mono b (λx S f=>Fb (wpAny_mono f (λ_ σ i=>Fc (Fc #[rfl,i])) λ_ _ h'=>h'.elim)) λ_ _ h'=>h'.elim))
set_option tactic.hygienic true in
theorem qB {RR:Value->Addr->Result->Shared->Prop} (hc:X.calm=true) (ck:CompOk scope X.N X.env.scope NY ix) (hg:∀ s H C fp,PG (aS X NY scope s H C fp) tg g) (ht:∀ s H C fp,PTs (aS X NY scope s H C fp) ifs tc) (he:∀ s H C fp,PE (aS X NY scope s H C fp) elt te) (I:Inv X pins U H s) (T:Turn X.prog X.w X.K tg J fp it tn) (st:tn 0 s.heap) (f:∀ b∈fp,FpOk X pins H b) (hW:qI J g tc te ρ (cap ix U) H) (bt:∀ D C s' ys H' m,s'.heap.Ns C m->H' D=none->FpOk X pins (upd H' D (.lst ys)) C->Inv X pins U (upd H' D (.lst ys)) s'->ρ ys H'->RR (.ref D) C (.ok .next) s') :
  wpAny (model X.prog X.w) X.A (newList []) (λacc s₃=>wpAny (model X.prog X.w) X.A (newFunctionEnv scope X.env.globals (clo X.env.cells scope.names) [] X.env.qual none .none (some X.env)) (λO s₄ =>
   codeAny (model X.prog X.w) X.A (.compStart (.ListComp elt [#[tg,iter,ifs,0]] scope pos) 0 (.ref it) acc { O with scope:=relabel scope X.env }) (RR acc O.locals) s₄) E s₃) E s:=by
 obtain ⟨W,⟨m0,w0⟩,turn⟩:=hW
 refine wpAny_newObj_type (lI ?_)
 dsimp only
 generalize G:s.heap.push { cls:=.type "list",dict:=none,data:=.seq ([]:List Value).toArray }=H2
 have V:H2.objs.size=s.heap.objs.size+1:=by rw[<- G,FY]
 have M:s.heap.objs.size≠H2.objs.size:=by rw[V];exact FD (Nat.lt_succ_self _)
 have j:s.heap.objs.size<=H2.objs.size:=by rw[V];exact Nat.le_succ _
 generalize P:s.heap.objs.size=D at *
 generalize hC:H2.objs.size=C at *
 have below:∀ b o,s.heap.get? b=some o->b < D:=λb o e=>by rw[<- P];exact Fp e
 have kp:∀ b o,H2.get? b=some o->(pushCells (H2.push { cls:=.type "dict",data:=.dict (List.toArray []) }) scope.names).get? b=some o:=λb o e=>pushCells_keeps _ _ b o (Fg _ e)
 have t:∀ b o,s.heap.get? b=some o->H2.get? b=some o:=λb o e=>G ▸ Fg _ e
 have az:∀ x c,(kG X scope C).lookup x=some c->∃ v,(pushCells (H2.push { cls:=.type "dict",data:=.dict (List.toArray []) }) scope.names).IsCell c v:=by
  have:=oP (names:=scope.names) (h:=H2.push { cls:=.type "dict",data:=.dict (List.toArray []) }) (acc:=clo X.env.cells scope.names) λx c e=>let #[v,q]:=I.cell x c (fv e);#[v,q.keeps λb o e=>Fg _ (t b o e)]
  rwa [FY,hC] at this
 have hns₁:(pushCells (H2.push { cls:=.type "dict",data:=.dict (List.toArray []) }) scope.names).Ns C λ_=>none:=hC ▸ (Heap.Ns.new H2 (.type "dict")).keeps (pushCells_keeps _ _)
 generalize pushCells (H2.push { cls:=.type "dict",data:=.dict (List.toArray []) }) scope.names=h₁ at kp az hns₁ ⊢
 have old:∀ b o,s.heap.get? b=some o->h₁.get? b=some o:=λb o e=>kp b o (t b o e)
 have F:H2.get? D=some { cls:=.type "list",dict:=none,data:=.seq ([]:List Value).toArray }:=by
  rw[<- G,<- P];exact Fs _ rfl
 have ae:h₁.PlainList D (List.toArray []):=#[_,kp _ _ F]
 have σ:∀ b∈fp,b < s.heap.objs.size:=λb a=>by
  obtain ⟨o,e,_⟩:=T.obj 0 _ st b a
  exact Fp e
 have k:∀ b∈fp,b < D:=λb a=>by rw[<- P];exact σ b a
 have IY:Inv (aS X NY scope s H C fp) [] (cap ix U) H { s with heap:=h₁ } :=
  rV ck I f (by rw[P];exact j) σ rfl rfl old hns₁ az
 have b5:H D=none:=I.hok.fresh (by rw[P];exact FA _)
 have l:∀ b∈frs X.stack,b < D:=λb a=>by
  obtain ⟨_,o,ho,_⟩:=I.stack.mem a
  exact below b o ho
 have loop:∀ s₃:Shared,s₃={ s with heap:=h₁ } ->
   codeAny (model X.prog X.w) X.A (.compLoop (.ListComp elt [#[tg,iter,ifs,0]] scope pos) 0 (.ref it) (.ref D) (aS X NY scope s H C fp).env) (RR (.ref D) C) s₃:=by
  rintro s₃ rfl
  refine gu (λn s'=>∃ i ys Y H' its,Inv (aS X NY scope s H C fp) [] Y H' s'/\H' D=none/\s'.heap.PlainList D its/\Vals ys its.toList/\tn i s'.heap/\(∀ b∈fp,H' b=none)/\W i n ys Y H') ?_ m0
   #[0,[],cap ix U,H,(List.toArray []),IY,b5,ae,.nil,T.keep _ _ _ st λb _ o e=>old b o e,λb a=>(f b a).1,w0]
  rintro n s3 ⟨i,ys,Y,S,its,I3,d3,l3,v3,ar,a5,w3⟩
  obtain ⟨nl,e3⟩:=id l3
  have τ:Inv (aS X NY scope s H C fp) [(D,{ cls:=.type "list",data:=.seq its nl })] Y S s3:=I3.pins_of λp hp=>by
   have e:p=(D,{ cls:=.type "list",data:=.seq its nl }):=by simpa using hp
   subst e
   exact #[e3,d3,M,λz=>Nat.lt_irrefl _ (l D z),λv z=>by cases z]
  have R:∀ {H':Hp} {pl:List (Addr×Obj)},(∀ b∈fp,H' b=none)->(∀ p∈pl,p.1=D)->∀ b∈fp,FpOk (aS X NY scope s H C fp) pl H' b:=λhn hp b a =>
   ⟨hn b a,FD (FJ (k b a) j),λz=>by
    rcases Fm.mp (I.stkSub b z) with e | e
    .exact (f b a).2.1 e
    .exact (f b a).2.2.1 e,.inl a,λx c e=>(lA e).elim (λz=>Nat.ne_of_gt (FJ (k b a) (F1 j (Nat.le_of_succ_le z)))) λz=>(f b a).2.2.2.2.1 x c (fv z),λp a6=>by
    have e:p.1=D:=hp p ((Fq.mp a6).elim (λz=>absurd (show p∈([]:List (Addr×Obj)) from z) (by simp)) λz=>z)
    rw[e]
    exact Nat.ne_of_gt (k b a)⟩
  obtain ⟨zl,step⟩:=turn i n ys Y S w3
  have single:∀ p∈[(D,({ cls:=.type "list",data:=.seq its nl }:Obj))],p.1=D:=λp hp=>by
   have e:p=(D,{ cls:=.type "list",data:=.seq its nl }):=by simpa using hp
   rw[e]
  rcases step with ⟨stop,qn⟩ | ⟨go,N,hN,step⟩
  .refine wpAny_mono (T.done (aS X NY scope s H C fp) rfl rfl rfl hc i _ s3 Y S (λ_ _=>False) τ (R a5 single) ar stop) (λr s4 #[hr,L]=>?_) λ_ _ e=>e
   subst hr
   obtain ⟨mC,b6,_⟩:=id L.loc
   obtain ⟨e4,d4,_⟩:=L.pin (D,{ cls:=.type "list",data:=.seq its nl }) (by simp[aS])
   have cm:∀ b o,s.heap.get? b=some o->b≠D:=λb o e=>FD (below b o e)
   have Q:=L.base
   refine bt D C s4 ys S mC b6 d4 ?_ ?_ qn
   .exact (I.fpOk (by rw[P];exact j) (by exact L.free)).of_upd (Ne.symm M)
   .refine I.call' (ch:=fp) L.os (H':=upd S D (.lst ys)) #[Q.keep,Q.slot,λb o e n hx=>?_,Q.there,λb xs e=>?_,λb o u e=>?_,λb ps e=>?_] ?_ L.bare λb a=>?_
    .rw[av (cm b o e)];exact Q.free b o e n hx
    .have q:=Q.tups b xs e;rw[av (aU q d4)];exact q
    .have q:=Q.frzs b o u e;rw[av (aU q d4)];exact q
    .obtain ⟨more,q⟩:=Q.tbls b ps e;exact #[more,by rw[av (aU q d4)];exact q]
    .exact L.hok.track d4 #[Nat.le_of_lt zl,its.toList,nl,v3,by simpa using e4]
    .exact #[(f b a).2.2.2.1,(f b a).2.1,(f b a).2.2.2.2.1,(f b a).2.2.2.2.2]
  .refine wpAny_mono (T.item (aS X NY scope s H C fp) rfl rfl rfl hc i _ s3 Y S (λ_ _=>False) τ (R a5 single) ar go) (λr s4 #[u,hr,h4]=>?_) λ_ _ e=>e
   subst hr
   refine wpAny_mono h4 (λ_ s5 #[x,H5,I5,r5,y5,B,b4]=>?_) λ_ _ e=>e
   have b3:=I5.pinned (R b4 single) (T.obj _ _ B)
   refine wpAny_mono (hg s H C fp _ s5 Y H5 x u _ b3 r5 (step x H5 y5)) (λ_ s6 #[Y6,H6,I6,q6]=>?_) λ_ _ e=>e
   refine wpAny_mono (ht s H C fp _ s6 Y6 H6 _ I6 q6) (λb s7 #[H7,I7,q7]=>?_) λ_ _ e=>e
   have after:∀ {s':Shared} {H':Hp},Inv (aS X NY scope s H C fp) ([(D,{ cls:=.type "list",data:=.seq its nl })]++kY fp s5.heap) Y6 H' s'->tn (i+1) s'.heap/\(∀ b∈fp,H' b=none)/\H' D=none/\s'.heap.PlainList D its:=λ{s' H'} I' =>
    ⟨T.keep _ _ _ B λb a o e=>(I'.pin (b,o) (Fj _ (Fj _ (fg a e)))).1,λb a=>by
     obtain ⟨o,e,d⟩:=T.obj _ _ B b a
     exact (I'.pin (b,o) (Fj _ (Fj _ (fg a e)))).2.1,(I'.pin (D,_) (Fj _ (Fi _ (FT.mpr rfl)))).2.1,
     nl,(I'.pin (D,_) (Fj _ (Fi _ (FT.mpr rfl)))).1⟩
   cases b with
   | false =>
    rw[if_neg FC]
    rw[if_neg FC] at q7
    obtain ⟨m',hm,w7⟩:=hN _ _ _ q7
    obtain ⟨a1,a2,a3,a4⟩:=after I7
    exact #[m',hm,i+1,ys,Y6,H7,its,I7.pins_of (λ_ z=>absurd z (by simp)),a3,a4,v3,a1,a2,w7]
   | true =>
    rw[if_pos rfl]
    rw[if_pos rfl] at q7
    refine wpAny_mono (he s H C fp _ s7 Y6 H7 _ I7 q7) (λy s8 #[yv,H8,I8,r8,n8]=>?_) λ_ _ e=>e
    obtain ⟨m',hm,w8⟩:=hN _ _ _ n8
    obtain ⟨a1,a2,a3,a4⟩:=after I8
    have cv:ys.length=its.size:=by simpa using v3.length
    have hsz:its.size<=sizeLine:=by lia
    refine wpAny_list_append_plain (hsz:=hsz) a4 λh9 l9 ax=>?_
    have I9:Inv (aS X NY scope s H C fp) [] Y6 H8 { s8 with heap:=h9,toks:=s8.toks }:=(I8.pins_of (pins':=[]) λ_ z=>absurd z (by simp)).turned (it:=D) (λb o a e=>(ax.2 b a).trans e) a3 M (.inr (by show s.heap.objs.size<=D;rw[P];exact FA _)) (λx c e z=>?_) λp z=>absurd (show p∈([]:List (Addr×Obj)) from z) (by simp)
    .refine #[m',hm,i+1,ys++[yv],Y6,H8,its.push y,I9,a3,l9,?_,T.keep _ _ _ a1 λb a o e=>(ax.2 b (FD (k b a))).trans e,a2,w8]
     rw[Array.toList_push]
     exact v3.append (.cons r8 .nil)
    .rcases lA e with q | q
     .rw[z] at q;exact Nat.lt_irrefl _ (FJ (Nat.lt_of_le_of_lt j (Nat.lt_succ_self _)) q)
     .obtain ⟨v,o,ho,_⟩:=I.cell x c (fv q)
      exact Nat.lt_irrefl _ (z ▸ below c o ho)
 exact codeAny_compStart_list (loop _ rfl) (T.self X.A 0 _ _ _ (T.keep _ _ _ st λb _ o e=>old b o e) (loop _ rfl))
theorem Az (NY:List Str) (ix:List (Option Nat)) (k:X.calm=true) (hi:PI X tg iter wi) (r:∀ s H C fp,PG (aS X NY scope s H C fp) tg g) (p:∀ s H C fp,PTs (aS X NY scope s H C fp) ifs tc) (he:∀ s H C fp,PE (aS X NY scope s H C fp) elt te) (a:gq scope X.N X.env.scope NY ix=true) (u:∀ x,foldedSetIterable iter X.env x=pure x:=by intro _;rfl):PE X (.ListComp elt [#[tg,iter,ifs,0]] scope pos) (BJ wi g tc te ix):=by
 intro pins s U H Q I h
 have a:=CompOk.of a
 rw[eval_ListComp]
 refine wpAny_comprehension_free (use:=none) rfl u (gv (scope:=scope) (env:=X.env) λx m e=>?_) a.kind a.loc (thn (hi pins s U H _ I h) λv s1 h1=>thn h1 λy s2 h2=>?_)
 .rcases a.out x m e with q | q
  .exact I.ok.has x.1 (.inl q)
  .exact I.ok.has x.1 (.inr q)
 .obtain ⟨it,fp,F,J,H2,e,l,T,c,f2,t⟩:=h2
  subst e
  refine qB (RR:=λacc C=>compPost (model X.prog X.w) X.A X.xe none (EP X pins U Q) acc C) k a r p he l T c f2 t ?_
  intro D C s' ys H' m n E B j f
  obtain ⟨f0,f1,f2,d,f4,z⟩:=B
  exact #[m,n,λh' sb=>#[.ref D,_,j.turned (t':=s'.toks) (λb o i e=>(sb.2 b i).trans e) f0 f1 d f4 z,rfl,f D E]]
def BM (i:Nat) (a:TI) (g:TG) (tc:TT) (te:TE) (ix:List (Option Nat)):TS:=λD U H =>
 a U H λJ H1=>qI J g tc te (λys H2=>∀ p,H2 p=none->D.nx (U.set i (some (.ref p))) (upd H2 p (.lst ys))) (cap ix U) H1
set_option tactic.hygienic true in
theorem re {i:Nat} (M:X.N.Nodup) (W:X.N[i]?=some y) (r:Loc X.env.scope y) (NY:List Str) (ix:List (Option Nat)) (F:X.calm=true) (hi:PI X tg iter wi) (P:∀ s H C fp,PG (aS X NY scope s H C fp) tg g) (O:∀ s H C fp,PTs (aS X NY scope s H C fp) ifs tc) (he:∀ s H C fp,PE (aS X NY scope s H C fp) elt te) (c:gq scope X.N X.env.scope NY ix=true) (j:swapsWith (.ListComp elt [#[tg,iter,ifs,0]] scope pos) (some (.Name y py)) spos.line X.env=pure true:=by rfl) (hf:X.fn y=true\/X.env.scope.names.lookup y=some .local:=by first | exact .inl rfl | exact .inr rfl | assumption) (S:∀ x,foldedSetIterable iter X.env x=pure x:=by intro _;rfl):PS X (.Assign [.Name y py] (.ListComp elt [#[tg,iter,ifs,0]] scope pos) spos) (BM i wi g tc te ix):=by
 intro pins s U H D I h
 have c:=CompOk.of c
 rw[exec_Assign_Name_used _ _ _ _ j]
 refine Fb (wpAny_standAt (Fb ?_))
 show wpAny _ X.A (do let _ <- comprehension (.ListComp elt [#[tg,iter,ifs,0]] scope pos) scope X.env _ (newList []) false (eval iter X.env) (some (assign (.Name y py) X.env))) _ _ s
 refine Fb (wpAny_mono (wpAny_comprehension_free (use:=some (assign (.Name y py) X.env)) (Q:=λ_ s'=>SP X pins D .next s') rfl S (gv (scope:=scope) (env:=X.env) λx m e=>?_) c.kind c.loc
  (thn (hi pins s U H _ I h) λv s1 h1=>thn h1 λσ s2 h2=>?_)) (λ_ s' G=>Fc (Fc G)) λ_ _ e=>e)
 .rcases c.out x m e with q | q
  .exact I.ok.has x.1 (.inl q)
  .exact I.ok.has x.1 (.inr q)
 .obtain ⟨it,fp,tn,J,H2,e,K,T,l,f2,R⟩:=h2
  subst e
  refine qB (RR:=λacc C=>compPost (model X.prog X.w) X.A X.xe (some (assign (.Name y py) X.env)) (λ_ s'=>SP X pins D .next s') acc C) F c P O he K T l f2 R ?_
  intro n C s' ys H' m L ρ τ E u
  obtain ⟨f0,f1,f2,t,f4,V⟩:=τ
  show wpAny _ X.A (assign (.Name y py) X.env (.ref n)) _ _ _
  refine wpAny_assign_Name (mi E M W r (v:=.ref n) rfl (λd p #[a,sb,ha]=>?_) hf)
  have f:C≠a:=by
   rcases ha with e | e
   .rw[e];exact f1
   .exact λz=>f4 y a e z.symm
  exact #[m,L.sameBut sb f,λh' k=>#[_,_,p.turned (t':=d.toks) (λb o B e=>(k.2 b B).trans e) f0 f1 t f4 V,u n ρ]]
end
section
variable {X:Cx}
inductive KindOf (K:FG) (H:Hp):V->String->Prop
 | int (i:Int):KindOf K H (.int i) "int"
 | bool (b:Bool):KindOf K H (.bl b) "bool"
 | str (x:Str):KindOf K H (.str x) "str"
 | non:KindOf K H .non "NoneType"
 | tuple {a:Addr} {xs:List V}:SqT K H a xs->KindOf K H (.ref a) "tuple"
 | list {a:Addr} {xs:List V}:SqL K H a xs->KindOf K H (.ref a) "list"
 | dK {a:Addr} {kvs}:H a=some (.dK kvs)->KindOf K H (.ref a) "dict"
 | dT {a:Addr} {kvs n}:H a=some (.dT kvs n)->KindOf K H (.ref a) "dict"
def ot (k t:String):Bool:=k == t || (k == "bool" && t == "int")
theorem Inv.clsK (I:Inv X pins U H s) (h:KindOf X.K H (.ref a) k):∃ o,s.heap.get? a=some o/\o.cls=.type k:=by
 cases h with
 | tuple h=>obtain ⟨its,_,⟨o,e,c,_⟩,_⟩:=I.tuple h;exact #[o,e,c]
 | list h=>obtain ⟨its,_,⟨o,n,e,c,_⟩,_⟩:=I.list h;exact #[o,e,c]
 | dK h=>obtain ⟨_,_,_,_,o,_,_,e,c,_⟩:=I.hok a _ h;exact #[o,e,c.1]
 | dT h=>obtain ⟨_,_,_,_,o,_,_,e,c,_⟩:=I.hok a _ h;exact #[o,e,c.1]
theorem oU:b7 X (.builtin "isinstance") (λxs H Q=>∃ x k,xs=[x,.ty "int"]/\KindOf X.K H x k/\Q (.bl (ot k "int")) H):=by
 intro pins s U H xs us Q I r h
 obtain ⟨x,k,rfl,f,q⟩:=h
 obtain ⟨u,v,rfl,a,d⟩:=j0 r
 cases (show v=Value.type "int" from d)
 cases f with
 | int i=>obtain ⟨tk,rfl⟩:=a;exact IsiPair.int_int #[.bl true,H,I,rfl,q]
 | bool b=>cases (show u=Value.bool b from a);exact IsiPair.bool_int #[.bl true,H,I,rfl,q]
 | str z=>obtain ⟨tk,rfl⟩:=a;exact IsiPair.str_int #[.bl false,H,I.tok _,rfl,q]
 | non=>cases (show u=Value.none from a);exact IsiPair.NoneType_int #[.bl false,H,I.tok _,rfl,q]
 | tuple hh=>cases a;obtain ⟨o,e,c⟩:=I.clsK (.tuple hh);exact IsiPair.tuple_int e c #[.bl false,H,I.tok _,rfl,q]
 | list hh=>cases a;obtain ⟨o,e,c⟩:=I.clsK (.list hh);exact IsiPair.list_int e c #[.bl false,H,I.tok _,rfl,q]
 | dK hh=>cases a;obtain ⟨o,e,c⟩:=I.clsK (.dK hh);exact IsiPair.dict_int e c #[.bl false,H,I.tok _,rfl,q]
 | dT hh=>cases a;obtain ⟨o,e,c⟩:=I.clsK (.dT hh);exact IsiPair.dict_int e c #[.bl false,H,I.tok _,rfl,q]
theorem lX:b7 X (.builtin "isinstance") (λxs H Q=>∃ x k,xs=[x,.ty "bool"]/\KindOf X.K H x k/\Q (.bl (ot k "bool")) H):=by
 intro pins s U H xs us Q I r h
 obtain ⟨x,k,rfl,f,q⟩:=h
 obtain ⟨u,v,rfl,a,d⟩:=j0 r
 cases (show v=Value.type "bool" from d)
 cases f with
 | int i=>obtain ⟨tk,rfl⟩:=a;exact IsiPair.int_bool #[.bl false,H,I.tok _,rfl,q]
 | bool b=>cases (show u=Value.bool b from a);exact IsiPair.bool_bool #[.bl true,H,I,rfl,q]
 | str z=>obtain ⟨tk,rfl⟩:=a;exact IsiPair.str_bool #[.bl false,H,I.tok _,rfl,q]
 | non=>cases (show u=Value.none from a);exact IsiPair.NoneType_bool #[.bl false,H,I.tok _,rfl,q]
 | tuple hh=>cases a;obtain ⟨o,e,c⟩:=I.clsK (.tuple hh);exact IsiPair.tuple_bool e c #[.bl false,H,I.tok _,rfl,q]
 | list hh=>cases a;obtain ⟨o,e,c⟩:=I.clsK (.list hh);exact IsiPair.list_bool e c #[.bl false,H,I.tok _,rfl,q]
 | dK hh=>cases a;obtain ⟨o,e,c⟩:=I.clsK (.dK hh);exact IsiPair.dict_bool e c #[.bl false,H,I.tok _,rfl,q]
 | dT hh=>cases a;obtain ⟨o,e,c⟩:=I.clsK (.dT hh);exact IsiPair.dict_bool e c #[.bl false,H,I.tok _,rfl,q]
theorem oT:b7 X (.builtin "isinstance") (λxs H Q=>∃ x k,xs=[x,.ty "str"]/\KindOf X.K H x k/\Q (.bl (ot k "str")) H):=by
 intro pins s U H xs us Q I r h
 obtain ⟨x,k,rfl,f,q⟩:=h
 obtain ⟨u,v,rfl,a,d⟩:=j0 r
 cases (show v=Value.type "str" from d)
 cases f with
 | int i=>obtain ⟨tk,rfl⟩:=a;exact IsiPair.int_str #[.bl false,H,I.tok _,rfl,q]
 | bool b=>cases (show u=Value.bool b from a);exact IsiPair.bool_str #[.bl false,H,I.tok _,rfl,q]
 | str z=>obtain ⟨tk,rfl⟩:=a;exact IsiPair.str_str #[.bl true,H,I,rfl,q]
 | non=>cases (show u=Value.none from a);exact IsiPair.NoneType_str #[.bl false,H,I.tok _,rfl,q]
 | tuple hh=>cases a;obtain ⟨o,e,c⟩:=I.clsK (.tuple hh);exact IsiPair.tuple_str e c #[.bl false,H,I.tok _,rfl,q]
 | list hh=>cases a;obtain ⟨o,e,c⟩:=I.clsK (.list hh);exact IsiPair.list_str e c #[.bl false,H,I.tok _,rfl,q]
 | dK hh=>cases a;obtain ⟨o,e,c⟩:=I.clsK (.dK hh);exact IsiPair.dict_str e c #[.bl false,H,I.tok _,rfl,q]
 | dT hh=>cases a;obtain ⟨o,e,c⟩:=I.clsK (.dT hh);exact IsiPair.dict_str e c #[.bl false,H,I.tok _,rfl,q]
theorem lB:b7 X (.builtin "isinstance") (λxs H Q=>∃ x k,xs=[x,.ty "tuple"]/\KindOf X.K H x k/\Q (.bl (ot k "tuple")) H):=by
 intro pins s U H xs us Q I r h
 obtain ⟨x,k,rfl,f,q⟩:=h
 obtain ⟨u,v,rfl,a,d⟩:=j0 r
 cases (show v=Value.type "tuple" from d)
 cases f with
 | int i=>obtain ⟨tk,rfl⟩:=a;exact IsiPair.int_tuple #[.bl false,H,I.tok _,rfl,q]
 | bool b=>cases (show u=Value.bool b from a);exact IsiPair.bool_tuple #[.bl false,H,I.tok _,rfl,q]
 | str z=>obtain ⟨tk,rfl⟩:=a;exact IsiPair.str_tuple #[.bl false,H,I.tok _,rfl,q]
 | non=>cases (show u=Value.none from a);exact IsiPair.NoneType_tuple #[.bl false,H,I.tok _,rfl,q]
 | tuple hh=>cases a;obtain ⟨o,e,c⟩:=I.clsK (.tuple hh);exact IsiPair.tuple_tuple e c #[.bl true,H,I,rfl,q]
 | list hh=>cases a;obtain ⟨o,e,c⟩:=I.clsK (.list hh);exact IsiPair.list_tuple e c #[.bl false,H,I.tok _,rfl,q]
 | dK hh=>cases a;obtain ⟨o,e,c⟩:=I.clsK (.dK hh);exact IsiPair.dict_tuple e c #[.bl false,H,I.tok _,rfl,q]
 | dT hh=>cases a;obtain ⟨o,e,c⟩:=I.clsK (.dT hh);exact IsiPair.dict_tuple e c #[.bl false,H,I.tok _,rfl,q]
theorem vH {bs:List Bool}:((List.range bs.length).all λi=>bs.getD i false)=bs.all id:=by
 rw[Bool.eq_iff_iff]
 simp only[List.all_eq_true,List.mem_range,id]
 constructor
 .intro h b a
  obtain ⟨i,hi,rfl⟩:=List.mem_iff_getElem.mp a
  simpa[List.getD,hi] using h i hi
 .intro h i hi
  simpa[List.getD,hi] using h _ (List.getElem_mem hi)
theorem yV (l:X.calm=true):b7 X (.builtin "all") (λxs H Q=>∃ (a:Addr) (bs:List Bool),xs=[.ref a]/\SqL X.K H a (bs.map V.bl)/\Q (.bl (bs.all id)) H):=by
 intro pins s U H xs us Q I r h
 obtain ⟨a,bs,rfl,m,q⟩:=h
 obtain ⟨u,rfl,g⟩:=cH r
 cases g
 obtain ⟨its,k,p,hz⟩:=I.list m
 have hl:=k.length
 rw[Ft] at hl
 have f:a < s.heap.objs.size:=by obtain ⟨o,_,e,_⟩:=id p;exact Fp e
 refine call_all_walk (wpAny_pyIter_list p.isList ?_)
 refine #[s.heap.objs.size,_,_,_,_,_,λi=>bs.getD i false,rfl,Walks.list (show X.A.in1.handled=none from I.ok.hd l) s.heap.objs.size a (FD f) its.toArray,#[#[_,Fs _ rfl,rfl,rfl],p.isList.at λo e=>Fg _ e],?_,?_]
 .intro i v s' n B w j
  have d:its[i]?=some v:=by simpa using w
  have hi:i < bs.length:=by
   have:=(Fu.mp d).1
   lia
  obtain ⟨u,hu,g⟩:=k.get (i:=i) (x:=V.bl (bs[i])) (by simp[hi])
  rw[d] at hu
  cases hu
  cases (show v=Value.bool bs[i] from g)
  refine FZ ?_
  have e:bs.getD i false=bs[i]:=by simp[List.getD,hi]
  have c:n (bs.getD i false) s':=j
  rw[e] at c
  exact c
 .intro h' tk y
  have z:Inv X pins U H { s with heap:=h',toks:=tk }:=I.kept λb o e=>y b o (by
   intro hm
   have t:b=s.heap.objs.size:=by simpa using hm
   exact absurd (t ▸ Fp e) (Nat.lt_irrefl _)) (Fg _ e)
  refine #[.bl (bs.all id),H,z,?_,q]
  show Value.bool _=Value.bool _
  rw[FE,<- hl,vH]
def Ite (K:FG) (a:Addr):It :=
 #[λi H=>∃ xs x,SqL K H a xs/\xs[i]?=some x,λi H x H'=>∃ T y,x=.ref T/\H T=none/\H'=upd H T (.tup [.int i,y])/\∀ xs,SqL K H a xs->xs[i]?=some y,λi H=>∃ xs,SqL K H a xs/\xs.length<=i]
theorem Inv.two {tk:Nat} (I:Inv X pins U H s) (g:FpOk X pins H e) (f:FpOk X pins H it) (k:∀ b o,b≠e->b≠it->s.heap.get? b=some o->h'.get? b=some o):Inv X pins U H { s with heap:=h',toks:=tk }:=by
 have l:∀ b u,H b=some u->b≠e/\b≠it:=λb u q=>#[aU q g.1,aU q f.1]
 have a:∀ b,b ∉ [e,it]->b≠e/\b≠it:=λb h=>#[λz=>h (by simp[z]),λz=>h (by simp[z])]
 refine I.step (g':=s.gens) (d':=s.drawn) (ch:=[e,it]) (λb h=>?_) (λb o _ _ d q _=>k b o (a b d).1 (a b d).2 q) (λb o _ _ d q _=>#[o.slots,k b o (a b d).1 (a b d).2 q]) (λ_ _ _ _ n=>n)
  (λb o d q=>#[o,k b o (a b d).1 (a b d).2 q]) (λ_ _ q=>q) (λ_ _ _ q=>q) (λb ps q=>#[(List.toArray []),by rw[q];simp]) (λm hm=>?_) (λb u q=>?_) I.bare
 .have i:b=e\/b=it:=by simpa using h
  rcases i with rfl | rfl
  .exact #[g.2.2.2.1,g.2.1,g.2.2.2.2.1,g.2.2.2.2.2]
  .exact #[f.2.2.2.1,f.2.1,f.2.2.2.2.1,f.2.2.2.2.2]
 .obtain ⟨o,es,p,j,r⟩:=hm
  exact #[o,es,p,k _ o (Ne.symm g.2.1) (Ne.symm f.2.1) j,r]
 .refine (I.hok b u q).stay (λc v d z=>?_) (λ_ z=>z) λ_ _ z=>z
  grind
theorem Inv.trackT (I:Inv X pins U H s) (J:Inv X pins U H s0) (f:s0.heap.objs.size<=T) (g:IsTupD s.heap T its.toArray) (C:Vals xs its) (hz:xs.length<=sizeLine):Inv X pins U (upd H T (.tup xs)) s:=by
 have m:H T=none:=J.hok.fresh f
 obtain ⟨e1,E,F,a,t,D,G,w,B,k,h⟩:=id I
 have d:∀ b,H b=none->∀ o,s0.heap.get? b=some o->upd H T (.tup xs) b=none:=λb y o e=>by
  rw[av (FD (FJ (Fp e) f))];exact y
 have i:∀ b u,H b=some u->upd H T (.tup xs) b=some u:=λb u e=>by rw[av (aU e m)];exact e
 have j:X.s₀.heap.objs.size<=T:=F1 J.sz f
 refine #[e1,E,F,#[a.keep,a.slot,λb o q n g=>?_,a.there,λb ys q=>i _ _ (a.tups b ys q),λb o u q=>i _ _ (a.frzs b o u q),λb ps q=>?_],t,D,?_,λx c q=>?_,λp l=>?_,?_,h]
 .rw[av (FD (FJ (Fp q) j))];exact a.free b o q n g
 .obtain ⟨more,A⟩:=a.tbls b ps q;exact #[more,i _ _ A]
 .rw[av (FD (FJ J.lt f))];exact G
 .obtain ⟨v,o,z,_⟩:=J.cell x c q
  exact d c (w x c q) o z
 .obtain ⟨a1,a2,r⟩:=B p l
  exact #[a1,d p.1 a2 p.2 (J.pin p l).1,r]
 .exact k.track m #[hz,its,C,g]
theorem um {P:Program} {w:World} {K:FG} {elts:List Expr} {k:Nat} {pos:Pos} (a e it:Addr) (y:e≠it):Turn P w K (.Tuple elts k pos) (Ite K a) [e,it] e (λi h=>(∃ old,IsEnum h e it i old)/\h.IsListIter it a i) where
 mem:=by simp
 obj:=λi h st b g=>by
  obtain ⟨⟨old,he⟩,o,t,c,d⟩:=st
  have J:b=e\/b=it:=by simpa using g
  rcases J with rfl | rfl
  .exact #[_,he,λv z=>by cases z]
  .exact #[o,t,λv z=>by rw[d] at z;cases z]
 keep:=λi h h' st k=>#[let #[old,he]:=st.1;#[old,k e (by simp) _ he],st.2.at λo q=>k it (by simp) o q]
 item:=by
  intro X L hw D O i pins s U H E I hf st F
  subst L hw D
  obtain ⟨xs,x,A,C⟩:=F
  obtain ⟨its,N,p,hz⟩:=I.list A
  obtain ⟨u,hu,ρ⟩:=N.get C
  obtain ⟨⟨old,he⟩,hit⟩:=st
  refine wpAny_pyNext_enum_item he hit p.isList (x:=u) (by simpa using hu) y λh' M l σ hsz S=>?_
  refine #[_,rfl,wpAny_letOwnedTupleGo_enum M λn j f=>?_]
  have m:e < s.heap.objs.size:=Fp he
  have I1:Inv X pins U H { s with heap:=n,toks:=s.toks+1 }:=I.two (hf e (by simp)) (hf it (by simp)) λb o hb1 hb2 q=>(f.2 b hb1).trans (S b o hb1 hb2 q)
  have G:n.get? s.heap.objs.size=some { cls:=.type "tuple",data:=.seq (List.toArray [.int i s.toks,u]) }:=(f.2 _ (Nat.ne_of_gt m)).trans σ
  have V:=I1.trackT (s0:=s) (T:=s.heap.objs.size) (xs:=[.int i,x]) (its:=[.int i s.toks,u]) I (FA _) #[_,G,rfl,_,rfl] (.cons #[_,rfl] (.cons ρ .nil)) (by show 2<=sizeLine;decide)
  refine #[.ref s.heap.objs.size,_,V,rfl,#[_,x,rfl,I.hok.fresh (FA _),rfl,λys W=>by rw[I.list_inj W A];exact C],#[#[_,by simpa using j],?_],λb g=>?_]
  .obtain ⟨o,t,r⟩:=l
   exact #[o,(f.2 it (Ne.symm y)).trans t,r]
  .have B:b < s.heap.objs.size:=by
    have J:b=e\/b=it:=by simpa using g
    rcases J with rfl | rfl
    .exact m
    .obtain ⟨o,t,r⟩:=hit;exact Fp t
   rw[av (FD B)]
   exact (hf b g).1
 done:=by
  intro X L hw D O i pins s U H E I hf st F
  subst L hw D
  obtain ⟨xs,A,C⟩:=F
  obtain ⟨its,N,p,hz⟩:=I.list A
  obtain ⟨⟨old,he⟩,hit⟩:=st
  have hl:=N.length
  obtain ⟨f0,f1,f2,Q,f4,R⟩:=hf it (by simp)
  exact wpAny_pyNext_enum_end (I.ok.hd O) he hit p.isList (by simp;lia) λh' τ=>#[rfl,I.turned (t':=s.toks) (λb o g q=>τ b o g q) f0 f1 Q f4 R]
 self:=λ_ _ _ _ _ st h=>let #[_,he]:=st.1;wpAny_pyIter_enum he h
def B7 (K:FG) (ta:TA):TI:=λU H R=>ta U H λvs H1=>∃ a,vs=[.ref a]/\(∃ xs,SqL K H1 a xs)/\R (Ite K a) H1
theorem Ay {k:Nat} (i:Gl X "enumerate") (hm:X.mg "enumerate"=none) (ha:PA X [a] ta) (j:starEach [a] X.env=[(false,eval a X.env)]:=by rfl):PI X (.Tuple elts k tp) (.Call (.Name "enumerate" p) [a] [] pos) (B7 X.K ta):=by
 intro pins s U H R I h
 refine Call_ (jO I i hm boot_enumerate (PyProof.Rows.callWith_type1 (thn (ha pos pins s U H _ I h) λus s1 #[vs,H1,d,l,m]=>?_) j rfl))
 obtain ⟨a,e,⟨xs,f⟩,q⟩:=m
 subst e
 obtain ⟨u,rfl,o⟩:=cH l
 cases o
 obtain ⟨its,t,pl,hz⟩:=d.list f
 refine call_enumerate_list pl.isList λh' he hit hsz n=>?_
 refine wpAny_pyIter_enum he ?_
 have g:Inv X pins U H1 { s1 with heap:=h' }:=d.kept (t':=s1.toks) n
 refine #[s1.heap.objs.size+1,[s1.heap.objs.size+1,s1.heap.objs.size],_,_,H1,rfl,g,um a _ _ (Nat.succ_ne_self _),#[#[_,he],hit],λb r=>?_,q]
 have c:s1.heap.objs.size<=b:=by
  grind
 exact d.fpOk c (d.hok.fresh c)
end
structure Callee (P:Program) (w:World) (K:FG) (mg:Str->Option Value) (base:Heap) (x:Str) (k:Nat) (ps:List Str) (sp:Sp):Prop where
 ex:∃ (f:Addr) (fd:FuncData),FnOk P w K mg base CX0 k f fd ps sp/\mg x=some (.ref f)/\PySem.W.keepIn K (.ref f)=true/\Binds K fd ps []
structure DefAt (K:FG) (mg:Str->Option Value) (x:Str) (st:Stmt) (f:Addr) (fd:FuncData):Prop where
 fn:Fun K x x st f fd
 mg:mg x=some (.ref f)
def Def (K:FG) (mg:Str->Option Value) (x:Str) (st:Stmt):Prop:=∃ f fd,DefAt K mg x st f fd
theorem Def.callee {K:FG} {st:Stmt} {k:Nat} (D:Def K mg x st) (b:∀ (kV doc pm:Value) (an:Option Addr) (a ct:Value) (us:List Value),us.length=ps.length->bindArgs (PySem.W.fnOf x x (aK st) (aG st) (ah st) .none kV doc pm an a ct) #[us,[]]=pure (ps.zip us)) (h:∀ f fd,Fun K x x st f fd->FnOk P w K mg base CX0 k f fd ps sp):Callee P w K mg base x k ps sp :=
 let #[f,fd,d]:=D
 #[f,fd,h f fd d.fn,d.mg,d.fn.kp,d.fn.binds b]
section
variable {X:Cx} {x:Str} {p pos:Pos} {e:Expr} {es:List Expr} {t:TA} {k:Nat} {ps:List Str} {sp:Sp}
def tFn (sp:Sp) (t:TA):TE:=λU H Q=>t U H λvs H1=>sp vs H1 Q E0
theorem pe_fn (c:Callee X.prog X.w X.K X.mg X.base x k ps sp) (d:Room k X.A) (ha:PA X (e::es) t) (j:Gl X x:=by rfl) (a:(x == ("__debug__":Str))=false:=by decide)
  (he:starEach (e::es) X.env=(false,eval e X.env)::starEach es X.env:=by rfl) (b:(backTo pos (starEach es X.env)).any (·.1)=false:=by rfl):PE X (.Call (.Name x p) (e::es) [] pos) (tFn sp t):=by
 obtain ⟨f,fd,F,hm,l,g⟩:=c.ex
 have h:=AB (pos:=pos) (p:=p) (dvs:=[]) (E:=E0) F d j hm l g .nil pass0 ha a he b
 intro pins s U H Q I q
 refine h pins s U H Q I ?_
 show t U H λvs H1=>sp (vs++[]) H1 Q E0
 have i:t U H (λvs H1=>sp vs H1 Q E0):=q
 simpa using i
end
def But (p:Addr) (H H':Hp):Prop:=∀ b o,H b=some o->b≠p->H' b=some o
theorem But.trans (a:But p H H1) (b:But p H1 H2):But p H H2:=λc o h n=>b c o (a c o h n) n
abbrev Pt:=Int×Int
def aW (p q r:Pt):Int:=(q.1 - p.1) * (r.2 - p.2) - (q.2 - p.2) * (r.1 - p.1)
def Small (p:Pt):Prop:=-(2 ^ 62) < p.1/\p.1 < 2 ^ 62/\-(2 ^ 62) < p.2/\p.2 < 2 ^ 62
def Rising (ps:List Pt):Prop:=∀ (i j:Nat) (p q:Pt),i < j->ps[i]?=some p->ps[j]?=some q->p.1 < q.1
def NoLine (ps:List Pt):Prop:=∀ (i j k:Nat) (p q r:Pt),i < j->j < k->ps[i]?=some p->ps[j]?=some q->ps[k]?=some r->aW p q r≠0
structure GoodSh (ps:List Pt):Prop where
 pos:0 < ps.length
 most:ps.length<=24
 small:∀ p∈ps,Small p
 rising:Rising ps
 noline:NoLine ps
def vG:Expr->Option Int
 | .Constant (.int i) _ _=>some i
 | _=>none
theorem s9:∀ {es:List Expr} (ns:List Int),es.map vG=ns.map some->PA X es (λ_ H Q=>Q (ns.map V.int) H)
 | [],[],_=>nV
 | [],_::_,h=>by simp at h
 | _::_,[],h=>by simp at h
 | e::es,n::ns,h=>by
  simp only[FF,List.cons.injEq] at h
  obtain ⟨h1,h2⟩:=h
  have a:=s9 (X:=X) ns h2
  cases e with
  | Constant c j pos =>
   cases c with
   | int i =>
    have b:i=n:=by simpa[vG] using h1
    subst b
    exact ie nQ a
   | _=>simp[vG] at h1
  | _=>simp[vG] at h1
def j3:List Pt->List (Pt×Pt)
 | []=>[]
 | p::r=>r.map (λq=>(p,q))++j3 r
theorem mF:∀ {ps:List Pt} {i j:Nat} {p q:Pt},i < j->ps[i]?=some p->ps[j]?=some q->(p,q)∈j3 ps
 | [],_,_,_,_,_,h,_=>by simp at h
 | a::r,0,0,_,_,h,_,_=>by lia
 | a::r,0,j+1,p,q,_,h1,h2=>by
  simp at h1 h2;subst h1
  exact Fi _ (Fy.mpr #[q,Fv h2,rfl])
 | a::r,i+1,0,_,_,h,_,_=>by lia
 | a::r,i+1,j+1,p,q,h,h1,h2=>Fj _ (mF (ps:=r) (i:=i) (j:=j) (by lia) (by simpa using h1) (by simpa using h2))
theorem pV:∀ {ps:List Pt} {p q:Pt},(p,q)∈j3 ps->∃ i j:Nat,i < j/\ps[i]?=some p/\ps[j]?=some q
 | [],_,_,h=>by simp[j3] at h
 | a::r,p,q,h=>by
  rcases Fq.mp h with h | h
  .obtain ⟨z,hz,e⟩:=Fy.mp h
   cases e
   obtain ⟨j,b,e⟩:=List.mem_iff_getElem.mp hz
   exact #[0,j+1,by lia,rfl,by simp[b,e]]
  .obtain ⟨i,j,h0,h1,h2⟩:=pV h
   exact #[i+1,j+1,by lia,by simpa using h1,by simpa using h2]
theorem mz:∀ ps:List Pt,(j3 ps).length<=ps.length * ps.length
 | []=>by simp[j3]
 | a::r=>by
  have j:=mz r
  simp only[j3,FN,Ft,FO]
  have:(r.length+1) * (r.length+1)=r.length * r.length+2 * r.length+1:=by
   rw[Nat.add_mul,Nat.mul_add];lia
  lia
def zh (ps:List Pt) (z:Pt):Prop:=∀ (i j:Nat) (p q:Pt),i < j->ps[i]?=some p->ps[j]?=some q->aW p q z≠0
def above (ps:List Pt) (x y:Int):Nat:=((j3 ps).filter λpr=>decide (aW pr.1 pr.2 (x,y)<=0)).length
theorem yN {α:Type} {p q:α->Bool}:∀ {l:List α},(∀ a∈l,p a=true->q a=true)->(l.filter p).length<=(l.filter q).length
 | [],_=>by simp
 | a::l,h=>by
  have j:=yN (l:=l) λb e=>h b (Ff _ e)
  have ha:=h a Fe
  cases c:p a with
  | true=>rw[List.filter_cons_of_pos c,List.filter_cons_of_pos (ha c)];simpa using j
  | false =>
   rw[List.filter_cons_of_neg (by simp[c])]
   cases d:q a with
   | true=>rw[List.filter_cons_of_pos d];simp;lia
   | false=>rw[List.filter_cons_of_neg (by simp[d])];exact j
theorem yM {α:Type} {p q:α->Bool}:∀ {l:List α} {z:α},(∀ a∈l,p a=true->q a=true)->z∈l->q z=true->p z=false->(l.filter p).length < (l.filter q).length
 | [],_,_,hz,_,_=>by simp at hz
 | a::l,z,h,hz,h1,h2=>by
  have hl:∀ b∈l,p b=true->q b=true:=λb f=>h b (Ff _ f)
  rcases Fm.mp hz with rfl | hz
  .rw[List.filter_cons_of_neg (by simp[h2]),List.filter_cons_of_pos h1]
   have:=yN hl
   simp;lia
  .have d:=yM hl hz h1 h2
   have ha:=h a Fe
   cases c:p a with
   | true=>rw[List.filter_cons_of_pos c,List.filter_cons_of_pos (ha c)];simpa using d
   | false =>
    rw[List.filter_cons_of_neg (by simp[c])]
    cases e:q a with
    | true=>rw[List.filter_cons_of_pos e];simp;lia
    | false=>rw[List.filter_cons_of_neg (by simp[e])];exact d
theorem ua (p q:Pt) (x y:Int):aW p q (x,y+1)=aW p q (x,y)+(q.1 - p.1):=by
 unfold aW
 grind
theorem zd {x y:Int} (R:Rising ps) {i j:Nat} (a:i < j) (hi:ps[i]?=some p) (c:ps[j]?=some q) (h0:aW p q (x,y)=0):above ps x (y+1) < above ps x y:=by
 refine yM (z:=(p,q)) (λpr b h=>?_) (mF a hi c) (by simp[h0]) ?_
 .obtain ⟨d,e,h',e1,f⟩:=pV (p:=pr.1) (q:=pr.2) b
  have:=R d e _ _ h' e1 f
  have h:=of_decide_eq_true h
  rw[ua] at h
  exact FH (by lia)
 .have:=R i j _ _ a hi c
  show decide (aW p q (x,y+1)<=0)=false
  rw[ua,h0]
  exact FI (by lia)
theorem ze (ps:List Pt) (x y:Int):above ps x y<=ps.length * ps.length:=F1 (List.length_filter_le _ _) (mz ps)
theorem du {α:Type} {l:List α} {z a:α} {i:Nat} (h:(l++[z])[i]?=some a):(l[i]?=some a/\i < l.length)\/(a=z/\i=l.length):=by
 by_cases hi:i < l.length
 .rw[FW hi] at h;exact .inl #[h,hi]
 .rw[List.getElem?_append_right (by lia)] at h
  have:i - l.length=0:=by
   cases e:i - l.length with
   | zero=>rfl
   | succ n=>rw[e] at h;simp at h
  rw[this] at h;simp at h
  exact .inr #[h.symm,by lia]
theorem Rising.snoc (R:Rising ps) (h:∀ p∈ps,p.1 < z.1):Rising (ps++[z]):=λi j p q a h1 h2=>by
 rcases du h1 with ⟨a1,b1⟩ | ⟨rfl,b1⟩
 .rcases du h2 with ⟨a2,b2⟩ | ⟨rfl,b2⟩
  .exact R i j p q a a1 a2
  .exact h p (Fv a1)
 .rcases du h2 with ⟨a2,b2⟩ | ⟨rfl,b2⟩
  .lia
  .lia
theorem NoLine.snoc (N:NoLine ps) (F:zh ps z):NoLine (ps++[z]):=λi j k p q r a c h1 h2 h3=>by
 rcases du h1 with ⟨a1,b1⟩ | ⟨rfl,b1⟩
 .rcases du h2 with ⟨a2,b2⟩ | ⟨rfl,b2⟩
  .rcases du h3 with ⟨d,b⟩ | ⟨rfl,b⟩
   .exact N i j k p q r a c a1 a2 d
   .exact F i j p q a a1 a2
  .rcases du h3 with ⟨d,b⟩ | ⟨rfl,b⟩ <;> lia
 .rcases du h2 with ⟨a2,b2⟩ | ⟨rfl,b2⟩ <;> lia
def iN (a b c:Int) (p:Pt):Pt:=(a * p.1+c,b * p.2)
theorem sj (a b c:Int) (p q r:Pt):aW (iN a b c p) (iN a b c q) (iN a b c r)=(a * b) * aW p q r:=by
 unfold aW iN
 grind
theorem Rising.scale {a b c:Int} (ha:0 < a) (R:Rising ps):Rising (ps.map (iN a b c)):=λi j p q d h1 h2=>by
 rw[Fz] at h1 h2
 obtain ⟨f,e1,rfl⟩:=Fh.mp h1
 obtain ⟨e,g,rfl⟩:=Fh.mp h2
 have:=R i j f e d e1 g
 have h3:a * f.1 < a * e.1:=Int.mul_lt_mul_of_pos_left this ha
 show a * f.1+c < a * e.1+c
 lia
theorem NoLine.scale {a b c:Int} (ha:0 < a) (n:0 < b) (N:NoLine ps):NoLine (ps.map (iN a b c)):=λi j k p q r d e h1 h2 h3=>by
 rw[Fz] at h1 h2 h3
 obtain ⟨l,e1,rfl⟩:=Fh.mp h1
 obtain ⟨h,g,rfl⟩:=Fh.mp h2
 obtain ⟨f,m,rfl⟩:=Fh.mp h3
 rw[sj]
 exact Int.mul_ne_zero (Int.mul_ne_zero (by lia) (by lia)) (N i j k l h f d e e1 g m)
section InBlock
variable {X:Cx} {NY:List Str} {scope:Scope} {s:Shared} {H:Hp} {C:Addr} {fp:List Addr}
end InBlock
mutual
inductive DV (K:FG) (H:Hp):V->PyData->Prop
 | non:DV K H .non .none
 | bl (b:Bool):DV K H (.bl b) (.bool b)
 | int (i:Int):DV K H (.int i) (.int i)
 | str (x:Str):DV K H (.str x) (.str x)
 | tup {a:Addr} {xs:List V} {ds:List PyData}:SqT K H a xs->DVs K H xs ds->DV K H (.ref a) (.tuple ds)
 | lst {a:Addr} {xs:List V} {ds:List PyData}:SqL K H a xs->DVs K H xs ds->DV K H (.ref a) (.list ds)
inductive DVs (K:FG) (H:Hp):List V->List PyData->Prop
 | nil:DVs K H [] []
 | cons {x:V} {d:PyData} {xs:List V} {ds:List PyData}:DV K H x d->DVs K H xs ds->DVs K H (x::xs) (d::ds)
end
section
variable {X:Cx} {pins:List (Addr×Obj)} {U:St} {H:Hp} {s:Shared}
mutual
theorem DV.reads (I:Inv X pins U H s):∀ {v:V} {d:PyData} {u:Value},DV X.K H v d->RelV v u->∃ as,Reads s.heap u d as
 | _,_,u,.non,r=>by cases (show u=Value.none from r);exact #[_,.none]
 | _,_,u,.bl b,r=>by cases (show u=Value.bool b from r);exact #[_,.bool b]
 | _,_,u,.int i,r=>by obtain ⟨t,rfl⟩:=r;exact #[_,.int i t]
 | _,_,u,.str x,r=>by obtain ⟨t,rfl⟩:=r;exact #[_,.str x t]
 | _,_,u,.tup (a:=a) h rs,r=>by
  cases (show u=Value.ref a from r)
  obtain ⟨its,f,⟨o,e,c,n,d⟩,_⟩:=I.tuple h
  obtain ⟨as,q⟩:=DVs.reads I rs f
  exact #[_,.tuple e c d (by simpa using q)]
 | _,_,u,.lst (a:=a) h rs,r=>by
  cases (show u=Value.ref a from r)
  obtain ⟨its,f,⟨o,n,e,c,_,d⟩,_⟩:=I.list h
  obtain ⟨as,q⟩:=DVs.reads I rs f
  exact #[_,.list e c d (by simpa using q)]
theorem DVs.reads (I:Inv X pins U H s):∀ {v:List V} {d:List PyData} {us:List Value},DVs X.K H v d->Vals v us->∃ as,ReadsAll s.heap us d as
 | _,_,_,.nil,.nil=>#[_,.nil]
 | _,_,_,.cons h r,.cons q t=>by
  obtain ⟨as,e1⟩:=DV.reads I h q
  obtain ⟨bs,a⟩:=DVs.reads I r t
  exact #[_,.cons e1 a]
end
end
section
variable {X:Cx}
theorem kM:∀ {ts:List Str} {us:List Value},Vals (ts.map V.str) us->StrsAre us ts
 | [],_,.nil=>.nil
 | t::ts,_,.cons r rs=>by
  obtain ⟨k,rfl⟩:=r
  exact .cons t k (kM rs)
theorem AV:MtR X "str.join" (λx vs H Q=>∃ (sep:Str) (a:Addr) (ts:List Str),x=.str sep/\vs=[.ref a]/\SqL X.K H a (ts.map V.str)/\(ts.map (·.length)).sum+ts.length * sep.length<=16777216/\Q (.str (Str.join sep ts)) H):=by
 intro pins s U H x vs v us Q I c b h
 obtain ⟨sep,a,ts,rfl,rfl,ha,hz,q⟩:=h
 obtain ⟨k,rfl⟩:=c
 obtain ⟨u,rfl,d⟩:=b.one
 cases (show u=Value.ref a from d)
 obtain ⟨its,b,p,_⟩:=I.list ha
 refine PyProof.Rows.join_list p.isList (by simpa using kM b) hz λt' e=>?_
 refine #[.str (Str.join sep ts),H,I.tok _,#[t',?_],q]
 show Value.str (Txt.join sep ts) t'=_
 unfold Txt.join
 rw[StrLaws.glued_eq_join]
end
abbrev bQ (i:Int):Str:=Str.ofString (toString i)
def dig (m:Nat):List Nat:=(Nat.toDigits 10 m).map Char.toNat
theorem AT (i:Int):(bQ i).cps.toList=if i < 0 then 45::dig i.natAbs else dig i.natAbs:=by
 cases i with
 | ofNat m =>
  rw[if_neg (by simp)]
  exact PySem.W.KIN.signs_num m
 | negSucc m =>
  rw[if_pos (by exact Int.negSucc_lt_zero m)]
  unfold bQ
  rw[PyProof.Rows.signs_ofString]
  show (("-"++toString (Nat.succ m)):String).toList.map Char.toNat=45::dig (Nat.succ m)
  rw[String.toList_append,List.map_append]
  show [45]++((Nat.repr (m+1)).toList.map Char.toNat)=_
  rw[Nat.toList_repr]
  rfl
theorem iA {m c:Nat} (h:c∈dig m):48<=c/\c<=57:=by
 obtain ⟨ch,a,rfl⟩:=Fy.mp h
 exact PyProof.Rows.digit_range (Nat.isDigit_of_mem_toDigits (by decide) (by decide) a)
theorem tU {m k:Nat} (a:0 < k) (h:m < 10 ^ k):(dig m).length<=k:=by
 unfold dig
 rw[Ft]
 exact (Nat.length_toDigits_le_iff (by decide) a).mpr h
def ce (p:Pt):Str:=bQ p.1++","++bQ p.2
def aF (ps:List Pt):Str:=Str.join " " (ps.map ce)
theorem di (a b:Str):(a++b).length=a.length+b.length:=by
 show (a.cps++b.cps).size=_
 simp[Str.length]
section
variable {X:Cx}
theorem lT:MtR X "str.startswith" (λx vs H Q=>∃ (a b:Str),x=.str a/\vs=[.str b]/\Q (.bl (Txt.startswith a b)) H):=by
 intro pins s U H x vs v us Q I c d h
 obtain ⟨a,b,rfl,rfl,q⟩:=h
 obtain ⟨k,rfl⟩:=c
 obtain ⟨u,rfl,t,rfl⟩:=d.one
 exact call_gives F.slot_str_startswith (typeIs_str _ _ _) F.entry_str_startswith (F.args_str_startswith_2 _ _) (gives_str_startswith a b k t) #[.bl _,H,I,rfl,q]
theorem CQ:SlR X (λx lo hi H Q=>∃ (z:Str),x=.str z/\z.length<=sizeLine/\Q (.str (Txt.slice z lo hi)) H):=by
 intro pins s U H x v d c lo hi sl Q I b a pl pu h
 obtain ⟨z,rfl,hz,q⟩:=h
 obtain ⟨t,rfl⟩:=b
 refine #["str",_,F.slot_str_getitem.lookup,typeIs_str _ _ _,?_]
 have fin:∀ t' k,EP X pins U Q (.str (Txt.slice z lo hi) t') { s with toks:=k }:=λt' k=>#[.str _,H,I.tok k,#[t',rfl],q]
 cases pl with
 | none =>
  cases pu with
  | none=>exact wpAny_getItem_str_slice (l:=none) (u:=none) (st:=none) a rfl (post_val_or_str #[F1 (Txt.slice_le z _ _) hz,fin])
  | int j u=>exact wpAny_getItem_str_slice (l:=none) (u:=some (j,u)) (st:=none) a rfl (post_val_or_str #[F1 (Txt.slice_le z _ _) hz,fin])
 | int i u =>
  cases pu with
  | none=>exact wpAny_getItem_str_slice (l:=some (i,u)) (u:=none) (st:=none) a rfl (post_val_or_str #[F1 (Txt.slice_le z _ _) hz,fin])
  | int j u'=>exact wpAny_getItem_str_slice (l:=some (i,u)) (u:=some (j,u')) (st:=none) a rfl (post_val_or_str #[F1 (Txt.slice_le z _ _) hz,fin])
theorem lY:b7 X (.type "int") (λxs H Q=>∃ (z:Str) (n:Int),xs=[.str z]/\PySem.intText? z=some n/\z.length<=640/\Q (.int n) H):=by
 intro pins s U H xs us Q I r h
 obtain ⟨z,n,rfl,h1,h2,q⟩:=h
 obtain ⟨u,rfl,t,rfl⟩:=cH r
 exact PySem.W.KIN.call_text h1 h2 #[.int n,H,I.tok _,#[_,rfl],q]
theorem l7:∀ (l:List (Str×Tok)),Vals ((l.map (·.1)).map V.str) (strValues l)
 | []=>.nil
 | p::l=>.cons #[p.2,rfl] (l7 l)
theorem xI:MtR X "str.split" (λx vs H Q=>∃ (z y:Str),x=.str z/\vs=[.str y]/\(y.length == 0)=false/\z.length+2<=sizeLine/\∀ l,H l=none->Q (.ref l) (upd H l (.lst ((Txt.split z y).map V.str)))):=by
 intro pins s U H x vs v us Q I c d h
 obtain ⟨z,y,rfl,rfl,a,hz,q⟩:=h
 obtain ⟨k,rfl⟩:=c
 obtain ⟨u,rfl,t,rfl⟩:=d.one
 have b:=PyProof.Rows.split_le z y
 have fin:∀ (l:List (Str×Tok)) (tk:Nat),l.map (·.1)=Txt.split z y->EP X pins U Q (.ref s.heap.objs.size) { s with heap:=s.heap.push { cls:=.type "list",data:=.seq (strValues l).toArray },toks:=tk }:=λl tk hl=>by
  have hlen:((l.map (·.1)).map V.str).length<=sizeLine:=by rw[Ft,hl];lia
  refine #[.ref s.heap.objs.size,upd H s.heap.objs.size (.lst ((l.map (·.1)).map V.str)),I.lnew (l7 l) hlen,rfl,?_]
  rw[hl]
  exact q _ I.fresh
 cases h1:(decide (z.length < y.length) || decide (Builtin.Str.strKind z < Builtin.Str.strKind y)) with
 | true=>exact call_meets F.slot_str_split (typeIs_str _ _ _) F.entry_str_split (F.args_str_split_2 _ _) (meets_str_split_cannot_occur z y k t h1) (fin [(z,k)] s.toks (by unfold Txt.split;rw[if_pos h1];rfl))
 | false =>
  cases hf:(Builtin.Str.occurrences z y 0 z.length (z.length+1)).isEmpty with
  | true=>exact call_meets F.slot_str_split (typeIs_str _ _ _) F.entry_str_split (F.args_str_split_2 _ _) (meets_str_split_not_found z y k t h1 a hf) (fin [(z,k)] s.toks (by unfold Txt.split;rw[if_neg (by rw[h1];decide),if_pos hf];rfl))
  | false =>
   have e:Txt.split z y=Builtin.Str.partsBetween z (Builtin.Str.occurrences z y 0 z.length (z.length+1)) y.length:=by unfold Txt.split;rw[if_neg (by rw[h1];decide),if_neg (by rw[hf];decide)]
   refine call_meets F.slot_str_split (typeIs_str _ _ _) F.entry_str_split (F.args_str_split_2 _ _) (meets_str_split_sep z y k t h1 a hf (by lia) (by rw[<- e];lia)) ?_
   show EP X pins U Q (.ref s.heap.objs.size) { s with toks:=_,heap:=s.heap.push { cls:=.type "list",data:=.seq (strsFrom s.toks (Builtin.Str.partsBetween z (Builtin.Str.occurrences z y 0 z.length (z.length+1)) y.length)).toArray } }
   rw[strsFrom_eq]
   exact fin _ _ ((numbered_texts _ _).trans e.symm)
def Its (z:Str):It:=#[λi _=>i < z.cps.size,λi H x H'=>H'=H/\∃ c,z.cps[i]?=some c/\x=.str #[(List.toArray [c])],λi _=>i=z.cps.size]
theorem vV {P:Program} {w:World} {K:FG} {tg:Expr} (z:Str) (t:Tok) (it:Addr):Turn P w K tg (Its z) [it] it (λi h=>h.IsStrIter it (strIterType z) z t i) where
 mem:=by simp
 obj:=λi h st b a=>by
  have e:b=it:=by simpa using a
  subst e
  obtain ⟨o,e,c,d⟩:=st
  exact #[o,e,λv z=>by rw[d] at z;cases z]
 keep:=λi h h' st k=>let #[o,e,r]:=st;#[o,k it (by simp) o e,r]
 item:=by
  intro X m hw l f i pins s U H E I hf st n
  subst m hw l
  obtain ⟨f0,f1,f2,j,f4,q⟩:=hf it (by simp)
  have W:Walks X.prog X.w X.A it [it] [it] z.cps.size (SignAt z) (λi h=>h.IsStrIter it (strIterType z) z t i):=by
   cases ha:z.cps.all (· < 128)
   .have e:strIterType z="str_iterator":=by simp[strIterType,ha]
    rw[e];exact Walks.strWide (I.ok.hd f) it z t
   .have e:strIterType z="str_ascii_iterator":=by simp[strIterType,ha]
    rw[e];exact Walks.strAscii (I.ok.hd f) it z t
  refine W.item i s _ _ n st λv h' tk B g p=>?_
  obtain ⟨c,u,y,rfl⟩:=B
  have C:Inv X pins U H { s with heap:=h',toks:=tk }:=I.turned (λb o a e=>p b o (by simpa using a) e) f0 f1 j f4 q
  obtain ⟨o,e,c1,d⟩:=id g
  refine #[_,rfl,?_]
  have gone:wpAny (model X.prog X.w) X.A (letOwnedTupleGo tg (.ref it) (.str #[(List.toArray [c])] u)) (λ_ s2=>∃ x H',Inv X pins U H' s2/\RelV x (.str #[(List.toArray [c])] u)/\(Its z).yld i H x H'/\(s2.heap.IsStrIter it (strIterType z) z t (i+1))/\∀ b∈[it],H' b=none) E { s with heap:=h',toks:=tk }:=by
   unfold letOwnedTupleGo
   cases tg <;> exact Fc #[.str #[(List.toArray [c])],H,C,#[u,rfl],#[rfl,c,y,rfl],g,λb a=>(hf b a).1]
  exact gone
 done:=by
  intro X m hw l f i pins s U H E I hf st n
  subst m hw l
  obtain ⟨f0,f1,f2,j,f4,q⟩:=hf it (by simp)
  obtain rfl:i=z.cps.size:=n
  have W:Walks X.prog X.w X.A it [it] [it] z.cps.size (SignAt z) (λi h=>h.IsStrIter it (strIterType z) z t i):=by
   cases ha:z.cps.all (· < 128)
   .have e:strIterType z="str_iterator":=by simp[strIterType,ha]
    rw[e];exact Walks.strWide (I.ok.hd f) it z t
   .have e:strIterType z="str_ascii_iterator":=by simp[strIterType,ha]
    rw[e];exact Walks.strAscii (I.ok.hd f) it z t
  exact W.done s _ _ st λh' tk p=>#[rfl,I.turned (λb o a e=>p b o (by simpa using a) e) f0 f1 j f4 q]
 self:=λA i s Q E st h=>by
  cases ha:z.cps.all (· < 128)
  .have e:strIterType z="str_iterator":=by simp[strIterType,ha]
   rw[e] at st;exact wpAny_pyIter_striter_wide st h
  .have e:strIterType z="str_ascii_iterator":=by simp[strIterType,ha]
   rw[e] at st;exact wpAny_pyIter_striter_ascii st h
def iStr (te:TE):TI:=λU H R=>te U H λx H1=>∃ z,x=.str z/\R (Its z) H1
theorem DI (he:PE X e te):PI X tg e (iStr te):=by
 intro pins s U H R I h
 refine thn (he pins s U H _ I h) λv s1 #[x,H1,a,c,f]=>?_
 obtain ⟨z,rfl,q⟩:=f
 obtain ⟨t,rfl⟩:=c
 refine wpAny_pyIter_strU ?_
 refine #[s1.heap.objs.size,[s1.heap.objs.size],_,_,H1,rfl,a.kept (t':=s1.toks) λb o e=>Fg _ e,vV z t _,#[_,Fs _ rfl,rfl,rfl],λb d=>?_,q]
 have e:b=s1.heap.objs.size:=by simpa using d
 subst e
 exact a.fpOk (FA _) (a.hok.fresh (FA _))
end
abbrev cod (x:Str):List Nat:=x.cps.toList
theorem kH (h:cod x=cod y):x=y:=by
 cases x;cases y
 congr
 exact Array.toList_inj.mp h
theorem ba (x y:Str):cod (x++y)=cod x++cod y:=by
 show (x.cps++y.cps).toList=_
 simp
theorem b9 (x:Str):x.length=(cod x).length:=by simp[Str.length]
theorem zH (x:Str) (c:Nat):Txt.startswith x #[(List.toArray [c])]=((cod x).head? == some c):=by
 unfold Txt.startswith
 rw[StrLaws.subAt_eq,List.drop_zero]
 show (decide (0+1<=x.length) && ((cod x).take 1 == [c]))=_
 rw[b9]
 cases e:cod x with
 | nil=>rfl
 | cons a r =>
  rw[Bool.eq_iff_iff]
  simp
theorem CP (x:Str) (h:1<=x.length):cod (Txt.slice x (some 1) none)=(cod x).drop 1:=by
 rw[slice_from_eq (b:=x.length) (by decide) (by lia) rfl]
 show List.take _ (List.drop 1 (cod x))=_
 rw[F2]
 rw[List.length_drop,<- b9]
 lia
theorem qz {c:Nat}:∀ {a b X τ:List Nat},c ∉ a->c ∉ b->a++c::X=b++c::τ->a=b/\X=τ
 | [],[],X,τ,_,_,h=>by simp at h;exact #[rfl,h]
 | [],y::b,X,τ,_,hb,h=>by simp at h;exact absurd (by simp[h.1]) hb
 | x::a,[],X,τ,ha,_,h=>by simp at h;exact absurd (by simp[h.1]) ha
 | x::a,y::b,X,τ,ha,hb,h=>by
  simp only[List.cons_append,List.cons.injEq] at h
  obtain ⟨h1,h2⟩:=qz (λm=>ha (Ff _ m)) (λm=>hb (Ff _ m)) h.2
  exact #[by rw[h.1,h1],h2]
theorem dO (sep a b:Str) (r:List Str):Str.join sep (a::b::r)=a++sep++Str.join sep (b::r):=rfl
theorem mK {c:Nat}:∀ {as bs:List Str},as≠[]->bs≠[]->(∀ x∈as,c ∉ cod x)->(∀ x∈bs,c ∉ cod x)->Str.join #[(List.toArray [c])] as=Str.join #[(List.toArray [c])] bs->as=bs
 | [],_,h,_,_,_,_=>absurd rfl h
 | _,[],_,h,_,_,_=>absurd rfl h
 | [a],[b],_,_,_,_,h=>by rw[show a=b from h]
 | [a],b::b'::r,_,_,ha,_,h=>by
  rw[dO] at h
  have h':=congrArg cod (show a=_ from h)
  rw[ba,ba] at h'
  exact absurd (by rw[h'];simp[cod]) (ha a Fe)
 | a::a'::r,[b],_,_,_,hb,h=>by
  rw[dO] at h
  have h':=congrArg cod (show _=b from h)
  rw[ba,ba] at h'
  exact absurd (by rw[<- h'];simp[cod]) (hb b Fe)
 | a::a'::r,b::b'::r',_,_,ha,hb,h=>by
  rw[dO,dO] at h
  have h':=congrArg cod h
  rw[ba,ba,ba,ba,List.append_assoc,List.append_assoc] at h'
  obtain ⟨e1,f⟩:=qz (ha a Fe) (hb b Fe) h'
  have e:=mK (by simp) (by simp) (λx d=>ha x (Ff _ d)) (λx d=>hb x (Ff _ d)) (kH f)
  rw[kH e1,e]
theorem qQ {c:Nat} (h:as≠[]) (ha:∀ x∈as,c ∉ cod x):Txt.split (Str.join #[(List.toArray [c])] as) #[(List.toArray [c])]=as:=by
 refine mK ?_ h (StrLaws.split_free _ c) ha (StrLaws.join_split _ _)
 intro e
 have:=split_pos (Str.join #[(List.toArray [c])] as) #[(List.toArray [c])]
 rw[e] at this
 exact absurd this (by decide)
theorem qr {c:Nat} (a:c≠45) (hd:c < 48\/57 < c) (i:Int):c ∉ cod (bQ i):=by
 intro m
 have e:cod (bQ i)=if i < 0 then 45::dig i.natAbs else dig i.natAbs:=AT i
 rw[e] at m
 split at m
 .rcases Fm.mp m with z | z
  .exact a z
  .have:=iA z;lia
 .have:=iA m;lia
theorem mV:cod (",":Str)=[44]:=by decide +kernel
theorem u8:32 ∉ cod (ce p):=by
 intro m
 unfold ce at m
 rw[ba,ba,mV] at m
 rcases Fq.mp m with m | m
 .rcases Fq.mp m with m | m
  .exact qr (by decide) (.inl (by decide)) _ m
  .simp at m
 .exact qr (by decide) (.inl (by decide)) _ m
theorem yY:(" ":Str)=#[(List.toArray [32])]:=by decide +kernel
theorem pz (h:ps≠[]):Txt.split (aF ps) " "=ps.map ce:=by
 unfold aF
 rw[yY]
 refine qQ (by simpa using h) λx a=>?_
 obtain ⟨p,_,rfl⟩:=Fy.mp a
 exact u8
theorem rN:∀ c:Nat,48<=c/\c<=57->(!(Builtin.Str.occurrences (Str.ofString "0123456789") #[(List.toArray [c])] 0 (Str.ofString "0123456789").length 1).isEmpty)=true:=by
 intro c h
 have key:∀ d:Nat,d < 10->(!(Builtin.Str.occurrences (Str.ofString "0123456789") #[(List.toArray [48+d])] 0 (Str.ofString "0123456789").length 1).isEmpty)=true:=by decide +kernel
 have:=key (c - 48) (by lia)
 rwa [show 48+(c - 48)=c by lia] at this
theorem rL {c:Nat} (h:48<=c/\c<=57):PySem.intText? #[(List.toArray [c])]=some ((c - 48:Nat):Int):=by
 have key:∀ d:Nat,d < 10->PySem.intText? #[(List.toArray [48+d])]=some ((48+d - 48:Nat):Int):=by decide +kernel
 grind
end L2
end
section
namespace PySem
open Sem (wp)
end PySem
end
section
namespace L2
open PySem PySem.Spec PyProof.Rows
section
variable {X:Cx}
theorem xJ:MtR X "list.index" (λx vs H Q=>∃ (a:Addr) (xs:List V) (k:V) (j:Nat),x=.ref a/\vs=[k]/\SqL X.K H a xs/\fJ k=true/\xs.all fJ=true/\(∃ y,xs[j]?=some y/\eqV y k=true)/\(∀ (i:Nat) (y:V),i < j->xs[i]?=some y->eqV y k=false)/\Q (.int j) H):=by
 intro pins s U H x vs v us Q I O P h
 obtain ⟨a,xs,k,j,rfl,rfl,hl,N,fx,⟨y,J,R⟩,p,q⟩:=h
 cases O
 obtain ⟨u,rfl,S⟩:=cH P
 obtain ⟨its,r,⟨o,n,e,E,hd,G⟩,hz⟩:=I.list hl
 obtain ⟨w,hw,g⟩:=r.get J
 have hlen:=r.length
 have M:j < its.length:=(Fu.mp hw).1
 have D:∀ z∈xs,fJ z=true:=List.all_eq_true.mp fx
 have hit:eqU k its.toArray[j]=true:=by
  have e1:its.toArray[j]=w:=by
   have:=(Fu.mp hw).2
   simpa using this
  rw[e1,oM g (D y (Fv J))]
  exact R
 have no:∀ m (hm:m < its.toArray.size),m < j->eqU k its.toArray[m]=false:=λm hm A=>by
  have b:m < xs.length:=by simp at hm;lia
  obtain ⟨L,l,B⟩:=r.get (Fo b)
  have e1:its.toArray[m]=L:=by
   have:=(Fu.mp l).2
   simpa using this
  rw[e1,oM B (D _ (List.getElem_mem _))]
  exact p m _ A (Fo b)
 have C:s.heap.get? a=some { cls:=.type "list",dict:=none,data:=.seq its.toArray n,slots:=o.slots }:=by
  rw[e]
  obtain ⟨c,d,dt,sl⟩:=o
  dsimp only at E hd G
  subst E hd G
  rfl
 have f:(j:Int) < 2 ^ 63 - 1:=by
  have:sizeLine < 2 ^ 60:=by decide
  lia
 refine call_meets F.slot_list_index #[_,C,rfl] F.entry_list_index (F.args_list_index_2 _ _) (SeqAt.list_indexAt a its.toArray n none o.slots u (eqU k) j (by simpa using M) f hit no) #[C,λz t=>k8 S N r fx z (by simpa using t),?_]
 exact #[.int j,H,I.tok _,#[_,rfl],q]
end
end L2
end
section
namespace PyProof.Rows
open PySem
end PyProof.Rows
end
section
namespace L2
open PySem PySem.Spec PyProof.Rows
def IsNts (h:Heap) (b:Addr) (n:List Int):Prop:=∃ it:Array Value,IsTup h b it/\IntsAre it.toList n
theorem IsNts.at (x:IsNts h b n) (e:∀ o,h.get? b=some o->h'.get? b=some o):IsNts h' b n:=by
 obtain ⟨it,⟨o,e1,r⟩,j⟩:=x
 exact #[it,#[o,e o e1,r],j]
structure NRow (h:Heap) (bs:List Addr) (ns:List (List Int)):Prop where
 len:ns.length=bs.length
 at':∀ (i:Nat) (b:Addr) (n:List Int),bs[i]?=some b->ns[i]?=some n->IsNts h b n/\n≠[]
 asc:∀ (i:Nat) (x y:List Int),ns[i]?=some y->ns[i+1]?=some x->HT.lexLt x y=false
theorem NRow.keep (r:NRow h bs ns) (k:∀ b∈bs,∀ o,h.get? b=some o->h'.get? b=some o):NRow h' bs ns :=
 #[r.len,λi b n e1 a=>#[(r.at' i b n e1 a).1.at (k b (Fv e1)),(r.at' i b n e1 a).2],r.asc]
end L2
end
section
namespace L2
open PySem
abbrev Up (xs:Array Nat):Prop:=xs.toList.Pairwise (· < ·)
theorem Up.at (h:Up xs) {i k:Nat} (a:i < k) (b:k < xs.size):xs[i]'(by omega) < xs[k]:=by
 have:=List.pairwise_iff_getElem.mp h i k (by simp;lia) (by simpa using b) a
 simpa using this
structure Tab (b:Bool) (t:SetTable):Prop where
 up:Up t.place
 led:t.led=b
end L2
end
section
namespace L2
open PySem PyProof.Rows
abbrev B0 (w:World):Bool:=!w.params.followText "set-order"
def SetL (prog:Program) (w:World) (h:Heap) (a:Addr) (ns:List Int):Prop :=
 ∃ o es b t ms,h.get? a=some o/\o.ExactSet/\o.data=.set es b t/\ElemsOf (intKind prog w) es.toList/\IntsAre (es.toList.map (·.2)) ms/\ms.Perm ns/\es.size < scanBound/\t.fits es.size=true/\Tab (B0 w) t
theorem SetL.keep (x:SetL prog w h a ns) (k:∀ o,h.get? a=some o->h'.get? a=some o):SetL prog w h' a ns :=
 let #[o,es,b,t,ms,e,r]:=x;#[o,es,b,t,ms,k o e,r]
def met (ns:List Int) (k:Int):List Int:=if k∈ns then ns else ns++[k]
def SIt (w:World) (h:Heap) (I a:Addr) (es:Array (Int×Value)) (b:Nat) (t:SetTable) (ord:List Value) (i:Nat):Prop :=
  ∃ first,h.get? I=some { cls:=.type "set_iterator",dict:=none,data:=.fields (List.toArray [first,rawInt i,.ref a,rawInt es.size,rawInt b]),slots:=(List.toArray []) } /\
    ((w.params.followText "set-order"=true /\ first=rawInt 0 /\ ord=(pickOrder (w.params.setOrder a b) es).toList.map (·.2)) \/
     (w.params.followText "set-order"=false /\ (!t.plain && es.size > 1)=false /\ (∃ k:Nat,first=rawInt k /\ SetTable.below t.place k=i) /\ ord=es.toList.map (·.2)) \/
     (∃ (T:Addr) (ps:List Nat),first=.ref T /\ T≠I /\ h.get? T=some { cls:=.type "tuple",data:=.seq (ps.map λ(p:Nat)=>rawInt p).toArray } /\ ps.Perm (List.range es.size) /\ ord=ps.filterMap λp=>es[p]?.map (·.2)))
structure SAt (w:World) (h:Heap) (a:Addr) (es:Array (Int×Value)) (ep:Nat) (t:SetTable):Prop where
 at':∃ o,h.get? a=some o/\o.data=.set es ep t
 fits:t.fits es.size=true
 tab:Tab (B0 w) t
section
variable {prog:Program} {w:World} {A:Around} {E:Value->Shared->Prop} {s:Shared}
theorem SAt.keep {b:Nat} (x:SAt w h a es b t) (k:∀ o,h.get? a=some o->h'.get? a=some o):SAt w h' a es b t :=
 let #[#[o,e,d],f,t]:=x;#[#[o,k o e,d],f,t]
theorem SIt.keep {d:Nat} {i:Nat} (x:SIt w h I a es d t ord i) (nS:I≠S) (j:∀ T ps,h.get? T=some { cls:=.type "tuple",data:=.seq ps }->T≠S) (k:∀ b o,b≠S->h.get? b=some o->h'.get? b=some o):SIt w h' I a es d t ord i:=by
 obtain ⟨f,g,m⟩:=x
 refine #[f,k _ _ nS g,?_]
 rcases m with m | m | ⟨T,ps,e1,e,c,l⟩
 .exact .inl m
 .exact .inr (.inl m)
 .exact .inr (.inr #[T,ps,e1,e,k _ _ (j _ _ c) c,l])
end
end L2
end
section
namespace L2
open PySem PySem.Spec PyProof.Rows
section
variable {X:Cx}
theorem pU (h:wpAny (model prog w) A (eval k env) (λx s1=>wpAny (model prog w) A (eval v env) (λy s2=>wpAny (model prog w) A (dictSet s.heap.objs.size x y) (λ_ s3=>Q (.ref s.heap.objs.size) s3) E s2) E s1) E { s with heap:=s.heap.push { cls:=.type "dict",data:=.dict (List.toArray []) } }) :
  wpAny (model prog w) A (eval (.Dict [some k] [v] pos) env) Q E s:=by
 rw[arm_eval_Dict]
 refine Fb (wpAny_standAt ?_)
 have e:=dictDisplay_pairs [(eval k env,(do let x <- eval v env;standAt pos;pure x:Sem Value))] (by simp) (by simp)
 refine (show wpAny (model prog w) A (dictDisplay ([(eval k env,(do let x <- eval v env;standAt pos;pure x:Sem Value))].map λp=>(some p.1,p.2))) Q E s from ?_)
 rw[e]
 refine Fb ?_
 unfold subDict
 refine Fb (wpAny_alloc (Fb (Fd ?_)))
 rw[if_pos (by simp)]
 refine Fb ?_
 unfold evalPairs
 refine Fb (wpAny_mono h (λx s1 h1=>?_) λ_ _ z=>z)
 refine Fb (Fd (Fb (wpAny_mono h1 (λy s2 h2=>?_) λ_ _ z=>z)))
 refine Fb (wpAny_standAt (Fc ?_))
 refine Fb (Fd (Fc (Fc (Fd ?_))))
 simp only[List.forIn_cons,List.forIn_nil]
 refine Fb (Fb (Fb (wpAny_mono h2 (λ_ s3 h3=>?_) λ_ _ z=>z)))
 exact Fc (Fc (Fc (Fc (Fc h3))))
def tD1K (k:Key) (v:V):TE:=λ_ H Q=>∀ p,H p=none->Q (.ref p) (upd (upd H p (.dK [])) p (.dK [(k,v)]))
theorem DR (r:PE X k (tC (kV key))) (p:PE X v (tC d)):PE X (.Dict [some k] [v] pos) (tD1K key d):=by
 intro pins s U H Q I q
 have j:=I.hok.fresh (FA s.heap.objs.size)
 have u:=I.laid (a:=s.heap.objs.size) (o:=.dK []) (h':=s.heap.push { cls:=.type "dict",data:=.dict (List.toArray []) }) (t':=s.toks) (λ_ _ q=>Fg _ q) (FA _) (yH s.heap I.big)
 refine pU (thn (r pins _ U _ (λx H2=>x=kV key/\H2=upd H s.heap.objs.size (.dK [])) u #[rfl,rfl]) λx s1 #[w,H1,i,n,e1,e]=>thn (p pins s1 U H1 (λy H2=>y=d/\H2=upd H s.heap.objs.size (.dK [])) i #[rfl,e]) λy s2 #[c,H2,f,g,t,l]=>?_)
 subst e1 e t l
 obtain ⟨z,hd,vs,rel,dd⟩:=rT f.hok (.inl aI)
 cases rel
 refine gp (hsz:=Nat.zero_le _) (tz n) dd λh' b m=>?_
 have he:∃ q,h'.get? s.heap.objs.size=some q:=let #[q,_,_,h,_]:=b;#[q,h]
 have hz:[(key,c)].length<=sizeLine:=(by decide:1<=sizeLine)
 exact #[.ref s.heap.objs.size,_,kF f (by rw[aI];exact True.intro) m he (yG (kvs:=[(key,c)]) hz hd (KV.put (kvs:=[]) .nil key g) b),rfl,q _ j]
def tD1T (ns:List Int) (v:V):TE:=λ_ H Q=>∀ p,H p=none->∀ b,upd H p (.dT [] 0) b=none->Q (.ref p) (upd (upd (upd H p (.dT [] 0)) b (.tup (ns.map V.int))) p (.dT [(ns.map Sum.inl,v)] 0))
theorem DQ {x1:Nat} (hu:X.A.units+1 < cLine) (h0:ns≠[]) (hz:ns.length<=100) (K:es.map vG=ns.map some) (J:PE X v (tC d)):PE X (.Dict [some (.Tuple es x1 pos')] [v] pos) (tD1T ns d):=by
 intro pins s U H Q I q
 have r:=I.hok.fresh (FA s.heap.objs.size)
 have M:=I.laid (a:=s.heap.objs.size) (o:=.dT [] 0) (h':=s.heap.push { cls:=.type "dict",data:=.dict (List.toArray []) }) (t':=s.toks) (λ_ _ q=>Fg _ q) (FA _) (yE s.heap I.big)
 have D:=xj (X:=X) (x1:=x1) (pos:=pos') (s9 ns K)
 have len:(ns.map V.int).length<=sizeLine:=by rw[Ft,sizeLine_eq];omega
 refine pU (thn (D pins _ U _ (λx H2=>∃ b,x=.ref b/\upd H s.heap.objs.size (.dT [] 0) b=none/\H2=upd (upd H s.heap.objs.size (.dT [] 0)) b (.tup (ns.map V.int))) M #[len,λb e=>#[b,rfl,e,rfl]]) λx s1 #[N,H1,p,C,b,e1,e,G]=>thn (J pins s1 U H1 (λy H2=>y=d/\H2=H1) p #[rfl,rfl]) λy s2 #[F,H2,j,n,L,t]=>?_)
 subst e1 G L t
 have nb:b≠s.heap.objs.size:=λz=>by rw[z,aI] at e;cases e
 cases (show x=Value.ref b from C)
 have h:upd (upd H s.heap.objs.size (.dT [] 0)) b (.tup (ns.map V.int)) s.heap.objs.size=some (.dT [] 0):=by rw[av (Ne.symm nb),aI]
 have hb2:upd (upd H s.heap.objs.size (.dT [] 0)) b (.tup (ns.map V.int)) b=some (.tup ((ns.map Sum.inl).map kV)):=by rw[aI,F7];rfl
 obtain ⟨z,hd,xs,rel,dd⟩:=rS j.hok (.inl h)
 cases rel
 refine iL (hsz:=Nat.zero_le _) (show (tupleKind (bV X.prog X.w)).room X.A from Nat.lt_of_succ_lt hu) (om j.hok hb2) dd λh' i u=>?_
 obtain ⟨l,f,g,k,h2,h3,B,_,E⟩:=i
 refine #[.ref s.heap.objs.size,_,kF (ob:=.dT [(ns.map Sum.inl,F)] 0) j (by rw[h];exact True.intro) u #[l,k] #[(by decide:1<=sizeLine),hd,_,(KT.put (kvs:=[]) .nil (ns.map Sum.inl) hb2 n).keeps λc ys m=>?_,l,f,g,k,h2,h3,B,E],rfl,q _ r b e]
 rw[av (BV m h (λz=>nomatch z))]
 exact m
end
end L2
end
section
namespace L2
open PySem PySem.W PySem.Spec PyProof.Rows
abbrev excO (a:Addr) (cls:Value):HO:=.ext λh=>∃ o,h.get? a=some o/\o.cls=cls
abbrev dW (ob:Obj) (a:Addr) (cls:Value):HO:=.frz ob (excO a cls)
structure ExcK (K:FG) (D:Addr):Prop where
 ga:findIn K (.ref D) "__getattribute__"=some (some (.builtin "BaseException.__getattribute__"))
 gt:findIn K (.ref D) "__getattr__"=some none
 cl:(clsIn K D).isSome=true
 ca:findIn K (.ref D) "__class__"=some (some (.builtin "object.__class__"))
 sp:specialIn K (.builtin "object.__class__") "__get__"=some (some (.builtin "getset_descriptor.__get__"))
 tk:takesIn K (.builtin "object.__class__")=some true
 ob:mroIn K D (.type "object")=some true
 be:mroIn K D (.type "BaseException")=some true
structure XName (K:FG) (c:String) (D:Addr):Prop where
 ns:nsIn K mainGlobals (Str.ofString c)=some (some (.ref D))
 ex:ExcK K D
theorem XName.inj {K:FG} (a:XName K c D) (b:XName K c D'):D=D':=by
 have:=a.ns.symm.trans b.ns
 cases this
 rfl
end L2
end
section
namespace L2
open PySem
section
variable {K:FG} {h:Heap} {mg:Str->Option Value}
theorem xU {h:Heap} {i:Nat} {p:Obj} {q:Nat×Obj} (a:h.objs[i]?=some p) (e:qj (i,p)=some q):q.1=i /\ h.get? i=some q.2:=by
  obtain ⟨c,d,x,y⟩:=p
  unfold Heap.get?
  rw[a]
  cases x <;> first | (cases e; exact #[rfl,rfl]) | cases e
theorem jM:∀ {is:List Nat} {l:List Obj} {a:Nat} {o:Obj},(∀ (j i:Nat) (p:Obj),is[j]?=some i->l[j]?=some p->h.objs[i]?=some p)->((is.zip l).filterMap qj).lookup a=some o->h.get? a=some o
 | [],_,_,_,_,e=>by cases e
 | _::_,[],_,_,_,e=>by cases e
 | b::is,p::l,a,o,hj,e=>by
  have I:=hj 0 b p rfl rfl
  have d:∀ (j i:Nat) (p:Obj),is[j]?=some i->l[j]?=some p->h.objs[i]?=some p:=λj i p h1 h2=>hj (j+1) i p (by simpa using h1) (by simpa using h2)
  rw[List.zip_cons_cons,List.filterMap_cons] at e
  cases hl:qj (b,p) with
  | none=>rw[hl] at e;exact jM d e
  | some q =>
   rw[hl] at e
   obtain ⟨h1,h2⟩:=xU I hl
   obtain ⟨f,g⟩:=q
   cases h1
   replace e:List.lookup a ((f,g)::(is.zip l).filterMap qj)=some o:=e
   rw[List.lookup_cons] at e
   cases c:a == f with
   | true=>rw[c] at e;cases eq_of_beq c;cases e;exact h2
   | false=>rw[c] at e;exact jM d e
theorem fragAt_in (h:Heap):(yA h).In h:=λ_ _ e=>jM (λj i p h1 h2=>by
 obtain ⟨a,rfl⟩:=Fu.mp h1
 simpa using h2) e
def stPos (s:Stmt):Pos:=match s with
 | .FunctionDef _ _ _ _ _ _ _ _ _ p=>p
 | _=>#[0,0,0,0]
set_option tactic.hygienic true in
theorem ES (X:K.In h) (G:h.Ns mainGlobals mg) (e:qv K n=lx n st):Def K mg n st:=by
 unfold qv at e
 split at e
 .rename_i f hf
  split at e
  .rename_i b od fd sl hl
   unfold lx at e
   obtain ⟨name,qual,params,body,scope,globals,closure,defaults,kw,doc,pm,an,cd,ct,bi⟩:=fd
   simp only[Option.some.injEq,Prod.mk.injEq] at e
   obtain ⟨rfl,rfl,rfl,rfl,rfl,rfl,rfl,rfl,rfl,a⟩:=e
   exact #[f,_,EJ (st:=st) hl a (by unfold PySem.W.keepIn;simp only[hl]),PySem.W.mg_of X G hf]
  .cases e
 .cases e
theorem k6 {α β:Type} {f g:α->β} {l:List α} (e:l.map f=l.map g) (i:Nat) {a:α} (h:l[i]?=some a):f a=g a:=List.map_inj_left.mp e a (Fv h)
theorem a8 {ds:List (Str×Stmt)} (X:K.In h) (G:h.Ns mainGlobals mg) (e:ds.map (λp=>qv K p.1)=ds.map (λp=>lx p.1 p.2)) (i:Nat) (hi:ds[i]?=some (n,st)):Def K mg n st:=ES X G (k6 e i hi)
theorem cf {l:List Str} (X:K.In h) (G:h.Ns mainGlobals mg) (e:l.map (PySem.W.nsIn K mainGlobals)=l.map (λ_=>some none)) (i:Nat) (hi:l[i]?=some n):mg n=none:=PySem.W.mg_none_of X G (k6 e i hi)
set_option tactic.hygienic true in
theorem ED {l:List (Str×Int)} {v:Int} (X:K.In h) (G:h.Ns mainGlobals mg) (e:l.map (λp=>oB K p.1)=l.map (λp=>some p.2)) (i:Nat) (hi:l[i]?=some (n,v)):∃ t,mg n=some (.int v t):=by
 have e:=k6 e i hi
 unfold oB at e
 dsimp only at e
 split at e
 .rename_i b t a;cases e;exact #[t,PySem.W.mg_of X G a]
 .cases e
set_option tactic.hygienic true in
theorem CO {l:List (Str×Str)} (X:K.In h) (G:h.Ns mainGlobals mg) (e:l.map (λp=>nz K p.1)=l.map (λp=>some p.2)) (i:Nat) (hi:l[i]?=some (n,v)):∃ t,mg n=some (.str v t):=by
 have e:=k6 e i hi
 unfold nz at e
 dsimp only at e
 split at e
 .rename_i b t a;cases e;exact #[t,PySem.W.mg_of X G a]
 .cases e
theorem walk_ofS {l:PySem.W.OpenLaw} {n k:Nat} {S:FG->Prop} {sp:FG->Sp} (C:l.most=some n) (m:n<=sizeLine) (j:d.params.defaults=[]) (I:Room k callerA) (M:∀ (w:World) (h:Heap),YP w h->∃ K:FG,K.In h/\S K) (F:∀ (w:World) (mg:Str->Option Value) (i:Addr) (h:Heap) (K:FG),S K->K.In h->h.Ns mainGlobals mg->mg d.name=some (.ref i) ->
   ∃ fd:FuncData,(∀ (s:Shared) (u:Value),BindsTo s fd #[[u],[]] [(x,u)]) /\
    ∀ base:Heap,K.In base->base.Ns mainGlobals mg->FnOk l.prog w K mg base CX k i fd [x] (sp K)) (p:∀ (K:FG) (H:Hp) (a:Addr) (ns:List Int),ns.length<=n->BB H->SqL K H a (ns.map V.int)->sp K [.ref a] H (λv _=>v=.bl true) λ_ _ _=>False) (t:∀ (H:Hp) (s:Shared) (e:Value) (s':Shared),CX [] H s (λ_ _ _=>False) e s'->False) :
  PySem.W.WalkO q loose XP YP l.row.toRowW d [] (λf vs=>PySem.call f vs):=by
 refine Att.attach_call C j λw s₀ A mg mb i o pm cd doc a vs ns G τ N hd J r c hints hlen D=>?_
 obtain ⟨K,z,y⟩:=M w _ τ
 obtain ⟨fd,B,E⟩:=F w mg i _ K y z G.T.g r
 exact xX z G.T.g G.T.b G.T.builtins G.T.nolimit D c hints (F1 hlen m) I E B (λH L y=>p K H a ns hlen L y) λH e s'=>t H A e s'
end
end L2
end
section
namespace L2
open PySem PySem.Spec PyProof.Rows
def NoCtx (h:Heap) (a:Addr):Prop:=∃ o vs,h.get? a=some o/\o.data=.fields vs/\vs[2]?=some Value.none
theorem NoCtx.keep (x:NoCtx h a) (k:∀ o,h.get? a=some o->h'.get? a=some o):NoCtx h' a :=
 let #[o,vs,e,r]:=x;#[o,vs,k o e,r]
def cV (Φ:Heap->Prop) {α:Type}:Sem α->Prop
 | .pure _ | .raise _ | .unsupported _ | .finish _=>True
 | .rule _ k=>cV Φ (k ())
 | .at _ k=>cV Φ (k ())
 | .point _ k=>cV Φ (k ())
 | .load _ _ k=>∀ o,cV Φ (k o)
 | .loadIfAlive _ k=>∀ o,cV Φ (k o)
 | .update a _ f k=>(∀ h,Φ h->Φ (h.update a f))/\cV Φ (k ())
 | .alloc _ k=>∀ a,cV Φ (k a)
 | .fresh k=>∀ t,cV Φ (k t)
 | .ask k=>∀ x,cV Φ (k x)
 | .handled _ k=>∀ v,cV Φ (k v)
 | .stack k=>∀ l,cV Φ (k l)
 | _=>False
theorem zp (push:∀ h o,Φ h->Φ (h.push o)) (t:Sem α):∀ {Q:α->Pos->Shared->Prop} {E:Value->Pos->Shared->Prop} {p:Pos} {s:Shared},cV Φ t->Φ s.heap->Sem.wp M Γ t Q E p s->Sem.wp M Γ t (λa p s'=>Q a p s'/\Φ s'.heap) (λe p s'=>E e p s'/\Φ s'.heap) p s:=by
 induction t with
 | pure a=>intro Q E p s _ f h;rw[Sem.wp] at h ⊢;exact #[h,f]
 | raise e=>intro Q E p s _ f h;rw[Sem.wp] at h ⊢;exact #[h,f]
 | unsupported w=>intro Q E p s _ f h;rw[Sem.wp] at h;exact h.elim
 | finish e=>intro Q E p s _ f h;rw[Sem.wp] at h;exact h.elim
 | rule _ k ih=>intro Q E p s c f h;rw[Sem.wp] at h ⊢;exact ih () c f h
 | «at» _ k ih=>intro Q E p s c f h;rw[Sem.wp] at h ⊢;exact ih () c f h
 | point _ k ih=>intro Q E p s c f h;rw[Sem.wp] at h ⊢;exact ih () c f h
 | load a _ k ih=>intro Q E p s c f h;rw[Sem.wp] at h ⊢;obtain ⟨o,e,h⟩:=h;exact #[o,e,ih o (c o) f h]
 | loadIfAlive a k ih=>intro Q E p s c f h;rw[Sem.wp] at h ⊢;exact ih _ (c _) f h
 | update a _ g k ih=>intro Q E p s c f h;rw[Sem.wp] at h ⊢;exact #[h.1,ih () c.2 (c.1 _ f) h.2]
 | alloc o k ih=>intro Q E p s c f h;rw[Sem.wp] at h ⊢;exact ih _ (c _) (push _ _ f) h
 | fresh k ih=>intro Q E p s c f h;rw[Sem.wp] at h ⊢;exact ih _ (c _) f h
 | ask k ih=>intro Q E p s c f h;rw[Sem.wp] at h ⊢;exact ih _ (c _) f h
 | handled _ k ih=>intro Q E p s c f h;rw[Sem.wp] at h ⊢;exact ih _ (c _) f h
 | stack k ih=>intro Q E p s c f h;rw[Sem.wp] at h ⊢;exact ih _ (c _) f h
 | _=>intro Q E p s c;exact False.elim c
theorem cZ (push:∀ h o,Φ h->Φ (h.push o)) (c:cV Φ t) (f:Φ s.heap) (h:wpAny M A t Q E s):wpAny M A t (λa s'=>Q a s'/\Φ s'.heap) (λe s'=>E e s'/\Φ s'.heap) s :=
 λΓ p i=>zp push t c f (h Γ p i)
theorem aM (t:Sem α):cV Φ t->(∀ a,cV Φ (f a))->cV Φ (t.bind f):=by
 induction t with
 | pure a=>exact λ_ k=>k a
 | raise e=>exact λ_ _=>trivial
 | unsupported w=>exact λ_ _=>trivial
 | finish e=>exact λ_ _=>trivial
 | rule _ k ih=>exact λc q=>ih () c q
 | «at» _ k ih=>exact λc q=>ih () c q
 | point _ k ih=>exact λc q=>ih () c q
 | load a _ k ih=>exact λc q o=>ih o (c o) q
 | loadIfAlive a k ih=>exact λc q o=>ih o (c o) q
 | update a _ g k ih=>exact λc q=>#[c.1,ih () c.2 q]
 | alloc o k ih=>exact λc q a=>ih a (c a) q
 | fresh k ih=>exact λc q a=>ih a (c a) q
 | ask k ih=>exact λc q a=>ih a (c a) q
 | handled _ k ih=>exact λc q a=>ih a (c a) q
 | stack k ih=>exact λc q a=>ih a (c a) q
 | _=>exact λc _=>c.elim
def NoCtD (h:Heap) (a:Addr) (da:Option Addr):Prop:=∃ o vs,h.get? a=some o/\o.data=.fields vs/\vs[2]?=some Value.none/\o.dict=da
theorem NoCtD.keep {h h':Heap} {a:Addr} {da:Option Addr} (x:NoCtD h a da) (k:∀ o,h.get? a=some o->h'.get? a=some o):NoCtD h' a da :=
 let #[o,vs,e,r]:=x;#[o,vs,k o e,r]
theorem c6 {da:Option Addr}:∀ (h:Heap) (o:Obj),NoCtD h a da->NoCtD (h.push o) a da:=λh o x=>x.keep λ_ e=>Fg _ e
theorem nW {da:Option Addr} {i:Nat} (hi:i≠2):∀ h:Heap,NoCtD h a da->NoCtD (h.update b (Obj.mapFields (·.setIfInBounds i v))) a da:=λh x=>by
 by_cases e:b=a
 .subst e
  obtain ⟨o,vs,d,hd,h2,h3⟩:=x
  have hd2:=Obj.data_mapFields hd (·.setIfInBounds i v)
  exact #[_,_,FL _ d (Obj.isFreed_of_fields hd2),hd2,by rw[Array.getElem?_setIfInBounds_ne hi];exact h2,by obtain ⟨_,_,c,_⟩:=o;cases c <;> exact h3]
 .exact x.keep λo q=>(FX _ _ e).trans q
theorem pY {da:Option Addr} (hf:∀ o,(f o).data=o.data) (d:∀ o,(f o).dict=o.dict):∀ h:Heap,NoCtD h a da->NoCtD (h.update b f) a da:=λh x=>by
 by_cases e:b=a
 .subst e
  obtain ⟨o,vs,c,hd,h2,h3⟩:=x
  exact #[f o,vs,FL _ c (Obj.isFreed_of_fields ((hf o).trans hd)),(hf o).trans hd,h2,(d o).trans h3]
 .exact x.keep λo q=>(FX _ _ e).trans q
section
variable {a:Addr} {da:Option Addr}
theorem lN (v:Value):cV (NoCtD · a da) (fieldsOf v):=by
 unfold fieldsOf
 cases v <;> try exact trivial
 exact λo=>by
  show cV _ (match o.data with | .fields vs=>_ | _=>_)
  split <;> exact trivial
theorem iO (v:Value) (i:Nat):cV (NoCtD · a da) (field v i):=by
 unfold field
 refine aM _ (lN v) λvs=>?_
 split <;> exact trivial
theorem eA (v:Value) {i:Nat} (hi:i≠2) (x:Value):cV (NoCtD · a da) (setField v i x):=by
 unfold setField
 cases v <;> try exact trivial
 exact λo=>by
  show cV _ (match o.data with | .fields vs=>_ | _=>_)
  split
  .split
   .exact #[nW hi,trivial]
   .exact trivial
  .exact trivial
theorem fV (e:Value) (f:Option Addr):cV (NoCtD · a da) (setFlight e f):=by
 unfold setFlight
 refine aM _ (iO e 1) λtb=>?_
 split
 .exact eA _ (by decide) _
 .exact trivial
theorem qU (f:Addr) (b:Bool):cV (NoCtD · a da) (entryPlaceOf f b):=by
 unfold entryPlaceOf
 refine aM _ (λ_=>trivial) λl=>?_
 split <;> exact trivial
theorem kT (t:String) (vs:List Value):cV (NoCtD · a da) (newFields t vs):=by
 unfold newFields newObj
 dsimp only
 split
 .exact trivial
 .exact λ_=>trivial
theorem uz (env:Env) (b:Bool):∀ l:List Env,cV (NoCtD · a da) (keptBack env b l)
 | []=>by
  simp only[keptBack]
  split
  .exact trivial
  .exact aM _ (aM _ (λ_=>trivial) λ_=>trivial) λ_=>trivial
 | _::_=>trivial
theorem kS:∀ l:List Env,cV (NoCtD · a da) (readyFrames l)
 | []=>trivial
 | env::outer=>by
  unfold readyFrames
  split
  .refine aM _ (λ_=>trivial) λo=>?_
   split
   .exact trivial
   .refine aM _ ?_ λ_=>aM _ (uz _ _ _) λ_=>aM _ #[pY (λ_=>rfl) λ_=>rfl,trivial] λ_=>kS outer
    unfold behindIsImport
    split
    .exact trivial
    .split
     .exact trivial
     .exact aM _ (iO _ _) λ_=>trivial
  .exact trivial
theorem nD (env:Env):cV (NoCtD · a da) (PySem.frameOf env):=by
 unfold PySem.frameOf
 refine aM _ (aM _ (λ_=>trivial) λ_=>trivial) λl=>?_
 refine aM _ ?_ λr=>?_
 .unfold frameObject
  split
  .exact trivial
  .exact aM _ (kS _) λ_=>trivial
 .split <;> exact trivial
theorem mn (e:Value) (env:Env):cV (NoCtD · a da) (noteFrame e env):=by
 unfold noteFrame
 repeat' first
  | exact trivial
  | exact eA _ (by decide) _
  | refine aM _ (iO _ _) (λ_=>?_)
  | refine aM _ (eA _ (by decide) _) (λ_=>?_)
  | refine aM _ (nD _) (λ_=>?_)
  | refine aM _ (qU _ _) (λ_=>?_)
  | refine aM _ (kT _ _) (λ_=>?_)
  | split
theorem eW (e:Value) (env:Env):cV (NoCtD · a da) (leaving env e):=aM _ (mn e env) λ_=>fV e none
end
section
variable {M:Model} {A:Around} {E:Value->Shared->Prop} {s:Shared} {base h:Heap} {env:Env} {outer l:List Env} {L e:Addr} {cls a0:Value} {args:List Value} {da:Option Addr} {Q:Unit->Shared->Prop}
theorem oi (f:A.frames=some (env::outer)) (hf:env.frame=some L) (b:base.StaysIn h) (hl:h.FunFrames base (env::outer)) (g:Heap.MadeExcOf h s.heap e cls args)
  (i:∀ h' t,Heap.FlyingW base outer e cls (.ref t) h'->s.heap.UpToSlots h'->NoCtD h' e none->Q () { s with heap:=h' }):wpAny M A (leaving env (.ref e)) Q E s:=by
 have c:NoCtD s.heap e none:=by
  obtain ⟨t,he,_⟩:=g.there
  exact #[_,_,he,rfl,rfl,rfl]
 refine wpAny_mono (cZ c6 (eW _ _) c (wpAny_leaves_madeW (Q:=λ_ s2=>∃ h' t,s2={ s with heap:=h' }/\Heap.FlyingW base outer e cls (.ref t) h'/\s.heap.UpToSlots h') f hf b hl g λh' t a _ _ d=>#[h',t,rfl,a,d])) (λ_ s2 q=>?_) λ_ _ z=>z.1
 obtain ⟨⟨h',t,rfl,a,d⟩,n⟩:=q
 exact i h' t a d n
theorem oh {b:Obj} {vs:Array Value} (f:A.frames=some (env::outer)) (hf:env.frame=some L) (c:base.StaysIn s.heap) (hl:s.heap.FunFrames base (env::outer)) (he:s.heap.get? e=some b) (g:base.get? e=none) (hd:b.data=.fields vs) (h0:vs[0]?=some a0) (h1:vs[1]?=some .none) (h2:vs[2]?=some .none)
  (i:∀ h',Heap.FlyingW base outer e b.cls a0 h'->s.heap.UpToSlots h'->NoCtD h' e b.dict->Q () { s with heap:=h' }):wpAny M A (leaving env (.ref e)) Q E s:=by
 refine wpAny_mono (cZ c6 (eW _ _) (#[b,vs,he,hd,h2,rfl]:NoCtD s.heap e b.dict) (wpAny_leaving_firstW (Q:=λ_ s2=>∃ h',s2={ s with heap:=h' }/\Heap.FlyingW base outer e b.cls a0 h'/\s.heap.UpToSlots h') f hl hf he c g hd h1 h0 λh' z=>?_)) (λ_ s2 q=>?_) λ_ _ z=>z.1
 .obtain ⟨k1,⟨_,_,k2⟩,k3,h⟩:=z
  exact #[h',rfl,#[k1,g,k2,k3],h]
 .obtain ⟨⟨h',rfl,a,d⟩,n⟩:=q
  exact i h' a d n
theorem rH (b:A.frames=some (env::outer)) (hf:env.frame=some L) (f:Heap.FlyingW base (env::outer) e cls a0 s.heap) (c:NoCtD s.heap e da)
  (g:∀ h',Heap.FlyingW base outer e cls a0 h'->s.heap.UpToSlots h'->NoCtD h' e da->Q () { s with heap:=h' }):wpAny M A (leaving env (.ref e)) Q E s:=by
 refine wpAny_mono (cZ c6 (eW _ _) c (wpAny_leaves_onW (Q:=λ_ s2=>∃ h',s2={ s with heap:=h' }/\Heap.FlyingW base outer e cls a0 h'/\s.heap.UpToSlots h') b hf f λh' a d=>#[h',rfl,a,d])) (λ_ s2 q=>?_) λ_ _ z=>z.1
 obtain ⟨⟨h',rfl,a,d⟩,n⟩:=q
 exact g h' a d n
theorem uW (b:A.frames=some (env::outer)) (hf:env.frame=some L) (f:Heap.FlyingW base (env::outer) e cls a0 s.heap) (c:NoCtD s.heap e da)
  (g:∀ h',Heap.HeldW base (env::outer) e cls a0 L h'->s.heap.UpToSlots h'->NoCtD h' e da->Q () { s with heap:=h' }):wpAny M A (noteFrame (.ref e) env) Q E s:=by
 refine wpAny_mono (cZ c6 (mn _ _) c (wpAny_looks_onW (Q:=λ_ s2=>∃ h',s2={ s with heap:=h' }/\Heap.HeldW base (env::outer) e cls a0 L h'/\s.heap.UpToSlots h') b hf f λh' a d=>#[h',rfl,a,d])) (λ_ s2 q=>?_) λ_ _ z=>z.1
 obtain ⟨⟨h',rfl,a,d⟩,n⟩:=q
 exact g h' a d n
theorem Et (b:Heap.HeldW base l e cls a0 L s.heap) (c:NoCtD s.heap e da) (f:∀ h',Heap.FlyingW base l e cls a0 h'->s.heap.UpToSlots h'->NoCtD h' e da->Q () { s with heap:=h' }):wpAny M A (setFlight (.ref e) none) Q E s:=by
 refine wpAny_mono (cZ c6 (fV _ _) c (wpAny_landsW (Q:=λ_ s2=>∃ h',s2={ s with heap:=h' }/\Heap.FlyingW base l e cls a0 h'/\s.heap.UpToSlots h') b λh' a d=>#[h',rfl,a,d])) (λ_ s2 q=>?_) λ_ _ z=>z.1
 obtain ⟨⟨h',rfl,a,d⟩,n⟩:=q
 exact f h' a d n
theorem oj (b:Heap.FlyingW base l e cls a0 s.heap) (c:NoCtD s.heap e da) (f:∀ h',Heap.FlyingW base l e cls a0 h'->s.heap.UpToSlots h'->NoCtD h' e da->Q () { s with heap:=h' }):wpAny M A (setFlight (.ref e) none) Q E s:=by
 refine wpAny_mono (cZ c6 (fV _ _) c (lands_againW (Q:=λ_ s2=>∃ h',s2={ s with heap:=h' }/\Heap.FlyingW base l e cls a0 h'/\s.heap.UpToSlots h') b λh' a d=>#[h',rfl,a,d])) (λ_ s2 q=>?_) λ_ _ z=>z.1
 obtain ⟨⟨h',rfl,a,d⟩,n⟩:=q
 exact f h' a d n
end
def NoC (ob:Obj):Prop:=∃ vs,ob.data=.fields vs/\vs[2]?=some Value.none
def Hd (X:Cx):Prop:=∃ a ob u,X.A.handled=some (.ref a)/\X.H₀ a=some (.frz ob u)/\NoC ob
def Cov (fs:List Addr) (H':Hp) (h0 h' B:Heap):Prop:=∀ b o,h'.get? b=some o->b ∉ fs->(H' b≠none\/∃ o0,h0.get? b=some o0)->B.get? b=some o
structure Fly (P:Program) (w:World) (outer:List Env) (H:Hp) (s:Shared) (H':Hp) (a:Addr) (cls:Value) (da:Option Addr) (s':Shared):Prop where
 os:s'.os=s.os
 bare:AllBare s'.gens
 un:Un (frs outer) [] H H' s.heap s'.heap
 hok:HOk P w H' s'.heap
 free:H' a=none
 new:s.heap.get? a=none
 fl:∃ B a0,Heap.FlyingW B outer a cls a0 s'.heap/\Cov (frs outer) H' s.heap s'.heap B
 ctx:NoCtD s'.heap a da
def CXe (P:Program) (w:World):CXT:=λouter H s E e s'=>∃ a cls da H',e=.ref a/\Fly P w outer H s H' a cls da s'/\E cls da H'
section
variable {X:Cx} {pins:List (Addr×Obj)} {U:St} {H:Hp} {s:Shared}
theorem Inv.noLoc (I:Inv X pins U H s) (e:X.s₀.heap.get? b=some o):b≠X.env.locals:=FD (FJ (Fp e) I.ok.above)
theorem HOk.at (ok:HOk P w H h) (e:H b≠none):∃ o,h.get? b=some o:=by
 cases q:H b with
 | none=>exact absurd q e
 | some u =>
  have:=ok b u q
  cases u with
  | lst xs=>obtain ⟨_,_,_,_,e⟩:=this;exact #[_,e]
  | tup xs=>obtain ⟨_,_,_,o,e,_⟩:=this;exact #[o,e]
  | dK kvs=>obtain ⟨_,_,_,_,o,_,_,e,_⟩:=this;exact #[o,e]
  | dT kvs=>obtain ⟨_,_,_,_,o,_,_,e,_⟩:=this;exact #[o,e]
  | set S n=>obtain ⟨o,_,_,_,e,_⟩:=this;exact #[o,e]
  | ins C dx fs=>obtain ⟨_,_,_,e,_⟩:=this;exact #[_,e]
  | dsk C dx b vp vs=>obtain ⟨_,_,_,_,_,e,_⟩:=this;exact #[_,e]
  | own y=>exact this
  | xd fs=>obtain ⟨_,⟨o,_,_,e,_⟩,_⟩:=this;exact #[o,e]
  | rng lo hi=>obtain ⟨_,_,_,e⟩:=this;exact #[_,e]
  | frz ob u=>obtain ⟨e,_⟩:=this;exact #[_,e]
  | tbl ps=>exact #[_,this]
  | met f y=>exact #[_,this]
  | ext φ=>obtain ⟨_,e,_⟩:=this;exact e
theorem og (hex:X.ex=[]) (I:Inv X pins U H s) (k1:∀ b o,s.heap.get? b=some o->b ∉ frs X.stack->(H b≠none\/∃ o0,X.s₀.heap.get? b=some o0)->h'.get? b=some o) (k2:∀ b o,s.heap.get? b=some o->(∀ vs,o.data≠.fields vs)->∃ sl,h'.get? b=some { o with slots:=sl }):Un (frs X.outer) [] X.H₀ H X.s₀.heap h'/\HOk X.prog X.w H h':=by
 have g:∀ b:Addr,b ∉ X.ex:=λb z=>by rw[hex] at z;cases z
 have out:∀ b o,X.s₀.heap.get? b=some o->b ∉ frs X.outer->b ∉ frs X.stack:=λb o e n z=>by
  rcases Fm.mp (I.stkSub b z) with z | z
  .exact I.noLoc e z
  .exact n z
 have f:∀ b∈frs X.outer,∀ o,s.heap.get? b=some o->∀ vs,o.data≠.fields vs:=λb a o e=>by
  obtain ⟨_,o',k,d⟩:=I.funs.mem a
  rw[e] at k;cases k;exact d
 refine #[#[λb o e n a _=>?_,λb o e n a _=>?_,λb o e n _=>I.base.free b o e n (g b),λb o e _=>?_,I.base.tups,I.base.frzs,I.base.tbls],λb u e=>?_]
 .exact k1 b o (I.base.keep b o e n a (g b)) (out b o e a) (.inr #[o,e])
 .obtain ⟨sl,e1⟩:=I.base.slot b o e n a (g b)
  obtain ⟨j,i⟩:=k2 b _ e1 (f b a _ e1)
  exact #[j,i]
 .obtain ⟨o',e1⟩:=I.base.there b o e (g b)
  by_cases a:b∈frs X.outer
  .obtain ⟨sl,i⟩:=k2 b o' e1 (f b a o' e1)
   exact #[_,i]
  .exact #[o',k1 b o' e1 (out b o e a) (.inr #[o,e])]
 .refine (I.hok b u e).stay (λc v h z=>?_) (λ_ z=>z) λ_ _ z=>z
  have l:H c≠none:=by
   rcases h with rfl | h
   .rw[e];intro z;cases z
   .rw[h];intro z;cases z
  exact k1 c v z (λa=>l (I.stkFree c a)) (.inl l)
theorem lg (hex:X.ex=[]) (I:Inv X pins U H s) (k1:∀ b o,s.heap.get? b=some o->b ∉ frs X.stack->(H b≠none\/∃ o0,X.s₀.heap.get? b=some o0)->B.get? b=some o) (st:B.StaysIn h'):Cov (frs X.outer) H X.s₀.heap h' B:=λb o e n c=>by
 have g:∀ b:Addr,b ∉ X.ex:=λb z=>by rw[hex] at z;cases z
 have h1:∃ a,s.heap.get? b=some a/\b ∉ frs X.stack:=by
  rcases c with c | ⟨o0,f⟩
  .obtain ⟨a,e1⟩:=I.hok.at c
   exact #[a,e1,λh=>c (I.stkFree b h)]
  .obtain ⟨a,e1⟩:=I.base.there b o0 f (g b)
   refine #[a,e1,λz=>?_]
   rcases Fm.mp (I.stkSub b z) with z | z
   .exact I.noLoc f z
   .exact n z
 obtain ⟨a,e1,i⟩:=h1
 have d:=k1 b a e1 i c
 rw[st b a d] at e
 cases e
 exact d
theorem Fly.inv {da:Option Addr} (I:Inv X pins U H s) (f:Fly X.prog X.w X.stack H s H' a cls da s'):Inv X pins U H' s' :=
 I.call' f.os f.un f.hok f.bare (λ_ z=>nomatch z)
theorem Inv.newAt (hex:X.ex=[]) (I:Inv X pins U H s) (n:s.heap.get? a=none):X.s₀.heap.get? a=none/\H a=none:=by
 constructor
 .cases q:X.s₀.heap.get? a with
  | none=>rfl
  | some o =>
   obtain ⟨o',e⟩:=I.base.there a o q (by rw[hex];simp)
   rw[n] at e;cases e
 .cases q:H a with
  | none=>rfl
  | some u =>
   obtain ⟨o,e⟩:=I.hok.at (b:=a) (by rw[q];intro z;cases z)
   rw[n] at e;cases e
end
section
variable {P:Program} {w:World} {K:FG} {mg:Str->Option Value} {base:Heap} {N:List Str} {qual:Str} {scope:Scope} {f:Addr} {cd:Value} {A:Around} {outer:List Env} {s0:Shared} {H0:Hp} {E:XK} {pins:List (Addr×Obj)} {U:St} {H:Hp} {s s':Shared}
theorem zo (I:Inv (dD (CXe P w) P w K mg base N qual scope f cd A outer s0 H0 E) pins U H s) (c:Heap.MadeExcOf s.heap s'.heap a cls vs) (i:s'.os=s.os) (p:s'.gens=s.gens) (g:E cls none H) :
  (dD (CXe P w) P w K mg base N qual scope f cd A outer s0 H0 E).xe (.ref a) s':=by
 have d:∀ env∈(PyProof.Rows.envOfC qual scope s0.heap.objs.size f cd::outer),∀ b,env.frame=some b->b∈frs (PyProof.Rows.envOfC qual scope s0.heap.objs.size f cd::outer):=λenv he b j=>List.mem_filterMap.mpr #[env,he,j]
 obtain ⟨r,m⟩:=I.newAt rfl c.new
 refine oi (base:=PySem.W.hideAll s.heap (frs (PyProof.Rows.envOfC qual scope s0.heap.objs.size f cd::outer))) (h:=s.heap) (L:=s0.heap.objs.size) I.ok.frames rfl (λb o q=>PySem.W.of_hideAll _ q) (PySem.W.funFrames_hide I.stack d) c λh' t f1 f4 l=>?_
 have k1:∀ b o,s.heap.get? b=some o->b ∉ frs (PyProof.Rows.envOfC qual scope s0.heap.objs.size f cd::outer)->(PySem.W.hideAll s.heap (frs (PyProof.Rows.envOfC qual scope s0.heap.objs.size f cd::outer))).get? b=some o:=λb o e n=>PySem.W.hideAll_get _ e n
 obtain ⟨u,ok⟩:=og rfl I (h':=h') (λb o e n _=>f1.1 b o (k1 b o e n)) λb o e hd=>by
  obtain ⟨sl,k⟩:=f4 b o (c.keeps b o e) hd
  exact #[sl,k]
 refine #[a,cls,none,H,rfl,#[i.trans I.os,by show AllBare s'.gens;rw[p];exact I.bare,u,ok,m,r,#[_,_,f1,lg rfl I (λb o e n _=>k1 b o e n) f1.1],l],g]
theorem vN {a:Addr} {ob:Obj} {vs:Array Value} {a0:Value} (I:Inv (dD (CXe P w) P w K mg base N qual scope f cd A outer s0 H0 E) pins U H s) (he:s.heap.get? a=some ob) (hd:ob.data=.fields vs) (h0:vs[0]?=some a0) (h1:vs[1]?=some .none) (h2:vs[2]?=some .none) (h:s0.heap.get? a=none) (g:H a=none) (i:E ob.cls ob.dict H) :
  (dD (CXe P w) P w K mg base N qual scope f cd A outer s0 H0 E).xe (.ref a) s:=by
 have d:∀ env∈(PyProof.Rows.envOfC qual scope s0.heap.objs.size f cd::outer),∀ b,env.frame=some b->b∈a::frs (PyProof.Rows.envOfC qual scope s0.heap.objs.size f cd::outer):=λenv he b j=>Ff _ (List.mem_filterMap.mpr #[env,he,j])
 have k1:∀ b o,s.heap.get? b=some o->b ∉ frs (PyProof.Rows.envOfC qual scope s0.heap.objs.size f cd::outer)->(H b≠none\/∃ o0,s0.heap.get? b=some o0)->(PySem.W.hideAll s.heap (a::frs (PyProof.Rows.envOfC qual scope s0.heap.objs.size f cd::outer))).get? b=some o:=λb o e n c=>PySem.W.hideAll_get _ e λz=>by
  rcases Fm.mp z with z | z
  .subst z
   rcases c with c | ⟨_,c⟩
   .exact c g
   .rw[h] at c;cases c
  .exact n z
 refine oh (base:=PySem.W.hideAll s.heap (a::frs (PyProof.Rows.envOfC qual scope s0.heap.objs.size f cd::outer))) (L:=s0.heap.objs.size) I.ok.frames rfl (λb o q=>PySem.W.of_hideAll _ q) (PySem.W.funFrames_hide I.stack d) he (PySem.W.hideAll_none _ Fe) hd h0 h1 h2 λh' f1 f4 k=>?_
 obtain ⟨u,ok⟩:=og rfl I (h':=h') (λb o e n c=>f1.1 b o (k1 b o e n c)) f4
 exact #[a,ob.cls,ob.dict,H,rfl,#[I.os,I.bare,u,ok,g,h,#[_,_,f1,lg rfl I k1 f1.1],k],i]
theorem Cj (I:Inv (dD (CXe P w) P w K mg base N qual scope f cd A outer s0 H0 E) pins U H s) (h:CXe P w (PyProof.Rows.envOfC qual scope s0.heap.objs.size f cd::outer) H s E1 e s') (j:∀ cls da H',E1 cls da H'->E cls da H') :
  (dD (CXe P w) P w K mg base N qual scope f cd A outer s0 H0 E).xe e s':=by
 obtain ⟨a,cls,da,H',rfl,F,g⟩:=h
 have d:=Fly.inv I F
 obtain ⟨B,a0,f1,i⟩:=F.fl
 have bI:s0.heap.get? a=none:=(I.newAt rfl F.new).1
 have k1:∀ b o,s'.heap.get? b=some o->b ∉ frs (PyProof.Rows.envOfC qual scope s0.heap.objs.size f cd::outer)->(H' b≠none\/∃ o0,s0.heap.get? b=some o0)->B.get? b=some o:=λb o e n c=>by
  refine i b o e n ?_
  rcases c with c | ⟨o0,m⟩
  .exact .inl c
  .exact .inr (I.base.there b o0 m (λz=>nomatch z))
 refine rH (L:=s0.heap.objs.size) I.ok.frames rfl f1 F.ctx λh' g1 g2 l=>?_
 obtain ⟨u,ok⟩:=og rfl d (h':=h') (λb o e n c=>g1.1 b o (k1 b o e n c)) λb o e hd=>by
  obtain ⟨sl,k⟩:=g2 b o e hd
  exact #[sl,k]
 exact #[a,cls,da,H',rfl,#[d.os,d.bare,u,ok,F.free,bI,#[B,a0,g1,lg rfl d k1 g1.1],l],j cls da H' g]
end
section
variable {P:Program} {w:World} {outer:List Env} {H H':Hp} {s s1:Shared} {a:Addr} {cls:Value} {da:Option Addr}
theorem Fly.move (F:Fly P w outer H s H' a cls da s1) (q:∀ b∈frs outer,H' b=none) (f1:Heap.FlyingW B outer a cls a0 s1.heap) (k:Cov (frs outer) H' s.heap s1.heap B) (f2:Heap.FlyingW B outer a cls a0 h2) (up:s1.heap.UpToSlots h2) (y:NoCtD h2 a da):Fly P w outer H s H' a cls da { s1 with heap:=h2 }/\Cov (frs outer) H' s.heap h2 B:=by
 have k1:∀ b o,s1.heap.get? b=some o->b ∉ frs outer->(H' b≠none\/∃ o0,s.heap.get? b=some o0)->h2.get? b=some o:=λb o e n g=>f2.1 b o (k b o e n g)
 have l:∀ b∈frs outer,∀ o,s1.heap.get? b=some o->∀ vs,o.data≠.fields vs:=λb f o e=>by
  obtain ⟨_,o',t,d⟩:=f1.2.2.1.mem f
  rw[e] at t;cases t;exact d
 have h:Cov (frs outer) H' s.heap h2 B:=λb o e n g=>by
  have h1:∃ p,s1.heap.get? b=some p:=by
   rcases g with g | ⟨o0,A⟩
   .exact F.hok.at g
   .exact F.un.there b o0 A (λz=>nomatch z)
  obtain ⟨p,e1⟩:=h1
  have i:=k b p e1 n g
  have x:=f2.1 b p i
  rw[x] at e
  cases e
  exact i
 refine #[#[F.os,F.bare,#[λb o e n f j=>?_,λb o e n f j=>?_,F.un.free,λb o e j=>?_,F.un.tups,F.un.frzs,F.un.tbls],λb u e=>?_,F.free,F.new,#[B,a0,f2,h],y],h]
 .exact k1 b o (F.un.keep b o e n f j) f (.inr #[o,e])
 .obtain ⟨sl,e1⟩:=F.un.slot b o e n f j
  obtain ⟨m,i⟩:=up b _ e1 (l b f _ e1)
  exact #[m,i]
 .obtain ⟨o',e1⟩:=F.un.there b o e j
  by_cases f:b∈frs outer
  .obtain ⟨m,i⟩:=up b o' e1 (l b f o' e1)
   exact #[_,i]
  .exact #[o',k1 b o' e1 f (.inr #[o,e])]
 .refine (F.hok b u e).stay (λc v g z=>?_) (λ_ z=>z) λ_ _ z=>z
  have r:H' c≠none:=by
   rcases g with rfl | g
   .rw[e];intro z;cases z
   .rw[g];intro z;cases z
  exact k1 c v z (λf=>r (q c f)) (.inl r)
end
abbrev Cx.caught0 (X:Cx) (a:Addr):Cx:={ X with A:=X.A.mark (some (.ref a)),calm:=false,xe:=λ_ _=>False }
abbrev Cx.caught (X:Cx) (a:Addr) (ob:Obj) (cls:Value):Cx:={ X with A:=X.A.mark (some (.ref a)),calm:=false,xe:=λ_ _=>False,H₀:=upd X.H₀ a (dW ob a cls) }
section
variable {X:Cx} {pins:List (Addr×Obj)} {U:St} {H H':Hp} {s s1:Shared} {a:Addr} {cls:Value}
theorem Inv.caught0 (I:Inv X pins U H s) (a:Addr):Inv (X.caught0 a) pins U H s :=
 #[#[I.ok.mod,I.ok.kind,I.ok.glob,I.ok.blt,I.ok.above,I.ok.inj,I.ok.has,I.ok.cab,(λh=>by cases h),I.ok.frames,I.ok.stk,I.ok.exf,I.ok.bs,I.ok.bsz,I.ok.noex,I.ok.exfs,I.ok.funs,I.ok.frf],I.os,I.bare,I.base,I.loc,I.cell,I.free,I.freeC,I.pin,I.hok,I.len]
theorem Inv.trackX (I:Inv X pins U H' s1) (J:Inv X pins U H s) (new:s.heap.get? a=none) (w:H' a=none) (hex:X.ex=[]) (f:s1.heap.get? a=some ob) (j:ob.cls=cls):Inv X pins U (upd H' a (dW ob a cls)) s1:=by
 obtain ⟨e1,L,N,d,B,K,O,C,F,l,h⟩:=id I
 have ne:∀ b o,s.heap.get? b=some o->b≠a:=λb o e z=>by rw[z,new] at e;cases e
 have g:∀ b o,X.s₀.heap.get? b=some o->b≠a:=λb o e=>by
  obtain ⟨o',G⟩:=J.base.there b o e (by rw[hex];simp)
  exact ne b o' G
 have i:∀ b u,H' b=some u->upd H' a (dW ob a cls) b=some u:=λb u e=>by rw[av (aU e w)];exact e
 refine #[e1,L,N,#[d.keep,d.slot,λb o q n y=>?_,d.there,λb ys q=>i _ _ (d.tups b ys q),λb o u q=>i _ _ (d.frzs b o u q),λb ps q=>?_],B,K,?_,λx c q=>?_,λp t=>?_,?_,h]
 .rw[av (g b o q)];exact d.free b o q n y
 .obtain ⟨more,E⟩:=d.tbls b ps q;exact #[more,i _ _ E]
 .obtain ⟨m,⟨o,_,_,r,_⟩,_⟩:=J.loc
  rw[av (ne _ o r)];exact O
 .obtain ⟨v,o,r,_⟩:=J.cell x c q
  rw[av (ne c o r)];exact C x c q
 .obtain ⟨a1,a2,A⟩:=F p t
  exact #[a1,by rw[av (ne p.1 p.2 (J.pin p t).1)];exact a2,A]
 .exact l.track w #[f,#[ob,f,j],#[ob,f],λh1 h2 #[o,M,D] k=>#[o,k o M,D]]
theorem Inv.nameless (I:Inv X pins U H s) {t':Nat} (B:h'.Ns X.env.locals m') (g:Heap.SameBut X.env.locals s.heap h'):Inv X pins (List.replicate X.N.length none) H { s with heap:=h',toks:=t' }:=by
 obtain ⟨e1,F,w,f,G,E,l,y,D,m,C⟩:=id I
 have a:∀ b o,X.s₀.heap.get? b=some o->b≠X.env.locals:=λb o e=>I.noLoc e
 refine #[e1,F,w,#[λb o e n k h=>?_,λb o e n k h=>?_,f.free,λb o e h=>?_,f.tups,f.frzs,f.tbls],#[m',B,λi x v h1 h2 h3=>?_],λx c e=>?_,l,y,λp A=>?_,λb u e=>?_,by rw[List.length_replicate]]
 .exact (g.2 b (a b o e)).trans (f.keep b o e n k h)
 .obtain ⟨sl,q⟩:=f.slot b o e n k h
  exact #[sl,(g.2 b (a b o e)).trans q]
 .obtain ⟨o',q⟩:=f.there b o e h
  exact #[o',(g.2 b (a b o e)).trans q]
 .rw[List.getElem?_replicate] at h2
  split at h2 <;> cases h2
 .obtain ⟨v,o,q,d⟩:=E x c e
  exact #[v,o,(g.2 c (I.cne x c e)).trans q,d]
 .obtain ⟨q,n,ne,r⟩:=D p A
  exact #[(g.2 p.1 ne).trans q,n,ne,r]
 .refine (m b u e).stay (λc v j z=>?_) (λ_ z=>z) λ_ _ z=>z
  have t:c≠X.env.locals:=λq=>by
   rcases j with rfl | j
   .rw[q,l] at e;cases e
   .rw[q,l] at j;cases j
  exact (g.2 c t).trans z
theorem Inv.namelessC (I:Inv X pins U H s) {t':Nat} (hf:X.fn n=true) (l:X.env.cells.lookup n=some c) (G:h'.IsCell c none) (h:Heap.SameBut c s.heap h'):Inv X pins (List.replicate X.N.length none) H { s with heap:=h',toks:=t' }:=by
 obtain ⟨e1,P,D,f,C,O,F,t,K,B,J⟩:=id I
 obtain ⟨v0,o0,L,M⟩:=I.cell n c l
 have w:=I.ok.cab n c hf l
 have g:∀ b o,X.s₀.heap.get? b=some o->b≠c:=λb o e=>FD (FJ (Fp e) w)
 have A:X.env.locals≠c:=λz=>I.cne n c l z.symm
 refine #[e1,P,D,#[λb o e n y k=>?_,λb o e n y k=>?_,f.free,λb o e k=>?_,f.tups,f.frzs,f.tbls],?_,λx j e=>?_,F,t,λp E=>?_,λb u e=>?_,by rw[List.length_replicate]]
 .exact (h.2 b (g b o e)).trans (f.keep b o e n y k)
 .obtain ⟨sl,q⟩:=f.slot b o e n y k
  exact #[sl,(h.2 b (g b o e)).trans q]
 .obtain ⟨o',q⟩:=f.there b o e k
  exact #[o',(h.2 b (g b o e)).trans q]
 .obtain ⟨m,hm,_⟩:=C
  refine #[m,hm.sameBut h A,λi x v h1 h2 h3=>?_]
  rw[List.getElem?_replicate] at h2
  split at h2 <;> cases h2
 .by_cases z:j=c
  .rw[z];exact #[_,G]
  .obtain ⟨v,o,q,d⟩:=O x j e
   exact #[v,o,(h.2 j z).trans q,d]
 .obtain ⟨q,n,ne,r⟩:=K p E
  have z:p.1≠c:=λz=>by
   rw[z,L] at q
   cases q
   exact r.2 v0 M
  exact #[(h.2 p.1 z).trans q,n,ne,r]
 .refine (B b u e).stay (λj v a z=>?_) (λ_ z=>z) λ_ _ z=>z
  have hz:j≠c:=λq=>by
   rcases a with rfl | a
   .rw[q,t n c l] at e;cases e
   .rw[q,t n c l] at a;cases a
  exact (h.2 j hz).trans z
theorem lR (d:env.scope.kind=.function) (hl:env.kindOf n=some .cell) (a:env.cells.lookup n=some c) (b:s.heap.IsCell c v₀) (h:∀ h',h'.IsCell c none->Heap.SameBut c s.heap h'->Q () { s with heap:=h' }):wpAny M A (do bindName env n .none;unbindBehindTheSuite env n pos) Q E s:=by
 refine Fb (wpAny_bindName (wpAny_storeName_cell d hl a b λh1 c1 s1=>?_))
 unfold unbindBehindTheSuite
 refine wpAny_onRaise ?_
 unfold unbindName
 refine Fb (wpAny_point (Fb ?_))
 unfold deleteName
 simp only[hl]
 refine Fb (wpAny_cellOf a (Fb (wpAny_cellGet c1 ?_)))
 simp only[Option.isSome_some,if_true]
 refine wpAny_cellSet c1 λh2 c2 s2=>?_
 exact wpAny_point (h h2 c2 (s1.trans s2))
theorem Inv.caught (I:Inv X pins U H s) (d:X.s₀.heap.get? a=none) (ha:H a=some (dW ob a cls)):Inv (X.caught a ob cls) pins U H s:=by
 have ne:∀ b o,X.s₀.heap.get? b=some o->b≠a:=λb o e z=>by rw[z,d] at e;cases e
 have fr:∀ b∈X.fs,b≠a:=λb c=>by
  obtain ⟨_,o',f,_⟩:=I.ok.funs.mem c
  exact ne b o' f
 have u:=I.base
 refine #[#[I.ok.mod,I.ok.kind,I.ok.glob,I.ok.blt,I.ok.above,I.ok.inj,I.ok.has,I.ok.cab,(λh=>by cases h),I.ok.frames,I.ok.stk,I.ok.exf,λb o e=>#[(I.ok.bs b o e).1,by show upd X.H₀ a _ b=none;rw[av (ne b o (I.ok.bs b o e).1)];exact (I.ok.bs b o e).2],I.ok.bsz,I.ok.noex,I.ok.exfs,I.ok.funs,λb c=>by show upd X.H₀ a _ b=none;rw[av (fr b c)];exact I.ok.frf b c],I.os,I.bare,?_,I.loc,I.cell,I.free,I.freeC,I.pin,I.hok,I.len]
 show Un _ _ (upd X.H₀ a (dW ob a cls)) H _ _
 refine #[λb o e n=>u.keep b o e (by rwa [av (ne b o e)] at n),λb o e n=>u.slot b o e (by rwa [av (ne b o e)] at n),λb o e n=>u.free b o e (by rwa [av (ne b o e)] at n),u.there,λb xs e=>?_,λb o w e=>?_,λb ps e=>?_]
 .by_cases z:b=a
  .subst z;rw[aI] at e;cases e
  .rw[av z] at e;exact u.tups b xs e
 .by_cases z:b=a
  .subst z;rw[aI] at e;cases e;exact ha
  .rw[av z] at e;exact u.frzs b o w e
 .by_cases z:b=a
  .subst z;rw[aI] at e;cases e
  .rw[av z] at e;exact u.tbls b ps e
theorem Inv.uncaught (I:Inv (X.caught a ob cls) pins U H s) (ok:X.Ok) (g:X.s₀.heap.get? a=none) (f:∀ xs,X.H₀ a≠some (.tup xs)) (d:∀ o w,X.H₀ a≠some (.frz o w)) (c:∀ ps,X.H₀ a≠some (.tbl ps)):Inv X pins U H s:=by
 have ne:∀ b o,X.s₀.heap.get? b=some o->b≠a:=λb o e z=>by rw[z,g] at e;cases e
 have u:Un X.fs X.ex (upd X.H₀ a (dW ob a cls)) H X.s₀.heap s.heap:=I.base
 refine #[ok,I.os,I.bare,?_,I.loc,I.cell,I.free,I.freeC,I.pin,I.hok,I.len]
 exact #[λb o e n=>u.keep b o e (by rwa [av (ne b o e)]),λb o e n=>u.slot b o e (by rwa [av (ne b o e)]),λb o e n=>u.free b o e (by rwa [av (ne b o e)]),u.there,λb xs e=>u.tups b xs ((av (λz:b=a=>f xs (by rw[<- z];exact e))).trans e),λb o w e=>u.frzs b o w ((av (λz:b=a=>d o w (by rw[<- z];exact e))).trans e),λb ps e=>u.tbls b ps ((av (λz:b=a=>c ps (by rw[<- z];exact e))).trans e)]
end
section
variable {X:Cx} {pins:List (Addr×Obj)} {U:St} {H H':Hp} {s s1:Shared} {a CB:Addr} {cls:Value} {da:Option Addr} {D:Ends} {cx n:Str} {i:Nat} {cp hpos:Pos} {b0:Stmt} {suite:List Stmt}
set_option tactic.hygienic true in
theorem rP (I:Inv X pins U H s) (F:Fly X.prog X.w X.stack H s H' a cls da s1) (h:X.stack=X.env::X.outer) (E:X.env.frame=some X.env.locals) (hex:X.ex=[]) (hN:X.N.Nodup)
  (hg:Gl X cx) (hd:(cx == ("__debug__":Str))=false) (hm:X.mg cx=some (.ref CB)) (hx:PySem.W.exmOne X.K cls (.ref CB)=some true) (hi:X.N[i]?=some n) (hl:X.env.scope.names.lookup n=some .local\/(X.env.scope.names.lookup n=some .cell/\X.fn n=true))
  (hs:∀ s5 ob,ob.dict=da->Hd (X.caught a ob cls)->Inv (X.caught a ob cls) pins (U.set i (some (.ref a))) (upd H' a (dW ob a cls)) s5->wpAny (model X.prog X.w) (X.A.mark (some (.ref a))) (execs (b0::suite) X.env) (λf O=>∃ v u U6 j,f=.ret u/\Inv (X.caught a ob cls) pins U6 j O/\RelV v u/\D.rt v j) (λ_ _=>False) s5) :
  wpAny (model X.prog X.w) X.A (noteFrame (.ref a) X.env) (λ_ s2=>wpAny (model X.prog X.w) X.A (setFlight (.ref a) none) (λ_ s3=>wpAny (model X.prog X.w) X.A (handleBy (.ref a) X.env [.ExceptHandler (some (.Name cx cp)) (some n) (b0::suite) hpos]) (SP X pins D) X.xe s3) X.xe s2) X.xe s1:=by
 have hA:X.A.frames=some (X.env::X.outer):=by rw[<- h];exact I.ok.frames
 have g:∀ b∈frs X.stack,H' b=none:=(Fly.inv I F).stkFree
 obtain ⟨B,a0,f1,Q⟩:=F.fl
 refine uW (outer:=X.outer) hA E (by rw[<- h];exact f1) F.ctx λh2 held x c2=>?_
 refine Et held c2 λh3 k P T=>?_
 rw[<- h] at k
 obtain ⟨S,l⟩:=F.move g f1 Q k (x.trans P) T
 have ρ:=(Fly.inv I S).caught0 a
 have G:PySem.W.Looks (model X.prog X.w) h3 (typeOf (.ref a)) cls:=by
  obtain ⟨ob,R,p⟩:=k.there
  subst p
  exact (PySem.W.Looks.ld R).andThen .now
 refine wpAny_handleBy_cons (codeAny_handlers_test (io (X:=X.caught0 a) ρ hg hm ?_ hd)) (by intro q;cases q)
 refine (PySem.W.exm_one (K:=X.K) ρ.kIn G hx).here ?_
 show codeAny _ _ _ _ _
 refine codeAny_handlers_suite_as (oj k T λh4 f4 M c4=>?_)
 obtain ⟨F4,σ⟩:=S.move g k l f4 M c4
 have I4:=Fly.inv I F4
 obtain ⟨L,d⟩:=I.newAt hex F.new
 obtain ⟨ob,m,C⟩:=f4.there
 have nc:NoC ob/\ob.dict=da:=by
  obtain ⟨o,vs,q1,q2,q3,q4⟩:=c4
  rw[m] at q1
  cases q1
  exact #[#[vs,q2,q3],q4]
 have I5:=(I4.trackX I F.new F.free hex m C).caught (ob:=ob) (cls:=cls) L aI
 have hD:Hd (X.caught a ob cls):=#[a,ob,excO a cls,rfl,aI,nc.1]
 refine fT (X:=X.caught a ob cls) (v:=V.ref a) I5 hN hi (hl.imp id And.left) rfl (λs5 J5=>?_) (hl.elim .inr λz=>.inl z.2)
 refine wpAny_mono (hs s5 ob nc.2 hD J5) (λf O h6=>?_) λ_ _ z=>z.elim
 obtain ⟨v,u,U6,j,rfl,t,r,q⟩:=h6
 have un:∀ {U7:St} {τ:Shared},Inv (X.caught a ob cls) pins U7 j τ->Inv X pins U7 j τ:=λJ=>J.uncaught I.ok L (λxs e=>by rw[I.base.tups a xs e] at d;cases d) (λo w e=>by rw[I.base.frzs a o w e] at d;cases d) λps e=>by obtain ⟨_,e⟩:=I.base.tbls a ps e;rw[e] at d;cases d
 rcases hl with hl | ⟨hl,y⟩
 case inr =>
  obtain ⟨c,p⟩:=I.ok.has n (.inl hl)
  obtain ⟨v0,z0⟩:=t.cell n c p
  exact lR I.ok.kind hl p z0 λh7 c7 sb=>#[v,_,j,(un t).namelessC (t':=O.toks) y p c7 sb,r,q]
 obtain ⟨m6,n6,_⟩:=t.loc
 refine wpAny_nameGoes hl n6 ?_ λh7 m7 n7 sb=>?_
 .have:=I.ok.kind
  rw[this];rfl
 .exact #[v,_,j,(t.uncaught I.ok L (λxs e=>by rw[I.base.tups a xs e] at d;cases d) (λo w e=>by rw[I.base.frzs a o w e] at d;cases d) λps e=>by obtain ⟨_,e⟩:=I.base.tbls a ps e;rw[e] at d;cases d).nameless n7 sb,r,q]
end
structure CalleeX (P:Program) (w:World) (K:FG) (mg:Str->Option Value) (base:Heap) (x:Str) (k:Nat) (ps:List Str) (sp:Sp):Prop where
 ex:∃ (f:Addr) (fd:FuncData),FnOk P w K mg base (CXe P w) k f fd ps sp/\mg x=some (.ref f)/\PySem.W.keepIn K (.ref f)=true/\Binds K fd ps []
section
variable {X:Cx} {x:Str} {p pos:Pos} {e:Expr} {es:List Expr} {t:TA} {k:Nat} {ps:List Str} {sp:Sp}
def tFnX (sp:Sp) (a:St->XK) (t:TA):TE:=λU H Q=>t U H λvs H1=>sp vs H1 Q (a U)
set_option tactic.hygienic true in
theorem DO (c:CalleeX X.prog X.w X.K X.mg X.base x k ps sp) (l:Room k X.A) (j:∀ (pins:List (Addr×Obj)) (U:St) (H:Hp) (s:Shared) (e:Value) (s':Shared),Inv X pins U H s->CXe X.prog X.w X.stack H s (EE U) e s'->X.xe e s') (ha:PA X (e::es) t) (n:Gl X x) (d:(x == ("__debug__":Str))=false) (he:starEach (e::es) X.env=(false,eval e X.env)::starEach es X.env) (g:(backTo pos (starEach es X.env)).any (·.1)=false):PE X (.Call (.Name x p) (e::es) [] pos) (tFnX sp EE t):=by
 obtain ⟨f,fd,F,hm,o,m⟩:=c.ex
 intro pins s U H Q I h
 refine wpAny_Call_Name_kw (io I n hm ?_ d)
 refine PySem.W.callWith_K (h₀:=X.base) I.ok.mod.kin o (thn (ha pos pins s U H _ I h) λus s1 #[vs,H1,a,r,q]=>#[a.kIn,?_]) he g
 have hl:us.length=ps.length:=by rw[<- r.length];exact F.len _ _ _ _ q
 have i:=m s1 us a.kIn (by rw[List.append_nil];exact hl)
 rw[List.append_nil] at i
 refine wpAny_call (codeAny_mono (F.run X.A X.stack s1 H1 #[us,[]] us vs Q (EE U) l a.env0 i r q) λr s' b=>?_)
 cases r with
 | error e=>exact j pins U H1 s1 e s' a b
 | ok fl =>
  cases fl with
  | ret u=>exact a.after b
  | next=>exact False.elim b
  | brk=>exact False.elim b
  | cont=>exact False.elim b
end
theorem Def.calleeX {K:FG} {st:Stmt} {k:Nat} (D:Def K mg x st) (b:∀ (kV doc pm:Value) (an:Option Addr) (a ct:Value) (us:List Value),us.length=ps.length->bindArgs (PySem.W.fnOf x x (aK st) (aG st) (ah st) .none kV doc pm an a ct) #[us,[]]=pure (ps.zip us)) (h:∀ f fd,Fun K x x st f fd->FnOk P w K mg base (CXe P w) k f fd ps sp):CalleeX P w K mg base x k ps sp:=by
 obtain ⟨f,fd,d⟩:=D
 exact #[f,fd,h f fd d.fn,d.mg,d.fn.kp,d.fn.binds b]
theorem Fun.okX {K:FG} {st:Stmt} {k:Nat} (F:Fun K x qual st f fd) (S:FnScope N ps (ah st)) (len:∀ vs H Q E,sp vs H Q E->vs.length=ps.length) (b:∀ (a:Value) (A:Around) (outer:List Env) (s:Shared) (H:Hp) (vs:List V) (Q:VK) (E:XK),Room k (A.deeper (envOfC qual (ah st) s.heap.objs.size f a))->sp vs H Q E ->
   ∃ t,PSs (dD (CXe P w) P w K mg base N qual (ah st) f a A outer s H E) (aG st) t/\t { nx:=λ_ H'=>Q .non H',rt:=Q } (fE N vs) H):FnOk P w K mg base (CXe P w) (k+1) f fd ps sp:=by
 obtain ⟨i,od,kV,doc,pm,an,a,ct,g,rfl,h,d⟩:=F.ex
 exact B8 h d S len λA outer s H vs Q E e c=>b a A outer s H vs Q E e c
structure RoomN (k:Nat) (A:Around):Prop where
 dp:A.depth+3 * k+5 < recursionLimit
 un:A.units+16 * k+200 < cLine
 gd:A.guards=some []
theorem Room.mark {k:Nat} (r:Room k A) (v:Option Value):RoomN k (A.mark v):=#[r.dp,r.un,r.gd]
theorem RoomN.mono {j k:Nat} (r:RoomN k A) (h:j<=k):RoomN j A:=#[by have:=r.dp;omega,by have:=r.un;omega,r.gd]
theorem RoomN.deeper {k:Nat} (r:RoomN (k+1) A) (env:Env):RoomN k (A.deeper env) :=
 #[by have:=r.dp;show A.depth+1+3 * k+5 < _;omega,by have:=r.un;show A.units+3+16 * k+200 < _;omega,r.gd]
def HdA (A:Around) (H:Hp):Prop:=∃ a ob u,A.handled=some (.ref a)/\H a=some (.frz ob u)/\NoC ob
structure FnOkN (P:Program) (w:World) (K:FG) (mg:Str->Option Value) (base:Heap) (k:Nat) (f:Addr) (fd:FuncData) (ps:List Str) (sp:Sp):Prop where
 len:∀ vs H Q E,sp vs H Q E->vs.length=ps.length
 run:∀ (A:Around) (outer:List Env) (s:Shared) (H:Hp) (args:Args) (us:List Value) (vs:List V) (Q:VK),RoomN k A->HdA A H->Env0 P w K mg base A outer s H->BindsTo s fd args (ps.zip us)->Vals vs us->sp vs H Q E0 ->
  codeAny (model P w) A (.call (.ref f) args) (CR CX0 outer P w H s Q E0) s
abbrev Cx.loud (X:Cx):Cx:={ X with calm:=false }
theorem rK {K:FG} (S:FnScope N ps scope) (a:Env0 P w K mg base A outer s H) (hl:vs.length=ps.length) (r:Vals vs us) (x:InCallC s s.heap.objs.size (bindL (envOfC qual scope s.heap.objs.size f cd).kindOf (ps.zip us) λ_=>none) (cellsFrom (s.heap.objs.size+1) scope.names []) (bindC (envOfC qual scope s.heap.objs.size f cd).kindOf (ps.zip us) λ_=>none) s1) :
  Inv ((dD CX0 P w K mg base N qual scope f cd A outer s H E0).loud.wish λ_ _=>False) [] (fE N vs) H s1:=by
 have e1:Env0 P w K mg base { A with handled:=none } outer s H:=#[a.frames,a.mod,a.bs,a.bsz,a.funs,a.frf,a.hok,a.bare]
 have I:=mM (CX:=CX0) (E:=E0) (qual:=qual) (f:=f) (cd:=cd) S rfl e1 hl r x
 exact #[#[I.ok.mod,I.ok.kind,I.ok.glob,I.ok.blt,I.ok.above,I.ok.inj,I.ok.has,I.ok.cab,(λh=>by cases h),I.ok.frames,I.ok.stk,I.ok.exf,I.ok.bs,I.ok.bsz,I.ok.noex,I.ok.exfs,I.ok.funs,I.ok.frf],I.os,I.bare,I.base,I.loc,I.cell,I.free,I.freeC,I.pin,I.hok,I.len]
set_option tactic.hygienic true in
theorem Fun.okN {K:FG} {st:Stmt} {k:Nat} (F:Fun K x qual st f fd) (S:FnScope N ps (ah st)) (len:∀ vs H Q E,sp vs H Q E->vs.length=ps.length) (c:∀ (a:Value) (A:Around) (outer:List Env) (s:Shared) (H:Hp) (vs:List V) (Q:VK),RoomN k (A.deeper (envOfC qual (ah st) s.heap.objs.size f a))->Hd ((dD CX0 P w K mg base N qual (ah st) f a A outer s H E0).loud.wish λ_ _=>False)->sp vs H Q E0 ->
   ∃ t,PSs ((dD CX0 P w K mg base N qual (ah st) f a A outer s H E0).loud.wish λ_ _=>False) (aG st) t/\t { nx:=λ_ H'=>Q .non H',rt:=Q } (fE N vs) H):FnOkN P w K mg base (k+1) f fd ps sp:=by
 obtain ⟨O,od,kV,doc,pm,an,a,ct,B,rfl,G,m⟩:=F.ex
 refine #[len,λA outer s H args us vs Q p j i C r h=>?_]
 have hl:=len _ _ _ _ h
 have z:K.In s.heap:=i.mod.kin.keeps λb o e=>(i.bs b o e).1
 have lim:s.heap.NoLimit:=i.mod.nolimit.keeps λb o e=>(i.bs b o e).1
 have d:∀ y∈ps.zip us,(ah st).names.lookup y.1=some .local\/((ah st).names.lookup y.1=some .cell/\((cellsFrom (s.heap.objs.size+1) (ah st).names []).lookup y.1).isSome=true):=λ#[n,v] M=>by
  rcases S.par n (List.of_mem_zip M).1 with q | q
  .exact .inl q
  .exact .inr #[q,PySem.W.cellsFrom_some _ _ _ (.inl q)]
 refine codeAny_call_function (by have:=p.dp;omega) (z _ _ G) rfl S.co S.gen rfl (PySem.W.codeRec_of z m) (C _ _ _ _ ?_)
 refine wpAny_newFunctionEnv_cells S.kind d λenv he s1 x=>?_
 subst he
 refine #[lim.keeps x.toInCall.keep,codeAny_func ?_]
 obtain ⟨t,L,D⟩:=c a A outer s H vs Q (p.deeper _) j h
 have I:=rK (qual:=qual) (f:=f) (cd:=a) S i hl r x
 refine wpAny_mono (L [] s1 (fE N vs) H _ I D) (λfl s' g=>?_) λe s' g=>False.elim g
 have fin:∀ {U':St} {H':Hp} {v:V} {u:Value},Inv ((dD CX0 P w K mg base N qual (ah st) f a A outer s H E0).loud.wish λ_ _=>False) [] U' H' s'->RelV v u->Q v H'->CE outer P w H s Q u s' :=
  λ{U' H' v u} J l q=>#[v,H',J.os,J.bare,J.base,J.hok,l,q]
 cases fl with
 | ret u =>
  obtain ⟨v,U',H',J,l,q⟩:=g
  exact fin J l q
 | next =>
  obtain ⟨U',H',J,q⟩:=g
  exact fin (v:=V.non) (u:=Value.none) J rfl q
 | brk =>
  obtain ⟨_,_,_,q⟩:=g
  exact False.elim q
 | cont =>
  obtain ⟨_,_,_,q⟩:=g
  exact False.elim q
structure CalleeN (P:Program) (w:World) (K:FG) (mg:Str->Option Value) (base:Heap) (x:Str) (k:Nat) (ps:List Str) (sp:Sp):Prop where
 ex:∃ (f:Addr) (fd:FuncData),FnOkN P w K mg base k f fd ps sp/\mg x=some (.ref f)/\PySem.W.keepIn K (.ref f)=true/\Binds K fd ps []
theorem Def.calleeN {K:FG} {st:Stmt} {k:Nat} (D:Def K mg x st) (b:∀ (kV doc pm:Value) (an:Option Addr) (a ct:Value) (us:List Value),us.length=ps.length->bindArgs (PySem.W.fnOf x x (aK st) (aG st) (ah st) .none kV doc pm an a ct) #[us,[]]=pure (ps.zip us)) (h:∀ f fd,Fun K x x st f fd->FnOkN P w K mg base k f fd ps sp):CalleeN P w K mg base x k ps sp:=by
 obtain ⟨f,fd,d⟩:=D
 exact #[f,fd,h f fd d.fn,d.mg,d.fn.kp,d.fn.binds b]
section
variable {X:Cx} {x:Str} {p pos:Pos} {e:Expr} {es:List Expr} {t:TA} {k:Nat} {ps:List Str} {sp:Sp}
set_option tactic.hygienic true in
theorem DP (c:CalleeN X.prog X.w X.K X.mg X.base x k ps sp) (o:RoomN k X.A) (v:Hd X) (ha:PA X (e::es) t) (n:Gl X x) (g:(x == ("__debug__":Str))=false)
  (he:starEach (e::es) X.env=(false,eval e X.env)::starEach es X.env) (i:(backTo pos (starEach es X.env)).any (·.1)=false):PE X (.Call (.Name x p) (e::es) [] pos) (tFn sp t):=by
 obtain ⟨f,fd,F,hm,z,l⟩:=c.ex
 intro pins s U H Q I h
 refine wpAny_Call_Name_kw (io I n hm ?_ g)
 refine PySem.W.callWith_K (h₀:=X.base) I.ok.mod.kin z (thn (ha pos pins s U H _ I h) λus s1 #[vs,H1,d,r,q]=>#[d.kIn,?_]) he i
 have hl:us.length=ps.length:=by rw[<- r.length];exact F.len _ _ _ _ q
 have j:=l s1 us d.kIn (by rw[List.append_nil];exact hl)
 rw[List.append_nil] at j
 refine wpAny_call (codeAny_mono (F.run X.A X.stack s1 H1 #[us,[]] us vs Q o (let #[a,ob,u,d1,y,m]:=v;#[a,ob,u,d1,d.base.frzs a ob u y,m]) d.env0 j r q) λr s' b=>?_)
 cases r with
 | error e=>exact False.elim b
 | ok fl =>
  cases fl with
  | ret u=>exact d.after b
  | next=>exact False.elim b
  | brk=>exact False.elim b
  | cont=>exact False.elim b
end
end L2
end
section
namespace L2
open PySem PySem.W PySem.Spec PySem.Calls PyProof.Rows Builtin.Getset_descriptor
structure ExcAt (h:Heap) (x D:Addr):Prop where
 ex:∃ ox,h.get? x=some ox/\ox.cls=.ref D
section
variable {prog:Program} {w:World} {A:Around} {E:Value->Shared->Prop} {s:Shared} {K:FG} {x D:Addr}
theorem ExcAt.ty (p:ExcAt h x D):Looks M h (typeOf (.ref x)) (.ref D):=by
 obtain ⟨ox,e1,a⟩:=p.ex
 exact a ▸ (Looks.ld e1).andThen .now
theorem yC (k:ExcK K D) (X:K.In h):Looks M h (Builtin.ObjectAttr.find (.ref x) (.ref D) "__class__") (.bind (.builtin "getset_descriptor.__get__") (.builtin "object.__class__")):=by
 have b:=looks_findIn (M:=M) X k.ca
 have a:Looks M h (Builtin.ObjectAttr.getOf (some (.builtin "object.__class__"))) (some (.builtin "getset_descriptor.__get__")):=looks_specialIn X k.sp
 have c:Looks M h (Builtin.ObjectAttr.dataDescriptor? (some (.builtin "object.__class__")) (some (.builtin "getset_descriptor.__get__"))) (some (.builtin "getset_descriptor.__get__",.builtin "object.__class__")):=(looks_takesIn X k.tk).andThen .now
 exact b.andThen (a.andThen (c.andThen (Looks.tag .now)))
theorem Bh (k:ExcK K D) (X:K.In s.heap) (p:ExcAt s.heap x D) (h:R (.ok (.ret (.ref D))) s):codeAny (model prog w) A (.call (.builtin "getset_descriptor.__get__") #[[.builtin "object.__class__",.ref x,tp],[]]) R s:=by
 obtain ⟨h0,a,c,t0,o0⟩:=s
 have b:=p.ty (M:=model prog w)
 have d:=looks_mroIn (M:=model prog w) X k.ob
 refine codeAny_call_builtin KF.slot_gs.plain KF.entry_gs (KF.slot_gs.check _ _ _ _ _ _ _ _ KF.type_class (KF.args_gs _ _ _) ?_)
 unfold Builtin.«getset_descriptor.__get__» descrGet
 rw[dga_obj]
 refine Fb (Fc ?_)
 unfold descrGetter descrCheckInstance descrNameAndClass isInstance
 simp only[KF.owner_class]
 repeat lk
 refine #[Code.quiet_builtin _ (by decide +kernel),codeAny_builtin KF.entry_class ?_]
 unfold Builtin.«object.__class__» shownTypeOf
 repeat lk
 exact h
theorem vd (k:ExcK K D) (X:K.In s.heap) (p:ExcAt s.heap x D) (h:Q (.done (.ret (.ref D))) s) :
  wpAny (model prog w) A (Builtin.«object.__getattribute__» #[[.ref x,.str "__class__" tk],[]]) Q E s:=by
 obtain ⟨h0,a,c,t0,o0⟩:=s
 have b:=p.ty (M:=model prog w)
 have d:=yC (M:=model prog w) (x:=x) k X
 unfold Builtin.«object.__getattribute__» slotArgs
 repeat lk
 show wpAny _ _ (run (.call (.builtin "getset_descriptor.__get__") #[[.builtin "object.__class__",.ref x,.ref D],[]])) _ _ _
 refine wpAny_run (Bh k X p ?_)
 exact Fc (Fc h)
theorem mQ (k:ExcK K D) (X:K.In s.heap) (p:ExcAt s.heap x D) (h:Q () s):wpAny (model prog w) A (checkBuiltinCall "BaseException.__getattribute__" #[[.ref x,v],[]]) Q E s:=by
 obtain ⟨h0,a,c,t0,o0⟩:=s
 have b:=p.ty (M:=model prog w)
 have e:=looks_mroIn (M:=model prog w) X k.be
 have b1:builtinKind "BaseException.__getattribute__"=some .slot:=by decide +kernel
 have b2:splitId "BaseException.__getattribute__"=some ("BaseException","__getattribute__"):=by decide +kernel
 have d:=F.args_bexc_ga (.ref x) v
 simp only[checkBuiltinCall,b1,b2]
 refine Fb ?_
 unfold isInstance
 repeat lk
 exact h
theorem ve (k:ExcK K D) (X:K.In s.heap) (p:ExcAt s.heap x D) (h:Q (some (.ref D)) { s with toks:=s.toks+1 }):wpAny (model prog w) A (getAttr? (.ref x) "__class__") Q E s:=by
 obtain ⟨h0,e,f,t0,o0⟩:=s
 have a:=p.ty (M:=model prog w)
 have c:=looks_findIn (M:=model prog w) X k.ga
 have d:=looks_findIn (M:=model prog w) X k.gt
 have b:=F.excAttr_ValueError.ga.bind (.ref x)
 have ne:(onTheHeap (Value.ref D) && Value.builtin "BaseException.__getattribute__" == Value.builtin "object.__getattribute__")=false:=by
  rw[show (Value.builtin "BaseException.__getattribute__" == Value.builtin "object.__getattribute__")=false by decide +kernel];rfl
 unfold getAttr? getAttrBy? getAttrBy
 refine Fb (wpAny_mkText (Fb (wpAny_attempt (Fd (Fb (a.at (Fb (c.at ?_))))))))
 simp only[ne,FU,if_false]
 unfold getAttrByItsOwn hookBefore
 rw[show onTheHeap (Value.ref D)=true from rfl,if_pos rfl]
 refine Fb (d.at (Fb (wpAny_attempt (Fd ?_))))
 unfold callGetattribute boundAndCalled
 rw[if_neg (by decide)]
 refine Fb (wpAny_of_eq b ?_)
 refine wpAny_call (codeAny_call_builtin F.excAttr_ValueError.ga.plain F.entry_bexc_ga (mQ k X p (vd k X p ?_)))
 exact handed_on rfl (Fc h)
set_option tactic.hygienic true in
theorem ExcK.isT (k:ExcK K D) (X:K.In h):∃ o cd,h.get? D=some o/\o.data=.cls cd:=by
 obtain ⟨cd,a⟩:=Option.isSome_iff_exists.mp k.cl
 unfold clsIn at a
 split at a
 .rename_i b
  exact #[_,_,X _ _ b,rfl]
 .cases a
theorem ye (k:ExcK K D):KitX K (.ref x) (.ref D) (λh=>ExcAt h x D) where
 ty:=λ_ _ _ p=>p.ty
 it:=λ_ _ X _=>by
  obtain ⟨o,cd,e1,a⟩:=k.isT X
  intro j l q s1 k1 c
  unfold isType loadHead
  obtain ⟨m,od,g,f⟩:=o
  dsimp only at a
  subst a
  exact Fb (wpAny_loadPart (k1 _ _ e1) (Fc c))
 ne:=λh d dd its n sl X b=>by
  obtain ⟨o,cd,e1,a⟩:=k.isT X
  cases e:(Value.ref D == Value.ref d) with
  | false=>rfl
  | true =>
   have i:D=d:=Value.ref.inj (beq_iff_eq.mp e)
   rw[i,b] at e1
   cases e1
   cases a
 ca:=λX p c=>ve k X p c
end
end L2
end
section
namespace L2
open PySem PySem.W PySem.Spec PySem.Calls PyProof.Rows
section
variable {prog:Program} {w:World} {A:Around} {E:Value->Shared->Prop} {h:Heap} {g:Array GenState} {d:Drawn} {t:Nat} {os:OsState} {K:Frag}
variable {nm q:Str} {C N fI:Addr} {bs bm:List Value} {hdct:Bool} {sn:List Str} {sub:List Value} {ab:Bool} {col:Option Bool} {dd:Option Addr} {k0 k1 k2 k3 k5:Option Value}
theorem uk {rest:List Value} {Q:Fin->Shared->Prop} (X:K.In h) (T:OwnTail h iR bm) (f:h.get? C=some (excClassObj nm q C N bs bm hdct sn sub ab col dd k0 k1 k2 k3 k5 "ValueError.__new__"))
  (hi:findIn K (.ref C) "__init__"=some (some (.ref fI))) (hf:typeIn K (.ref fI)=some (.type "function")) (c:rest.length<=sizeLine)
  (m:∀ h' e,h.objs.size<=h'.objs.size->Heap.MadeExcOf h h' e (.ref C) rest->wpAny (model prog w) A (call (.ref fI) (.ref e::rest)) (λr s'=>r=.none/\Q (.done (.ret (.ref e))) s') E #[h',g,d,t,os]) :
  wpAny (model prog w) A (Builtin.«type.__call__» #[.ref C::rest,[]]) Q E #[h,g,d,t,os]:=by
 have FB:=PySem.F.excBase_ValueError
 repeat (first | with_reducible refine wpAny_loadPart_at f ?_ | with_reducible refine wpAny_madeBy_exc f ?_ | wp_step)
 refine codeAny_call_builtin_code (Code.quiet_builtin _ FB.quiet) (wpAny_check_new_subT FB T f (codeAny_exc_new_subT FB T f ?_ c))
 show wpAny _ _ _ _ _ _
 have k:∀ b o,h.get? b=some o->((h.push { cls:=.type "tuple",data:=.seq rest.toArray }).push { cls:=.ref C,data:=.fields (List.toArray [.ref h.objs.size,.none,.none,.none,.bool false,.none]) }).get? b=some o:=λb o e=>Fg _ (Fg _ e)
 have a:((h.push { cls:=.type "tuple",data:=.seq rest.toArray }).push { cls:=.ref C,data:=.fields (List.toArray [.ref h.objs.size,.none,.none,.none,.bool false,.none]) }).get? (h.objs.size+1)=some { cls:=.ref C,data:=.fields (List.toArray [.ref h.objs.size,.none,.none,.none,.bool false,.none]) }:=by heap_get
 have j:(Value.ref C::bm).contains (.ref C)=true:=by simp
 have i:=k _ _ f
 unfold isInstance
 repeat (first | with_reducible refine wpAny_loadPart_at a ?_ | (with_reducible refine wpAny_isSubtype_exc i ?_;rw[j]) | wp_step)
 show wpAny _ _ (typeLookup (.ref C) _) _ _ _
 refine looks_findIn X hi _ _ _ _ k ?_
 refine Fd (Fb (bind_fn X _ hf _ _ _ _ k (Fb (wpAny_mono (m _ (h.objs.size+1) (by rw[FY,FY];omega) #[k,Heap.get?_none_of_le (Nat.le_succ _),h.objs.size,a,Heap.get?_none_of_le (FA _),Fg _ (Heap.get?_push_at rfl rfl)]) (λr s' l=>?_) λ_ _ x=>x))))
 obtain ⟨rfl,n⟩:=l
 wp_walk
 exact n
theorem vC {rest:List Value} {Q:Value->Shared->Prop} (X:K.In h) (T:OwnTail h iR bm) (b:h.get? C=some (excClassObj nm q C N bs bm hdct sn sub ab col dd k0 k1 k2 k3 k5 "ValueError.__new__"))
  (hi:findIn K (.ref C) "__init__"=some (some (.ref fI))) (hf:typeIn K (.ref fI)=some (.type "function")) (a:rest.length<=sizeLine)
  (c:∀ h' e,h.objs.size<=h'.objs.size->Heap.MadeExcOf h h' e (.ref C) rest->wpAny (model prog w) (A.under (.builtin "type.__call__" #[.ref C::rest,[]])) (call (.ref fI) (.ref e::rest)) (λr s'=>r=.none/\Q (.ref e) s') E #[h',g,d,t,os]) :
  wpAny (model prog w) A (call (.ref C) rest) Q E #[h,g,d,t,os]:=by
 have f1:=tc_lookup
 have f2:=tc_bind (.ref C)
 have f:(#[h,g,d,t,os]:Shared).TypeIs (.ref C) "type":=#[_,b,rfl]
 refine wpAny_call (codeAny_of_tree ?_)
 show wpAny _ _ (callAny (.ref C) _) _ _ _
 repeat (any_goals (first | assumption | with_reducible refine wpAny_loadPart_at b ?_ | wp_step))
 exact #[rfl,codeAny_call_builtin_at (Code.quiet_builtin _ (by decide +kernel)) entry_typeCall (wpAny_check_type_call_sub b (uk X T b hi hf a c))]
end
theorem mB (self:Value):∀ {l:List Value},td l=true->refuseLoop self "__setattr__" l=pure ()/\l.contains (.type "object")=true/\l.isEmpty=false
 | .ref c::r,e=>by
  obtain ⟨h1,h2,h3⟩:=mB self (l:=r) e
  exact #[by rw[refuseLoop_ref];exact h1,by rw[List.contains_cons,h2,Bool.or_true],rfl]
 | [],e=>by cases e
 | .none::r,e=>by cases eq_of_beq (show (_ == iR)=true from e)
 | .bool _::r,e=>by cases eq_of_beq (show (_ == iR)=true from e)
 | .int ..::r,e=>by cases eq_of_beq (show (_ == iR)=true from e)
 | .float ..::r,e=>by cases eq_of_beq (show (_ == iR)=true from e)
 | .str ..::r,e=>by cases eq_of_beq (show (_ == iR)=true from e)
 | .bytes ..::r,e=>by cases eq_of_beq (show (_ == iR)=true from e)
 | .builtin _::r,e=>by cases eq_of_beq (show (_ == iR)=true from e)
 | .type _::r,e=>by
  rw[eq_of_beq (show (_ == iR)=true from e)]
  exact #[PySem.F.store_ValueError.passes self,PySem.F.store_ValueError.hasOwner,rfl]
structure IniK (K:Frag) (C:Addr) (n:Str):Prop where
 sa:findIn K (.ref C) "__setattr__"=some (some (.builtin "object.__setattr__"))
 ov:(clsIn K C).any (λcd=>td cd.mro && cd.hasDict)=true
 no:findIn K (.ref C) n=some none
section
variable {prog:Program} {w:World} {A:Around} {E:Value->Shared->Prop} {s:Shared} {K:Frag} {C x:Addr} {n:Str} {ox:Obj} {vs:Array Value} {v:Value}
theorem zM {Q:Unit->Shared->Prop} (X:K.In s.heap) (k:IniK K C n) (p:s.heap.get? x=some ox) (J:ox.cls=.ref C) (hd:ox.dict=none) (M:ox.data=.fields vs)
  (q:∀ h' od tk,(∀ b o,b≠x->s.heap.get? b=some o->h'.get? b=some o)->h'.get? x=some { ox with dict:=some s.heap.objs.size }->h'.get? s.heap.objs.size=some od->lookIn n od=some (some v)->Q () { s with heap:=h',toks:=tk }) :
  wpAny (model prog w) A (setAttr (.ref x) n v) Q E s:=by
 obtain ⟨τ,V,P,a⟩:=ox
 dsimp only at J hd M
 subst J hd M
 have I:PySem.W.InstAt s.heap x #[.ref C,none,.fields vs,a] C none:=#[p,rfl,rfl,trivial]
 have i:=PySem.F.store_object
 obtain ⟨cd,f,d⟩:=any_some k.ov
 obtain ⟨d,D⟩:=Bool.and_eq_true_iff.mp d
 obtain ⟨t,B,y⟩:=mB (.ref x) d
 have c:Looks (model prog w) s.heap (typeOf (.ref x)) (.ref C):=I.type
 refine set_plain X I k.sa ?_
 have sub:Looks (model prog w) s.heap (isInstance (.ref x) (.type "object")) true:=c.andThen (looks_mroIn X (by unfold mroIn;rw[f,Option.bind_some,if_neg (by rw[y];decide),B]))
 refine codeAny_call_builtin i.slot.plain i.entry (@check_slot (model prog w) _ _ { s with toks:=s.toks+1 } "object.__setattr__" "object" "__setattr__" (.ref x) [.str n s.toks,v] [] _ i.kind i.split sub (i.args (.ref x) (.str n s.toks) v) ?_)
 rw[osa_eq,refuse_eq]
 refine Fb (Fb (c _ _ _ _ (λ_ _ e=>e) (Fb (((looks_clsIn X f).andThen .now:Looks (model prog w) s.heap (mroOf (.ref C)) cd.mro) _ _ _ _ (λ_ _ e=>e) ?_))))
 rw[t]
 refine Fc (Fb (c _ _ _ _ (λ_ _ e=>e) (Fb (looks_findIn X k.no _ _ _ _ (λ_ _ e=>e) (Fb (Fc ?_))))))
 dsimp only
 have l:(s.heap.push { cls:=.type "dict",data:=.dict (List.toArray []) }).get? x=some #[.ref C,none,.fields vs,a]:=Fg _ p
 have j:x≠s.heap.objs.size:=FD (Fp p)
 refine Fb (Fc (Fb (Fb (wpAny_loadPart p (Fb (looks_clsIn X f _ _ _ _ (λ_ _ e=>e) ?_))))))
 rw[D]
 refine Fb (wpAny_alloc ?_)
 refine Fb (wpAny_update l ?_)
 refine Fc ?_
 have u:((s.heap.push { cls:=.type "dict",data:=.dict (List.toArray []) }).update x λo=>{ o with dict:=some s.heap.objs.size }).get? s.heap.objs.size=some { cls:=.type "dict",data:=.dict (List.toArray []) }:=(Heap.get?_update_ne _ _ _ _ j.symm).trans (Heap.get?_push_at rfl rfl)
 have z:((s.heap.push { cls:=.type "dict",data:=.dict (List.toArray []) }).update x λo=>{ o with dict:=some s.heap.objs.size }).get? x=some #[.ref C,some s.heap.objs.size,.fields vs,a]:=FL _ l rfl
 have H:((s.heap.push { cls:=.type "dict",data:=.dict (List.toArray []) }).update x λo=>{ o with dict:=some s.heap.objs.size }).Ns s.heap.objs.size (λ_=>none):=#[_,(List.toArray []),_,u,rfl,λe he=>absurd he (by simp),λ_=>rfl]
 refine Fb (Fc (Fb (wpAny_nsSet1 (Heap.Ns1.of_empty H) λh' m L=>?_)))
 obtain ⟨oD,σ,R,g,r,G⟩:=m.count (Within.cons n v Within.nil)
 refine Fb (wpAny_lookBehind g (by rw[r];exact pastItsLine_dict (F1 G (by rw[FO,List.length_nil,sizeLine_eq];omega))) ?_)
 refine Fc ?_
 refine q h' oD _ (λb o N e=>?_) ((L.2 x j).trans z) g ?_
 .exact (L.2 b (FD (Fp e))).trans ((Heap.get?_update_ne _ _ _ _ N).trans (Fg _ e))
 .obtain ⟨o',es,ep,e1,S,e3,eu,h⟩:=m
  rw[g] at e1
  cases e1
  have h:=h n
  unfold nsFind findBy at h
  dsimp only at h
  rw[if_pos rfl,<- Array.find?_toList] at h
  obtain ⟨ρ,T,O⟩:=Fh.mp h
  unfold lookIn
  rw[S]
  dsimp only
  rw[T]
  dsimp only
  rw[O]
theorem u6 {R:Value->Shared->Prop} {fI:Addr} {st:Stmt} {N p2 M F:Pos} {L:Value} {od an:Option Addr} {l:Array (Option Value)} {qual:Str} {kV doc pm c ct:Value} (X:K.In s.heap) (lim:s.heap.NoLimit) (k:IniK K C n)
  (G:K.lookup fI=some #[L,od,.func (fnOf "__init__" qual (aK st) (aG st) (ah st) .none kV doc pm an c ct),l]) (u:codeIn K c qual=true) (S:FnScope [("self":Str),n] [("self":Str),n] (ah st)) (i:(ah st).names.lookup ("self":Str)=some .local/\(ah st).names.lookup n=some .local) (I:n≠("self":Str)) (p:(n == ("__debug__":Str))=false)
  (m:bindArgs (fnOf "__init__" qual (aK st) (aG st) (ah st) .none kV doc pm an c ct) #[[.ref x,v],[]]=pure [(("self":Str),.ref x),(n,v)]) (g:aG st=[.Assign [.Attribute (.Name "self" N) n p2] (.Name n M) F]) (f:A.depth < recursionLimit)
  (B:s.heap.get? x=some ox) (H:ox.cls=.ref C) (hd:ox.dict=none) (O:ox.data=.fields vs)
  (q:∀ h' d od tk,s.heap.objs.size<=d->(∀ b o,b≠x->s.heap.get? b=some o->h'.get? b=some o)->h'.get? x=some { ox with dict:=some d }->h'.get? d=some od->lookIn n od=some (some v)->R .none { s with heap:=h',toks:=tk }) :
  wpAny (model prog w) A (call (.ref fI) [.ref x,v]) R E s:=by
 have ne:s.heap.objs.size≠x:=Nat.ne_of_gt (Fp B)
 refine wpAny_call (Att.call_fn X lim G u f (.of_eq m) (by simp[i.1,i.2]) (λs1 y=>?_) S.co S.gen S.kind)
 rw[g]
 obtain ⟨⟨D,tk,rfl⟩,h,a,r⟩:=y.toInCall
 have J:K.In D:=X.keeps a
 have j:∀ z,(ah st).names.lookup z=some .local->(envOfC qual (ah st) s.heap.objs.size fI c).kindOf z=some .local:=λz hz=>hz
 refine wpAny_execs_cons ?_
 refine plainObj_wpAny_Assign_Attribute (wpAny_Name (wpAny_loadName_local (v:=v) S.kind (j n i.2) h ?_ (wpAny_Name (wpAny_loadName_local (v:=.ref x) S.kind (j ("self":Str) i.1) h ?_ ?_))) p) ?_
 .simp[bindL,j n i.2]
 .simp[bindL,j _ i.1,j n i.2,Ne.symm I]
 .refine zM J k (a _ _ B) H hd O λh' od tk t h1 h2 h3=>?_
  exact wpAny_execs_nil (q h' D.objs.size od tk (Nat.le_of_lt (Nat.lt_of_le_of_lt r h.lt)) (λb o m e=>t b o m (a b o e)) h1 h2 h3)
 .rfl
end
set_option tactic.hygienic true in
theorem rR {K:Frag} {h:Heap} {C:Addr} (X:K.In h) (q:oK K C=true) :
  ∃ bm N nm j bs hdct sn sub ab col dd k0 k1 k2 k3 k5,h.get? C=some (excClassObj nm j C N bs bm hdct sn sub ab col dd k0 k1 k2 k3 k5 "ValueError.__new__")/\OwnTail h iR bm:=by
 unfold oK at q
 split at q
 .rename_i dd cd sl c
  split at q
  .rename_i e bm k0 k1 k2 k3 n k5 hm d
   simp only[Bool.and_eq_true,beq_iff_eq,Bool.not_eq_true'] at q
   obtain ⟨hok,b,a,rfl,rfl⟩:=q
   obtain ⟨nm,bs,mro,ns,j,hd,sn,sub,ab,col,del⟩:=cd
   dsimp only at hm a hok b
   subst hm a
   obtain ⟨l⟩:=sl
   have hl:l=[k0,k1,k2,k3,some (.builtin "ValueError.__new__"),k5]:=d
   subst hl
   exact #[bm,ns,nm,j,bs,hd,sn,sub,ab,col,dd,k0,k1,k2,k3,k5,X _ _ c,tail_of_in X b]
  .cases q
 .cases q
abbrev EO (C t:Addr) (da:Option Addr):Obj:={ cls:=.ref C,dict:=da,data:=.fields (List.toArray [.ref t,.none,.none,.none,.bool false,.none]) }
section
variable {M:Model} {A:Around} {E:Value->Shared->Prop} {env:Env}
variable {nm q:Str} {C N:Addr} {bs bm:List Value} {hdct:Bool} {sn:List Str} {sub:List Value} {ab:Bool} {col:Option Bool} {dd:Option Addr} {k0 k1 k2 k3 k5:Option Value} {nid:String}
theorem q5 {s:Shared} {x:Sem Value} {Q:Flow->Shared->Prop} (a:bm.contains (.type "BaseException")=true) (i:A.handled=none)
  (h:wpAny M A x (λv s1=>∃ e t da,v=.ref e/\s1.heap.get? C=some (excClassObj nm q C N bs bm hdct sn sub ab col dd k0 k1 k2 k3 k5 nid)/\s1.heap.get? e=some (EO C t da)/\E (.ref e) s1) E s):wpAny M A (raiseStmt env (some x) none) Q E s:=by
 have b:(Value.ref C::bm).contains (.type "BaseException")=true:=by rw[List.contains_cons,a,Bool.or_true]
 unfold raiseStmt
 refine Fb (wpAny_mono h (λv s1 h1=>?_) λ_ _ x=>x)
 obtain ⟨e,t,da,rfl,c,he,f⟩:=h1
 obtain ⟨j,g,d,tk,os⟩:=s1
 repeat (first | with_reducible refine wpAny_loadPart_at he ?_ | with_reducible refine wpAny_loadPart_at c ?_ | (with_reducible refine wpAny_isSubtype_exc c ?_;rw[b]) | wp_step)
 exact wpAny_raiseNew_none i f
end
structure ICls (K:Frag) (mg:Str->Option Value) (x:Str) (C:Addr) (n:Str):Prop where
 bound:mg x=some (.ref C)
 ok:oK K C=true
 ik:IniK K C n
 fn:∃ (fI:Addr) (st:Stmt) (p1 p2 p3 p4:Pos) (od an:Option Addr) (osl:Array (Option Value)) (qual:Str) (kV doc pm cdv ct:Value),findIn K (.ref C) "__init__"=some (some (.ref fI))/\K.lookup fI=some #[.type "function",od,.func (fnOf "__init__" qual (aK st) (aG st) (ah st) .none kV doc pm an cdv ct),osl]/\codeIn K cdv qual=true /\
  FnScope [("self":Str),n] [("self":Str),n] (ah st)/\(ah st).names.lookup ("self":Str)=some .local/\(ah st).names.lookup n=some .local/\aG st=[.Assign [.Attribute (.Name "self" p1) n p2] (.Name n p3) p4] /\
  ∀ x v,bindArgs (fnOf "__init__" qual (aK st) (aG st) (ah st) .none kV doc pm an cdv ct) #[[x,v],[]]=pure [(("self":Str),x),(n,v)]
 nn:n≠("self":Str)/\(n == ("__debug__":Str))=false
section
variable {X:Cx} {x n:Str} {C:Addr} {np cpos pos:Pos} {e:Expr} {ta:TA} {k:Nat}
def sF (n:Str) (a:St->Hp->Addr->Prop) (ta:TA):TS:=λ_ U H=>ta U H λvs H1=>∃ v,vs=[v]/\∀ d od u,H1 d=none->RelV v u->lookIn n od=some (some u)->a U (upd H1 d (dW od d od.cls)) d
theorem uG (c:ICls X.K X.mg x C n) (hc:X.calm=true) (hr:Room k X.A) (hg:Gl X x) (hd:(x == ("__debug__":Str))=false) (ha:PA X [e] ta) (O:St->Hp->Addr->Prop)
  (Q:∀ (pins:List (Addr×Obj)) (U:St) (H:Hp) (s:Shared) (a t d:Addr),Inv X pins U H s->O U H d->s.heap.get? a=some (EO C t (some d))->X.s₀.heap.get? a=none->H a=none->X.xe (.ref a) s)
  (he:starEach [e] X.env=[(false,eval e X.env)]) (hex:X.ex=[]):PS X (.Raise (some (.Call (.Name x np) [e] [] cpos)) none pos) (sF n O ta):=by
 intro pins s U H D I h
 obtain ⟨fI,st,p1,p2,p3,p4,od,an,ae,qual,kV,doc,pm,ax,ct,hi,hl,l,S,l1,σ,j,p⟩:=c.fn
 have FB:=PySem.F.excBase_ValueError
 obtain ⟨bm,N,nm,R,bs,hdct,sn,sub,ab,col,dd,k0,k1,k2,k3,k5,V,T⟩:=rR I.mod.kin c.ok
 rw[arm_exec_Raise]
 refine Fb (wpAny_standAt (q5 (C:=C) (nm:=nm) (q:=R) (N:=N) (bs:=bs) (bm:=bm) (hdct:=hdct) (sn:=sn) (sub:=sub) (ab:=ab) (col:=col) (dd:=dd) (k0:=k0) (k1:=k1) (k2:=k2) (k3:=k3) (k5:=k5) (nid:="ValueError.__new__") (T.hasType FB.hasBase) (I.ok.hd hc) (Fb (wpAny_mono (wpAny_Call_ofName (io I hg c.bound ?_ hd)) (λv s3 h3=>Fb (wpAny_standAt (Fc h3))) λ_ _ x=>x))))
 have h1:=ha cpos pins s U H _ I h
 rw[he] at h1 ⊢
 unfold callWith
 refine Fb (Fd (Calls.evalArgs_plain (wpAny_mono h1 (λus s1 #[vs,H1,i,r1,v,hv,w]=>Fb (wpAny_standAt ?_)) λ_ _ y=>y)))
 subst hv
 obtain ⟨u,rfl,P⟩:=cH r1
 have m:(backTo cpos [(false,eval e X.env)]).any (·.1)=false:=rfl
 simp only[m]
 have f:=i.bk _ _ V
 have W:OwnTail s1.heap iR bm:=T.keeps i.bk
 have L:X.K.In s1.heap:=i.kIn
 obtain ⟨G,g,dr,tk,os⟩:=s1
 refine Fb (wpAny_keeperOf_exc f ?_)
 refine Fb (vC L W f hi (by show (X.K.lookup fI).map (·.cls)=_;rw[hl];rfl) (by rw[sizeLine_eq];simp) λh' a hsz hm=>?_)
 obtain ⟨t,M,τ,ar⟩:=hm.there
 have K2:X.K.In h':=L.keeps hm.keeps
 have lim:h'.NoLimit:=(i.mod.nolimit.keeps i.bk).keeps hm.keeps
 refine u6 K2 lim c.ik hl l S #[l1,σ] c.nn.1 c.nn.2 (p _ _) j (by have:=hr.dp;show X.A.depth+1 < recursionLimit;omega) M rfl rfl rfl λh2 d od r hd2 k2 E B ρ=>#[rfl,?_]
 refine Fb (Fd (wpAny_point (Fc #[a,t,some d,rfl,?_,E,?_])))
 .exact k2 C _ (λz=>by have:=hm.new;rw[<- z,f] at this;cases this) (hm.keeps _ _ f)
 .have kk:∀ b o,G.get? b=some o->h2.get? b=some o:=λb o e=>k2 b o (λz=>by have:=hm.new;rw[<- z,e] at this;cases this) (hm.keeps b o e)
  have hle:G.objs.size<=d:=F1 hsz hd2
  have J:=i.laid (h':=h2) (a:=d) (o:=dW od d od.cls) (t':=r) kk hle #[B,#[od,B,rfl],#[od,B],λh1 h2 #[o,w,q2] k=>#[o,k o w,q2]]
  obtain ⟨n0,nH⟩:=i.newAt hex hm.new
  exact Q pins U _ _ a t d J (w d od u (i.hok.fresh hle) P ρ) E n0 (by rw[av (FD (FJ (Fp M) hd2))];exact nH)
end
end L2
end
section
namespace L2
open PySem PySem.W PySem.Spec PySem.Calls PyProof.Rows Builtin.Getset_descriptor
section
variable {prog:Program} {w:World} {A:Around} {E:Value->Shared->Prop} {s:Shared} {K:FG} {x D:Addr} {n:Str} {ox od:Obj} {v:Value}
theorem so {tk:Tok} {Q:Fin->Shared->Prop} (X:K.In s.heap) (I:PySem.W.InstAt s.heap x ox D (some od)) (hf:findObj K D (some od) n=some (.value v)) (h:Q (.done (.ret v)) s) :
  wpAny (model prog w) A (Builtin.«object.__getattribute__» #[[.ref x,.str n tk],[]]) Q E s:=by
 obtain ⟨h0,a,c,t0,o0⟩:=s
 have b:=I.type (M:=model prog w)
 have d:=looks_find (M:=model prog w) X I hf
 unfold Builtin.«object.__getattribute__» slotArgs
 repeat lk
 exact h
theorem y8 {Q:Value->Shared->Prop} {b:Bool} (k:ExcK K D) (X:K.In s.heap) (I:PySem.W.InstAt s.heap x ox D (some od)) (hf:findObj K D (some od) n=some (.value v)) (e:handedIn v=true) (h:Q v { s with toks:=s.toks+1 }):wpAny (model prog w) A (getAttr (.ref x) n b) Q E s:=by
 have p:ExcAt s.heap x D:=#[ox,I.at_,I.cls]
 obtain ⟨h0,i,g,t0,o0⟩:=s
 have a:=p.ty (M:=model prog w)
 have f:=looks_findIn (M:=model prog w) X k.ga
 have d:=looks_findIn (M:=model prog w) X k.gt
 have c:=F.excAttr_ValueError.ga.bind (.ref x)
 have ne:(onTheHeap (Value.ref D) && Value.builtin "BaseException.__getattribute__" == Value.builtin "object.__getattribute__")=false:=by
  rw[show (Value.builtin "BaseException.__getattribute__" == Value.builtin "object.__getattribute__")=false by decide +kernel];rfl
 unfold getAttr getAttrBy
 refine Fb (wpAny_mkText (Fd (Fb (a.at (Fb (f.at ?_))))))
 simp only[ne,FU,if_false]
 unfold getAttrByItsOwn hookBefore
 rw[show onTheHeap (Value.ref D)=true from rfl,if_pos rfl]
 refine Fb (d.at (Fb (wpAny_attempt (Fd ?_))))
 unfold callGetattribute boundAndCalled
 rw[if_neg (by cases b <;> decide)]
 refine Fb (wpAny_of_eq c ?_)
 refine wpAny_call (codeAny_call_builtin F.excAttr_ValueError.ga.plain F.entry_bexc_ga (mQ k X p (so X I hf ?_)))
 show wpAny _ _ (handedOut v) _ _ _
 rw[handedOut_of e]
 exact Fc h
end
end L2
end
section
namespace L2
open PySem PySem.Spec PyProof.Rows
section
variable {X:Cx}
theorem mS:∀ {bs:List Bool} {its:List Value},Vals (bs.map V.bl) its->its.countP (eqU (.bl k))=bs.count k
 | [],its,r=>by cases r;rfl
 | b::bs,its,r=>by
  cases r with
  | cons h t =>
   rw[List.countP_cons,List.count_cons,mS t,oM h rfl]
   rfl
theorem uR:MtR X "list.count" (λx vs H Q=>∃ (a:Addr) (bs:List Bool) (k:Bool),x=.ref a/\vs=[.bl k]/\SqL X.K H a (bs.map V.bl)/\Q (.int (bs.count k:Nat)) H):=by
 intro pins s U H x vs v us Q I j l h
 obtain ⟨a,bs,k,rfl,rfl,hl,q⟩:=h
 cases j
 obtain ⟨u,rfl,m⟩:=cH l
 obtain ⟨its,r,⟨o,n,e,g,hd,i⟩,hz⟩:=I.list hl
 have f:s.heap.get? a=some { cls:=.type "list",dict:=none,data:=.seq its.toArray n,slots:=o.slots }:=by
  rw[e]
  obtain ⟨c,d,dt,sl⟩:=o
  dsimp only at g hd i
  subst g hd i
  rfl
 refine call_meets F.slot_list_count #[_,f,rfl] F.entry_list_count (F.args_list_count_2 _ _) (SeqAt.list_countAt a its.toArray n none o.slots u (eqU (.bl k))) #[f,λz b=>k8 m rfl r (by simp[fJ]) z (by simpa using b),?_]
 rw[show its.toArray.toList=its from rfl,mS r]
 exact #[.int _,H,I.tok _,#[_,rfl],q]
end
end L2
end
section
namespace L3
open PySem L2
theorem nsE {α:Type} {p:α} {P:Prop} (e:(none:Option α)=some p):P:=nomatch e
inductive D where
 | non | bl (b:Bool) | int (i:Int) | str (x:Str)
 | tup (xs:List D) | lst (xs:List D) | fls (xs:List D) | dk (kvs:List (Key×D)) | dt (kvs:List (List Key×D))
 | exc (c:String) (fs:List (String×D))
 | desk (p:D) (hs:List D)
def ju:D->Bool
 | .lst _=>true
 | .dk _=>true
 | .dt _=>true
 | .desk _ _=>true
 | _=>false
def FzL (K:FG) (H:Hp) (a:Addr) (vs:List V):Prop:=(∃ o,H a=some (.frz o (.lst vs)))\/∃ (o:Obj) (its:Array Value) (n:Nat),K.lookup a=some o/\o.cls=.type "list"/\o.dict=none/\o.data=.seq its n/\its.size<=sizeLine/\Vals vs its.toList
theorem FzL.sq (h:FzL K H a vs):SqL K H a vs:=h.elim (λ#[o,e]=>.inl (.inr #[o,e])) .inr
inductive Reps (R:D->V->List Addr->Prop):List D->List V->List Addr->Prop where
 | nil:Reps R [] [] []
 | cons {d v L ds vs L'}:R d v L->Reps R ds vs L'->Reps R (d::ds) (v::vs) (L++L')
inductive Rep (K:FG) (H:Hp):D->V->List Addr->Prop where
 | non:Rep K H .non .non []
 | bl (b:Bool):Rep K H (.bl b) (.bl b) []
 | int (i:Int):Rep K H (.int i) (.int i) []
 | str (x:Str):Rep K H (.str x) (.str x) []
 | tup {xs a vs L}:H a=some (.tup vs)->Reps (Rep K H) xs vs L->Rep K H (.tup xs) (.ref a) L
 | lst {xs a vs L}:H a=some (.lst vs)->Reps (Rep K H) xs vs L->Rep K H (.lst xs) (.ref a) (a::L)
 | lstF {xs a vs L}:FzL K H a vs->Reps (Rep K H) xs vs L->Rep K H (.fls xs) (.ref a) L
 | dK {kvs a ps L}:H a=some (.dK ps)->kvs.map (·.1)=ps.map (·.1)->Reps (Rep K H) (kvs.map (·.2)) (ps.map (·.2)) L->Rep K H (.dk kvs) (.ref a) (a::L)
 | dT {kvs a ps n L}:H a=some (.dT ps n)->kvs.map (·.1)=ps.map (·.1)->Reps (Rep K H) (kvs.map (·.2)) (ps.map (·.2)) L->Rep K H (.dt kvs) (.ref a) (a::L)
 | exc {c a D ob}:XName K c D->H a=some (dW ob a (.ref D))->Rep K H (.exc c []) (.ref a) []
 | excV {c a D ob n x v d od u}:XName K c D->H a=some (dW ob a (.ref D))->ob.dict=some d->H d=some (dW od d od.cls)->PySem.W.lookIn (Str.ofString n) od=some (some u)->RelV v u->PySem.W.notCls ob=true->Rep K H x v []->Rep K H (.exc c [(n,x)]) (.ref a) []
 | desk {p hs a C dx e vp vs}:H a=some (.dsk C dx e vp vs)->PySem.W.nsIn K mainGlobals (Str.ofString "Desk")=some (some (.ref C))->Rep K H p vp []->Reps (Rep K H) hs vs []->Rep K H (.desk p hs) (.ref a) [a]
def PayX (K:FG) (H:Hp) (da:Option Addr):List (String×D)->Prop
 | []=>True
 | [(n,x)]=>∃ v d od u,da=some d/\H d=some (dW od d od.cls)/\PySem.W.lookIn (Str.ofString n) od=some (some u)/\RelV v u/\Rep K H x v []
 | _=>False
def RepV (K:FG) (H:Hp) (d:D) (v:V) (L:List Addr):Prop:=match d with
 | .non=>v=.non/\L=[]
 | .bl b=>v=.bl b/\L=[]
 | .int i=>v=.int i/\L=[]
 | .str x=>v=.str x/\L=[]
 | .tup xs=>∃ a vs,v=.ref a/\H a=some (.tup vs)/\Reps (Rep K H) xs vs L
 | .lst xs=>∃ a vs L',v=.ref a/\L=a::L'/\H a=some (.lst vs)/\Reps (Rep K H) xs vs L'
 | .fls xs=>∃ a vs,v=.ref a/\FzL K H a vs/\Reps (Rep K H) xs vs L
 | .dk kvs=>∃ a ps L',v=.ref a/\L=a::L'/\H a=some (.dK ps)/\kvs.map (·.1)=ps.map (·.1)/\Reps (Rep K H) (kvs.map (·.2)) (ps.map (·.2)) L'
 | .dt kvs=>∃ a ps L',v=.ref a/\L=a::L'/\HdT H a ps/\kvs.map (·.1)=ps.map (·.1)/\Reps (Rep K H) (kvs.map (·.2)) (ps.map (·.2)) L'
 | .exc c fs=>L=[]/\∃ a D ob,v=.ref a/\XName K c D/\H a=some (dW ob a (.ref D))/\PayX K H ob.dict fs/\(fs≠[]->PySem.W.notCls ob=true)
 | .desk p hs=>∃ a C dx e f vs,v=.ref a/\L=[a]/\H a=some (.dsk C dx e f vs)/\PySem.W.nsIn K mainGlobals (Str.ofString "Desk")=some (some (.ref C))/\Rep K H p f []/\Reps (Rep K H) hs vs []
theorem Rep.view (r:Rep K H d v L):RepV K H d v L:=by
 cases r with
 | non=>exact #[rfl,rfl]
 | bl b=>exact #[rfl,rfl]
 | int i=>exact #[rfl,rfl]
 | str x=>exact #[rfl,rfl]
 | tup h r=>exact #[_,_,rfl,h,r]
 | lst h r=>exact #[_,_,_,rfl,rfl,h,r]
 | lstF h r=>exact #[_,_,rfl,h,r]
 | dK h k r=>exact #[_,_,_,rfl,rfl,h,k,r]
 | dT h k r=>exact #[_,_,_,rfl,rfl,#[_,h],k,r]
 | exc n h=>exact #[rfl,_,_,_,rfl,n,h,trivial,λz=>absurd rfl z]
 | excV n h1 h2 h3 h4 h5 h7 h6=>exact #[rfl,_,_,_,rfl,n,h1,#[_,_,_,_,h2,h3,h4,h5,h6],λ_=>h7]
 | desk h1 h2 h3 h4=>exact #[_,_,_,_,_,_,rfl,rfl,h1,h2,h3,h4]
def MutAt (H:Hp) (b:Addr):Prop:=(∃ xs,H b=some (.lst xs))\/(∃ ps,H b=some (.dK ps))\/(∃ ps n,H b=some (.dT ps n))\/∃ C dx e a vs,H b=some (.dsk C dx e a vs)
theorem MutAt.ex (m:MutAt H b):∃ o,H b=some o:=by
 rcases m with ⟨_,h⟩ | ⟨_,h⟩ | ⟨_,_,h⟩ | ⟨_,_,_,_,_,h⟩ <;> exact #[_,h]
theorem MutAt.notup (m:MutAt H b) (h:H b=some (.tup vs)):False:=by
 rcases m with ⟨_,e⟩ | ⟨_,e⟩ | ⟨_,_,e⟩ | ⟨_,_,_,_,_,e⟩ <;> rw[e] at h <;> cases h
theorem MutAt.nofrz (m:MutAt H b) (h:H b=some (.frz o u)):False:=by
 rcases m with ⟨_,e⟩ | ⟨_,e⟩ | ⟨_,_,e⟩ | ⟨_,_,_,_,_,e⟩ <;> rw[e] at h <;> cases h
theorem FzL.keep {M:Addr->Prop} (h:FzL K H a vs) (k:∀ b o,H b=some o->¬ M b->H' b=some o) (hm:∀ b,M b->MutAt H b):FzL K H' a vs:=h.elim (λ#[o,e]=>.inl #[o,k a _ e λz=>(hm a z).nofrz e]) .inr
section
variable {K:FG} {H H':Hp} {d:D} {v:V} {L:List Addr}
set_option tactic.hygienic true in
theorem Rep.inH (r:Rep K H d v L):∀ b∈L,MutAt H b:=by
 refine Rep.rec (motive_1:=λ_ _ L _=>∀ b∈L,MutAt H b) (motive_2:=λ_ _ L _=>∀ b∈L,MutAt H b) ?_ ?_ ?_ ?_ ?_ ?_ ?_ ?_ ?_ ?_ ?_ ?_ ?_ ?_ r
 .intro b a;cases a
 .intro _ b a;cases a
 .intro _ b a;cases a
 .intro _ b a;cases a
 .intro _ _ _ _ _ _ c;exact c
 .intro _ _ _ _ h _ c b a
  rcases Fm.mp a with e | a
  .rw[e];exact .inl #[_,h]
  .exact c b a
 .intro _ _ _ _ _ _ c;exact c
 .intro _ _ _ _ h _ _ c b a
  rcases Fm.mp a with e | a
  .rw[e];exact .inr (.inl #[_,h])
  .exact c b a
 .intro _ _ _ _ _ h _ _ c b a
  rcases Fm.mp a with e | a
  .rw[e];exact .inr (.inr (.inl #[_,_,h]))
  .exact c b a
 .intro _ _ _ _ _ _ b a;cases a
 .intros;rename_i a;cases a
 .intro _ _ _ _ _ _ _ _ h _ _ _ _ _ b a
  cases FT.mp a
  exact .inr (.inr (.inr #[_,_,_,_,_,h]))
 .intro b a;cases a
 .intro _ _ _ _ _ _ _ _ f g b a
  rcases Fq.mp a with h | h
  .exact f b h
  .exact g b h
theorem Reps.inH (r:Reps (Rep K H) ds vs L):∀ b∈L,MutAt H b:=by
 induction r with
 | nil=>intro b a;cases a
 | cons r _ ih =>
  intro b a
  rcases Fq.mp a with h | h
  .exact r.inH b h
  .exact ih b h
theorem Rep.keep {M:Addr->Prop} (k:∀ b o,H b=some o->¬ M b->H' b=some o) (hm:∀ b,M b->MutAt H b) (r:Rep K H d v L):(∀ b∈L,¬ M b)->Rep K H' d v L:=by
 refine Rep.rec (motive_1:=λd v L _=>(∀ b∈L,¬ M b)->Rep K H' d v L) (motive_2:=λds vs L _=>(∀ b∈L,¬ M b)->Reps (Rep K H') ds vs L) ?_ ?_ ?_ ?_ ?_ ?_ ?_ ?_ ?_ ?_ ?_ ?_ ?_ ?_ r
 .intro _;exact .non
 .intro b _;exact .bl b
 .intro b _;exact .int b
 .intro b _;exact .str b
 .intro xs a vs L h _ g f
  exact .tup (k a _ h λz=>(hm a z).notup h) (g f)
 .intro xs a vs L h _ g f
  exact .lst (k a _ h (f a Fe)) (g λb i=>f b (Ff _ i))
 .intro xs a vs L h _ g f
  exact .lstF (h.keep k hm) (g f)
 .intro kvs a ps L h e _ g f
  exact .dK (k a _ h (f a Fe)) e (g λb i=>f b (Ff _ i))
 .intro kvs a ps n L h e _ g f
  exact .dT (k a _ h (f a Fe)) e (g λb i=>f b (Ff _ i))
 .intro c a D ob n h _
  exact .exc n (k a _ h λz=>(hm a z).nofrz h)
 .intro c a D ob n x v d od u e1 q t m s y A _ g _
  exact .excV e1 (k a _ q λz=>(hm a z).nofrz q) t (k d _ m λz=>(hm d z).nofrz m) s y A (g λ_ h=>nomatch h)
 .intro p E a C dx e B vs h w _ _ l j f
  exact .desk (k a _ h (f a Fe)) w (l λ_ h=>nomatch h) (j λ_ h=>nomatch h)
 .intro _;exact .nil
 .intro d v L ds vs L' _ _ l j f
  exact .cons (l λb i=>f b (Fi _ i)) (j λb i=>f b (Fj _ i))
theorem Rep.excP {c:String} {fs:List (String×D)} {a C:Addr} {ob:Obj} (n:XName K c C) (h:H a=some (dW ob a (.ref C))) (p:PayX K H ob.dict fs) (b:PySem.W.notCls ob=true):Rep K H (.exc c fs) (.ref a) [] :=
 match fs,p with
 | [],_=>.exc n h
 | [(_,_)],#[_,_,_,_,e1,e2,e3,e4,e5]=>.excV n h e1 e2 e3 e4 b e5
theorem Rep.same (r:Rep K H d v L) (s:Same H H'):Rep K H' d v L:=r.keep (M:=λ_=>False) (λb o h _=>s b o h) (λ_ z=>z.elim) λ_ _ z=>z
theorem Reps.keep {M:Addr->Prop} (k:∀ b o,H b=some o->¬ M b->H' b=some o) (hm:∀ b,M b->MutAt H b) (r:Reps (Rep K H) ds vs L):(∀ b∈L,¬ M b)->Reps (Rep K H') ds vs L:=by
 induction r with
 | nil=>intro _;exact .nil
 | cons r _ ih=>intro c;exact .cons (r.keep k hm λb a=>c b (Fi _ a)) (ih λb a=>c b (Fj _ a))
theorem PayX.same {da:Option Addr} {fs:List (String×D)} (p:PayX K H da fs) (s:Same H H'):PayX K H' da fs :=
 match fs,p with
 | [],_=>trivial
 | [(_,_)],#[_,_,_,_,e1,e2,e3,e4,e5]=>#[_,_,_,_,e1,s _ _ e2,e3,e4,e5.same s]
theorem Reps.same (r:Reps (Rep K H) ds vs L) (s:Same H H'):Reps (Rep K H') ds vs L:=r.keep (M:=λ_=>False) (λb o h _=>s b o h) (λ_ z=>z.elim) λ_ _ z=>z
end
inductive Fl where
 | u | l | z
 deriving DecidableEq
structure It3 where
 d:D
 v:V
 L:List Addr
 f:Fl
abbrev Sto:=List (Option (D×Fl))
structure Gm where
 H0:Hp
 bw:Addr->Prop
 pr:Nat->Bool
 U0:St
 orig:Hp
 src:Addr->Prop
 lv:Nat->Option V
def OwnOk (G:Gm) (x:It3):Prop:=ju x.d=true/\∃ a L',x.v=.ref a/\x.L=a::L'/\a ∉ L'/\(x.f=.u->G.H0 a=none\/G.bw a)
structure ItOk (K:FG) (G:Gm) (H:Hp) (x:It3):Prop where
 rep:Rep K H x.d x.v x.L
 own:x.f≠.z->OwnOk G x
 src:∀ c∈x.L,G.H0 c=none\/G.src c
structure Fx (G:Gm) (H:Hp) (T:List It3) (g:Nat->Option It3):Prop where
 frT:∀ x∈T,x.f≠.z->∀ a,x.v=.ref a->G.orig a=none
 frS:∀ i x,g i=some x->G.pr i=false->x.f≠.z->∀ a,x.v=.ref a->G.orig a=none
 bin:∀ b,G.bw b->∃ o,H b=some o
 ob:∀ b o,G.orig b=some o->∃ o',H b=some o'
 lvS:∀ i x,g i=some x->x.f=.l->G.lv i=some x.v
def NoRoot (x y:It3):Prop:=x.f≠.z->∀ a,x.v=.ref a->a ∉ y.L
def Apart3 (x y:It3):Prop:=NoRoot x y/\NoRoot y x
structure Wf (K:FG) (G:Gm) (H:Hp) (U:St) (Z:Sto) (T:List It3) (g:Nat->Option It3):Prop where
 len:U.length=Z.length
 sl:∀ i,(g i).map (λx=>(x.d,x.f))=(Z[i]?).join
 sv:∀ i x,g i=some x->U[i]?=some (some x.v)
 okS:∀ i x,g i=some x->ItOk K G H x
 okT:∀ x∈T,ItOk K G H x
 ss:∀ i j x y,i≠j->g i=some x->g j=some y->NoRoot x y
 st:∀ i x,g i=some x->∀ y∈T,Apart3 x y
 tt:T.Pairwise Apart3
 base:∀ b o,G.H0 b=some o->¬ G.bw b->H b=some o
 pro:∀ i,G.pr i=true->U[i]?=G.U0[i]?
 fx:Fx G H T g
structure Le (K:FG) (G:Gm) (W:D->Sto->Prop) (G0:Gm) (W0:D->Sto->Prop):Prop where
 pr:G.pr=G0.pr
 ex:∀ (H:Hp) (U:St) (Z:Sto) (T:List It3) (g:Nat->Option It3) (e:D),Wf K G H U Z T g->W e Z->∃ Z0 T0 g0,Wf K G0 H U Z0 T0 g0/\W0 e Z0
theorem Le.refl (K:FG) (G:Gm) (W:D->Sto->Prop):Le K G W G W:=#[rfl,λ_ _ Z T g _ w h=>#[Z,T,g,w,h]]
theorem Le.trans (a:Le K G W G1 W1) (b:Le K G1 W1 G2 W2):Le K G W G2 W2:=⟨a.pr.trans b.pr,λH U Z T g e w h=>by
 obtain ⟨Z1,d,g1,c,h1⟩:=a.ex H U Z T g e w h
 exact b.ex H U Z1 d g1 e c h1⟩
section
variable {K:FG} {G:Gm} {H H':Hp} {U:St} {Z:Sto} {T T':List It3} {g:Nat->Option It3} {x y z:It3}
theorem ItOk.keep {M:Addr->Prop} (h:ItOk K G H x) (k:∀ b o,H b=some o->¬ M b->H' b=some o) (hm:∀ b,M b->MutAt H b) (a:∀ b∈x.L,¬ M b):ItOk K G H' x:=#[h.rep.keep k hm a,h.own,h.src]
theorem ItOk.same (h:ItOk K G H x) (s:Same H H'):ItOk K G H' x:=#[h.rep.same s,h.own,h.src]
theorem Fx.more (f:Fx G H T g) (s:∀ b o,H b=some o->∃ o',H' b=some o'):Fx G H' T g:=#[f.frT,f.frS,λb h=>let #[o,e]:=f.bin b h;s b o e,λb o h=>let #[o',e]:=f.ob b o h;s b o' e,f.lvS]
theorem Fx.sub (f:Fx G H T g) (h:∀ x∈T',x∈T):Fx G H T' g:=#[λx a=>f.frT x (h x a),f.frS,f.bin,f.ob,f.lvS]
theorem Wf.grow (w:Wf K G H U Z T g) (s:Same H H'):Wf K G H' U Z T g :=
 #[w.len,w.sl,w.sv,λi x e=>(w.okS i x e).same s,λx a=>(w.okT x a).same s,w.ss,w.st,w.tt,λb o e n=>s b o (w.base b o e n),w.pro,w.fx.more λb o h=>#[o,s b o h]]
theorem Wf.sub (w:Wf K G H U Z T g) (h:T'.Sublist T):Wf K G H U Z T' g :=
 #[w.len,w.sl,w.sv,w.okS,λx a=>w.okT x (h.subset a),w.ss,λi x e y b=>w.st i x e y (h.subset b),w.tt.sublist h,w.base,w.pro,w.fx.sub λx a=>h.subset a]
def Itm (T:List It3) (g:Nat->Option It3) (y:It3):Prop:=(∃ i,g i=some y)\/y∈T
def dN (T:List It3) (g:Nat->Option It3) (c:Addr):Prop:=(∀ i z,g i=some z->z.f≠.z->z.v≠.ref c)/\∀ z∈T,z.f≠.z->z.v≠.ref c
theorem Wf.itm (w:Wf K G H U Z T g) (h:Itm T g y):ItOk K G H y:=by
 rcases h with ⟨i,e⟩ | h
 .exact w.okS i y e
 .exact w.okT y h
theorem nU {α:Type} {R:α->α->Prop} {l:List α} (p:l.Pairwise R) (g:∀ a b,R a b->R b a):∀ a∈l,∀ b∈l,a≠b->R a b:=by
 induction p with
 | nil=>intro a ha;cases ha
 | @cons c l hc _ ih =>
  intro a ha b d n
  rcases Fm.mp ha with f | ha
  .rcases Fm.mp d with e | d
   .exact absurd (f.trans e.symm) n
   .rw[f];exact hc b d
  .rcases Fm.mp d with e | d
   .rw[e];exact g _ _ (hc a ha)
   .exact ih a ha b d n
theorem Apart3.symm (h:Apart3 x y):Apart3 y x:=#[h.2,h.1]
theorem Wf.kid (w:Wf K G H U Z T g) (h:Itm T g y) (d:c∈y.L) (l:y.f≠.z->y.v≠.ref c):dN T g c:=by
 refine #[λi z e hz a=>?_,λz hm hz a=>?_]
 .rcases h with ⟨j,b⟩ | k
  .by_cases m:i=j
   .subst m
    rw[e] at b
    cases b
    exact l hz a
   .exact w.ss i j z y m e b hz c a d
  .exact (w.st i z e y k).1 hz c a d
 .rcases h with ⟨j,b⟩ | k
  .exact (w.st j y b z hm).2 hz c a d
  .by_cases e:z=y
   .subst e;exact l hz a
   .exact (nU w.tt (λ_ _=>Apart3.symm) z hm y k e).1 hz c a d
structure New (K:FG) (H H':Hp) (Ks:Addr->Prop) (x:It3):Prop where
 same:Same H H'
 rep:Rep K H' x.d x.v x.L
 sub:∀ c∈x.L,H c=none\/Ks c
 own:x.f≠.z->ju x.d=true/\∃ a L',x.v=.ref a/\x.L=a::L'/\a ∉ L'/\H a=none
theorem Wf.h0none (w:Wf K G H U Z T g) (h:H a=none):G.H0 a=none:=by
 cases e:G.H0 a with
 | none=>rfl
 | some o =>
  by_cases b:G.bw a
  .obtain ⟨o,e⟩:=w.fx.bin a b
   rw[h] at e;cases e
  .have:=w.base a o e b
   rw[h] at this;cases this
theorem Wf.ornone (w:Wf K G H U Z T g) (h:H a=none):G.orig a=none:=by
 cases e:G.orig a with
 | none=>rfl
 | some o =>
  obtain ⟨o,e⟩:=w.fx.ob a o e
  rw[h] at e;cases e
theorem Wf.push (w:Wf K G H U Z T g) (n:New K H H' Ks x) (q:∀ c,Ks c->dN T g c/\(G.H0 c=none\/G.src c)):Wf K G H' U Z (x::T) g:=by
 have d:=w.grow n.same
 have a1:∀ y:It3,ItOk K G H y->(∀ c,Ks c->y.f≠.z->y.v≠.ref c)->Apart3 y x:=λy m b=>by
  refine #[λhf a e hm=>?_,λhf a e hm=>?_]
  .obtain ⟨_,r,L',e1,l,_,_⟩:=m.own hf
   rw[e] at e1
   cases e1
   rcases n.sub a hm with h | h
   .obtain ⟨o,j⟩:=(m.rep.inH a (by rw[l];exact Fe)).ex
    rw[h] at j;cases j
   .exact b a h hf e
  .obtain ⟨_,r,L',e1,l,_,h⟩:=n.own hf
   rw[e] at e1
   cases e1
   obtain ⟨o,j⟩:=(m.rep.inH a hm).ex
   rw[h] at j;cases j
 refine #[d.len,d.sl,d.sv,d.okS,?_,d.ss,?_,?_,d.base,d.pro,#[λy b hf a s=>?_,d.fx.frS,d.fx.bin,d.fx.ob,d.fx.lvS]]
 .intro y b
  rcases Fm.mp b with rfl | b
  .refine #[n.rep,λhf=>?_,λc k=>?_]
   .obtain ⟨t,a,L',e1,l,u,p⟩:=n.own hf
    exact #[t,a,L',e1,l,u,λ_=>.inl (w.h0none p)]
   .rcases n.sub c k with h | h
    .exact .inl (w.h0none h)
    .exact (q c h).2
  .exact d.okT y b
 .intro i z e y b
  rcases Fm.mp b with rfl | b
  .exact a1 z (w.okS i z e) λc k=>(q c k).1.1 i z e
  .exact d.st i z e y b
 .refine List.pairwise_cons.mpr #[λy b=>(a1 y (w.okT y b) λc k=>(q c k).1.2 y b).symm,d.tt]
 .rcases Fm.mp b with h | b
  .subst h
   obtain ⟨t,r,L',e1,l,u,p⟩:=n.own hf
   rw[s] at e1
   cases e1
   exact w.ornone p
  .exact d.fx.frT y b hf a s
def dE (ys:List It3) (c:Addr):Prop:=∃ y∈ys,c∈y.L/\(y.f≠.z->y.v≠.ref c)
theorem Wf.kids (w:Wf K G H U Z T g) (a:∀ y∈ys,Itm T g y) (h:dE ys c):dN T g c/\(G.H0 c=none\/G.src c):=by
 obtain ⟨y,m,b,d⟩:=h
 exact #[w.kid (a y m) b d,(w.itm (a y m)).src c b]
structure Arg (K:FG) (H:Hp) (p:It3):Prop where
 rep:Rep K H p.d p.v p.L
 own:p.f≠.z->ju p.d=true/\∃ a L',p.v=.ref a/\p.L=a::L'/\a ∉ L'
theorem ItOk.arg (h:ItOk K G H x):Arg K H x:=⟨h.rep,λhf=>by
 obtain ⟨m,a,L',v1,v2,b,_⟩:=h.own hf
 exact ⟨m,a,L',v1,v2,b⟩⟩
end
inductive R3 where
 | pl (i:Nat) | val (d:D) (f:Fl)
abbrev M3 (α:Type):=Sto->Option (Except D α×Sto)
abbrev EM:=M3 R3
noncomputable def ai {α β:Type} (m:M3 α) (k:α->M3 β):M3 β:=λZ=>match m Z with
 | none=>none
 | some (.error e,Z')=>some (.error e,Z')
 | some (.ok a,Z')=>k a Z'
noncomputable def bb {α:Type} (a:α):M3 α:=λZ=>some (.ok a,Z)
noncomputable def bc {α:Type} (o:Option α):M3 α:=λZ=>o.map λa=>(.ok a,Z)
noncomputable def der (r:R3):M3 D:=λZ=>match r with
 | .pl i=>((Z[i]?).join).map λp=>(.ok p.1,Z)
 | .val d _=>some (.ok d,Z)
inductive Ar (U:St):R3->V->List It3->Prop where
 | pl {i:Nat} {v:V}:U[i]?=some (some v)->Ar U (.pl i) v []
 | val (x:It3):Ar U (.val x.d x.f) x.v [x]
def Got (K:FG) (G:Gm) (U:St) (Z:Sto) (T:List It3) (r:R3) (v:V) (H:Hp):Prop:=∃ Ts g,Wf K G H U Z (Ts++T) g/\Ar U r v Ts
def tE (K:FG) (G0:Gm) (W0:D->Sto->Prop) (m:EM):TE:=λU H Q=>∃ G W,Le K G W G0 W0/\∃ Z T g r Z',Wf K G H U Z T g/\m Z=some (r,Z')/\match r with
 | .ok r=>∀ v H',Got K G U Z' T r v H'->Q v H'
 | .error e=>W e Z'
def tT (K:FG) (G0:Gm) (W0:D->Sto->Prop) (m:M3 Bool):TT:=λU H Q=>∃ G W,Le K G W G0 W0/\∃ Z T g r Z',Wf K G H U Z T g/\m Z=some (r,Z')/\match r with
 | .ok b=>∀ H' g',Wf K G H' U Z' T g'->Q b H'
 | .error e=>W e Z'
inductive Ars (U:St):List R3->List V->List It3->Prop where
 | nil:Ars U [] [] []
 | cons {r v Ts rs vs Us}:Ar U r v Ts->Ars U rs vs Us->Ars U (r::rs) (v::vs) (Us++Ts)
def tA (K:FG) (G0:Gm) (W0:D->Sto->Prop) (m:M3 (List R3)):TA:=λU H Q=>∃ G W,Le K G W G0 W0/\∃ Z T g r Z',Wf K G H U Z T g/\m Z=some (r,Z')/\match r with
 | .ok rs=>∀ vs H' Ts g',Wf K G H' U Z' (Ts++T) g'->Ars U rs vs Ts->Q vs H'
 | .error e=>W e Z'
inductive Flw where
 | nx | br | ct | rt (d:D) (f:Fl)
abbrev SM:=M3 Flw
def tS (K:FG) (G0:Gm) (W0:D->Sto->Prop) (m:SM):TS:=λE U H=>∃ G W,Le K G W G0 W0/\∃ Z T g r Z',Wf K G H U Z T g/\m Z=some (r,Z')/\match r with
 | .ok .nx=>∀ U' H' g',Wf K G H' U' Z' T g'->E.nx U' H'
 | .ok .br=>∀ U' H' g',Wf K G H' U' Z' T g'->E.bk U' H'
 | .ok .ct=>∀ U' H' g',Wf K G H' U' Z' T g'->E.ct U' H'
 | .ok (.rt d f)=>∀ x U' H' g',Wf K G H' U' Z' (x::T) g'->x.d=d->x.f=f->E.rt x.v H'
 | .error e=>W e Z'
section
variable {K:FG} {G G0:Gm} {W W0:D->Sto->Prop} {H H':Hp} {U:St} {Z Z':Sto} {T T':List It3} {g:Nat->Option It3} {x y z:It3} {α β:Type}
theorem aP (e:ai (der r) k Z=some (o,Z')):∃ d,der r Z=some (.ok d,Z)/\k d Z=some (o,Z'):=by
 cases r with
 | pl i =>
  have a:der (.pl i) Z=((Z[i]?).join).map λp=>(.ok p.1,Z):=rfl
  unfold ai at e
  rw[a] at e ⊢
  cases h:(Z[i]?).join with
  | none=>rw[h] at e;exact nsE e
  | some p=>rw[h] at e;exact #[p.1,rfl,e]
 | val d f=>exact #[d,rfl,e]
theorem bN (e:bc o Z=some (r,Z')):∃ a,o=some a/\r=.ok a/\Z'=Z:=by
 unfold bc at e
 cases o with
 | none=>exact nsE e
 | some a=>cases e;exact #[a,rfl,rfl,rfl]
theorem Wf.slot (w:Wf K G H U Z T g) {i:Nat} (e:(Z[i]?).join=some (d,f)):∃ y,g i=some y/\y.d=d/\y.f=f/\U[i]?=some (some y.v):=by
 have h:=w.sl i
 rw[e] at h
 cases q:g i with
 | none=>rw[q] at h;exact nsE h
 | some y =>
  rw[q] at h
  cases h
  exact #[y,rfl,rfl,rfl,w.sv i y q]
theorem Ar.item (w:Wf K G H U Z T g) (a:Ar U r v Ts) (k:∀ x∈Ts,x∈T) (e:der r Z=some (.ok d,Z)):∃ y,Itm T g y/\y.d=d/\y.v=v:=by
 cases a with
 | @pl i v h =>
  have j:der (.pl i) Z=((Z[i]?).join).map λp=>(.ok p.1,Z):=rfl
  rw[j] at e
  cases q:(Z[i]?).join with
  | none=>rw[q] at e;exact nsE e
  | some p =>
   rw[q] at e
   obtain ⟨y,e1,l,m,b⟩:=w.slot (d:=p.1) (f:=p.2) q
   have c:p.1=d:=by cases e;rfl
   rw[h] at b
   refine #[y,.inl #[i,e1],l.trans c,?_]
   cases b;rfl
 | val x=>cases e;exact #[x,.inr (k x (by simp)),rfl,rfl]
theorem Wf.done (w:Wf K G H U Z (Us++T) g) (a:∀ y∈ys,Itm (Us++T) g y) (n:New K H H' (dE ys) x):Got K G U Z T (.val x.d x.f) x.v H' :=
 #[[x],g,(w.push n λc h=>w.kids a h).sub (by simpa using List.Sublist.cons_cons x (Fw Us T)),.val x]
theorem tE.seq (le:Le K G W G0 W0) (w:Wf K G H U Z T g) (e:ai ma k Z=some (r,Z')) (he:∀ x,r=.error x->W x Z') (h:∀ ra Z1,k ra Z1=some (r,Z')->∀ v H1,Got K G U Z1 T ra v H1->P v H1):tE K G0 W0 ma U H P:=by
 unfold ai at e
 cases q:ma Z with
 | none=>rw[q] at e;exact nsE e
 | some p =>
  obtain ⟨o,Z1⟩:=p
  rw[q] at e
  cases o with
  | error x=>cases e;exact #[G,W,le,Z,T,g,.error x,Z',w,q,he x rfl]
  | ok ra=>exact #[G,W,le,Z,T,g,.ok ra,Z1,w,q,h ra Z1 e]
theorem tT.seq (le:Le K G W G0 W0) (w:Wf K G H U Z T g) (e:ai ma k Z=some (r,Z')) (he:∀ x,r=.error x->W x Z') (h:∀ b Z1,k b Z1=some (r,Z')->∀ H1 g1,Wf K G H1 U Z1 T g1->P b H1):tT K G0 W0 ma U H P:=by
 unfold ai at e
 cases q:ma Z with
 | none=>rw[q] at e;exact nsE e
 | some p =>
  obtain ⟨o,Z1⟩:=p
  rw[q] at e
  cases o with
  | error x=>cases e;exact #[G,W,le,Z,T,g,.error x,Z',w,q,he x rfl]
  | ok ra=>exact #[G,W,le,Z,T,g,.ok ra,Z1,w,q,h ra Z1 e]
theorem tA.seq (le:Le K G W G0 W0) (w:Wf K G H U Z T g) (e:ai ma k Z=some (r,Z')) (he:∀ x,r=.error x->W x Z') (h:∀ rs Z1,k rs Z1=some (r,Z')->∀ vs H1 Ts g1,Wf K G H1 U Z1 (Ts++T) g1->Ars U rs vs Ts->P vs H1):tA K G0 W0 ma U H P:=by
 unfold ai at e
 cases q:ma Z with
 | none=>rw[q] at e;exact nsE e
 | some p =>
  obtain ⟨o,Z1⟩:=p
  rw[q] at e
  cases o with
  | error x=>cases e;exact #[G,W,le,Z,T,g,.error x,Z',w,q,he x rfl]
  | ok ra=>exact #[G,W,le,Z,T,g,.ok ra,Z1,w,q,h ra Z1 e]
def EndE (K:FG) (G:Gm) (W:D->Sto->Prop) (U:St) (T:List It3) (Z':Sto) (Q:VK):Except D R3->Prop
 | .ok r=>∀ v H',Got K G U Z' T r v H'->Q v H'
 | .error e=>W e Z'
theorem EndE.err (h:EndE K G W U T Z' Q r):∀ x,r=.error x->W x Z':=by
 intro x e;subst e;exact h
theorem tE.open (h:tE K G0 W0 m U H Q):∃ G W,Le K G W G0 W0/\∃ Z T g r Z',Wf K G H U Z T g/\m Z=some (r,Z')/\EndE K G W U T Z' Q r:=by
 obtain ⟨G,W,le,Z,T,g,r,Z',w,e,q⟩:=h
 refine #[G,W,le,Z,T,g,r,Z',w,e,?_]
 cases r with
 | ok r=>exact q
 | error x=>exact q
theorem tE.use (h:tE K G0 W0 m U H Q) {P:Prop} (k:∀ G W,Le K G W G0 W0->∀ Z T g r Z',Wf K G H U Z T g->m Z=some (r,Z')->EndE K G W U T Z' Q r->P):P:=by
 obtain ⟨G,W,le,Z,T,g,r,Z',w,e,q⟩:=h.open
 exact k G W le Z T g r Z' w e q
theorem tE.mk (le:Le K G W G0 W0) (w:Wf K G H U Z T g) (e:m Z=some (r,Z')) (h:EndE K G W U T Z' Q r):tE K G0 W0 m U H Q:=by
 refine #[G,W,le,Z,T,g,r,Z',w,e,?_]
 cases r with
 | ok r=>exact h
 | error x=>exact h
def ac (i:Nat):EM:=λZ=>((Z[i]?).join).map λ_=>(.ok (.pl i),Z)
theorem CG {i:Nat} (h:tE K G0 W0 (ac i) U H Q):iC i U H Q:=by
 refine h.use λG W le Z T g r Z' w e q=>?_
 unfold ac at e
 cases h:(Z[i]?).join with
 | none=>rw[h] at e;exact nsE e
 | some p =>
  rw[h] at e
  cases e
  obtain ⟨y,_,_,_,a⟩:=w.slot (d:=p.1) (f:=p.2) h
  exact #[y.v,a,q y.v H #[[],g,w,.pl a]]
def mC (d:D):EM:=bb (.val d .z)
theorem Wf.const (w:Wf K G H U Z T g) (r:Rep K H d v []):Got K G U Z T (.val d .z) v H :=
 Wf.done (Us:=[]) (ys:=[]) (x:=#[d,v,[],.z]) w (λ_ h=>(by cases h)) #[Same.refl _,r,λ_ h=>(by cases h),λh=>absurd rfl h]
theorem eJ (r:∀ H,Rep K H d v []) (h:tE K G0 W0 (mC d) U H Q):tC v U H Q:=by
 refine h.use λG W le Z T g o Z' w e q=>?_
 cases e
 exact q v H (w.const (r H))
def af (f:D->D->Option (D×Fl)) (ma mb:EM):EM:=ai ma λra=>ai mb λrb=>ai (der ra) λda=>ai (der rb) λdb=>bc ((f da db).map λp=>R3.val p.1 p.2)
def OpD (K:FG) (r:R2) (f:D->D->Option (D×Fl)):Prop:=∀ (a b:It3) (H:Hp) (Q:VK) (p:D×Fl),Arg K H a->Arg K H b->f a.d b.d=some p ->
 (∀ w H',New K H H' (dE [a,b]) w->w.d=p.1->w.f=p.2->Q w.v H')->r a.v b.v H Q
theorem mR (w:Wf K G H U Z (Us++T) g) (a:∀ y∈ys,Itm (Us++T) g y) (q:EndE K G W U T Z Q (.ok (.val d f))) :
  ∀ j H',New K H H' (dE ys) j->j.d=d->j.f=f->Q j.v H':=by
 intro j H' n e1 b
 subst e1 b
 exact q j.v H' (w.done a n)
theorem nk (u:OpD K r f) (h:tE K G0 W0 (af f ma mb) U H Q):tOp r (tE K G0 W0 ma) (tE K G0 W0 mb) U H Q:=by
 refine h.use λG W le Z T g o Z' w e q=>?_
 refine tE.seq le w e q.err λra Z1 e1 E H1 #[Ts,g1,v,a1]=>?_
 refine tE.seq le v e1 q.err λrb Z2 A D H2 #[Us,g2,a,a2]=>?_
 obtain ⟨da,d1,C⟩:=aP A
 obtain ⟨db,B,z⟩:=aP C
 obtain ⟨p,b,rfl,rfl⟩:=bN z
 obtain ⟨n,l,f1,f2⟩:=a1.item a (λx c=>Fj _ (Fi _ c)) d1
 obtain ⟨m,i,t,f4⟩:=a2.item a (λx c=>Fi _ c) B
 subst f1 f2 t f4
 cases k:f n.d m.d with
 | none=>rw[k] at b;exact nsE b
 | some s =>
  rw[k] at b
  cases b
  rw[<- List.append_assoc] at a l i
  refine u n m H2 Q s (a.itm l).arg (a.itm i).arg k (mR a (λy j=>?_) q)
  rcases Fm.mp j with h | j
  .rw[h];exact l
  .rw[FT.mp j];exact i
def mUn (f:D->Option (D×Fl)) (ma:EM):EM:=ai ma λra=>ai (der ra) λda=>bc ((f da).map λp=>R3.val p.1 p.2)
def UnD (K:FG) (r:V->Hp->VK->Prop) (f:D->Option (D×Fl)):Prop:=∀ (a:It3) (H:Hp) (Q:VK) (p:D×Fl),Arg K H a->f a.d=some p ->
 (∀ w H',New K H H' (dE [a]) w->w.d=p.1->w.f=p.2->Q w.v H')->r a.v H Q
theorem sG (l:UnD K r f) (h:tE K G0 W0 (mUn f ma) U H Q):tUn r (tE K G0 W0 ma) U H Q:=by
 refine h.use λG W le Z T g o Z' w e q=>?_
 refine tE.seq le w e q.err λra Z1 e1 t H1 #[Ts,g1,c,a1]=>?_
 obtain ⟨da,d1,n⟩:=aP e1
 obtain ⟨p,a,rfl,rfl⟩:=bN n
 obtain ⟨j,i,f1,f2⟩:=a1.item c (λx k=>Fi _ k) d1
 subst f1 f2
 cases b:f j.d with
 | none=>rw[b] at a;exact nsE a
 | some s =>
  rw[b] at a
  cases a
  exact l j H1 Q s (c.itm i).arg b (mR c (λy m=>by rw[FT.mp m];exact i) q)
def ak:M3 (List R3):=bb []
def aa (m:EM) (ms:M3 (List R3)):M3 (List R3):=ai m λr=>ai ms λrs=>bb (r::rs)
def EndA (K:FG) (G:Gm) (W:D->Sto->Prop) (U:St) (T:List It3) (Z':Sto) (Q:List V->Hp->Prop):Except D (List R3)->Prop
 | .ok rs=>∀ vs H' Ts g',Wf K G H' U Z' (Ts++T) g'->Ars U rs vs Ts->Q vs H'
 | .error e=>W e Z'
theorem EndA.err (h:EndA K G W U T Z' Q r):∀ x,r=.error x->W x Z':=by
 intro x e;subst e;exact h
theorem tA.open (h:tA K G0 W0 m U H Q):∃ G W,Le K G W G0 W0/\∃ Z T g r Z',Wf K G H U Z T g/\m Z=some (r,Z')/\EndA K G W U T Z' Q r:=by
 obtain ⟨G,W,le,Z,T,g,r,Z',w,e,q⟩:=h
 refine #[G,W,le,Z,T,g,r,Z',w,e,?_]
 cases r with
 | ok r=>exact q
 | error x=>exact q
theorem tA.use (h:tA K G0 W0 m U H Q) {P:Prop} (k:∀ G W,Le K G W G0 W0->∀ Z T g r Z',Wf K G H U Z T g->m Z=some (r,Z')->EndA K G W U T Z' Q r->P):P:=by
 obtain ⟨G,W,le,Z,T,g,r,Z',w,e,q⟩:=h.open
 exact k G W le Z T g r Z' w e q
theorem CM (h:tA K G0 W0 ak U H Q):tNil U H Q:=by
 refine h.use λG W le Z T g r Z' w e q=>?_
 cases e
 exact q [] H [] g w .nil
theorem zG (h:tA K G0 W0 (aa m ms) U H Q):BH (tE K G0 W0 m) (tA K G0 W0 ms) U H Q:=by
 refine h.use λG W le Z T g r Z' w e q=>?_
 refine tE.seq le w e q.err λra Z1 e1 d H1 #[Ts,g1,c,a1]=>?_
 refine tA.seq le c e1 q.err λrs Z2 b vs H2 Us g2 a a2=>?_
 cases b
 refine q (d::vs) H2 (Us++Ts) g2 ?_ (.cons a1 a2)
 rw[List.append_assoc]
 exact a
def dw:List R3->M3 (List D)
 | []=>bb []
 | r::rs=>ai (der r) λd=>ai (dw rs) λds=>bb (d::ds)
theorem tV:∀ {rs:List R3} {Z Z':Sto} {o:Except D (List D)},dw rs Z=some (o,Z')->∃ ds,o=.ok ds/\Z'=Z
 | [],Z,Z',o,e=>by cases e;exact #[[],rfl,rfl]
 | r::rs,Z,Z',o,e=>by
  obtain ⟨d,e1,j⟩:=aP (k:=λd=>ai (dw rs) λds=>bb (d::ds)) e
  unfold ai at j
  cases q:dw rs Z with
  | none=>rw[q] at j;exact nsE j
  | some p =>
   obtain ⟨o',Z1⟩:=p
   obtain ⟨ds,rfl,rfl⟩:=tV q
   rw[q] at j
   cases j
   exact #[d::ds,rfl,rfl]
theorem bU (e:ai (dw rs) k Z=some (o,Z')):∃ ds,dw rs Z=some (.ok ds,Z)/\k ds Z=some (o,Z'):=by
 unfold ai at e
 cases q:dw rs Z with
 | none=>rw[q] at e;exact nsE e
 | some p =>
  obtain ⟨o',Z1⟩:=p
  obtain ⟨ds,rfl,rfl⟩:=tV q
  rw[q] at e
  exact #[ds,rfl,e]
theorem Ars.items:∀ {rs:List R3} {vs:List V} {Ts:List It3} {ds:List D} ,Wf K G H U Z T g->Ars U rs vs Ts->(∀ x∈Ts,x∈T)->dw rs Z=some (.ok ds,Z)->∃ ys:List It3,(∀ y∈ys,Itm T g y)/\ys.map (·.d)=ds/\ys.map (·.v)=vs
 | [],_,_,ds,w,.nil,_,e=>by cases e;exact #[[],λ_ h=>(by cases h),rfl,rfl]
 | r::rs,_,_,ds,w,.cons a as,hs,e=>by
  obtain ⟨d,e1,j⟩:=aP (k:=λd=>ai (dw rs) λds=>bb (d::ds)) e
  obtain ⟨l,n,m⟩:=bU j
  cases m
  obtain ⟨y,i,f1,f2⟩:=a.item w (λx b=>hs x (Fj _ b)) e1
  obtain ⟨ys,f,c,f4⟩:=Ars.items w as (λx b=>hs x (Fi _ b)) n
  refine #[y::ys,λz hz=>?_,by simp[f1,c],by simp[f2,f4]]
  rcases Fm.mp hz with h | hz
  .rw[h];exact i
  .exact f z hz
def au (f:List D->Option (D×Fl)) (ms:M3 (List R3)):EM:=ai ms λrs=>ai (dw rs) λds=>bc ((f ds).map λp=>R3.val p.1 p.2)
def b8 (K:FG) (r:List V->Hp->VK->Prop) (f:List D->Option (D×Fl)):Prop:=∀ (ys:List It3) (H:Hp) (Q:VK) (p:D×Fl),(∀ y∈ys,Arg K H y)->f (ys.map (·.d))=some p ->
 (∀ w H',New K H H' (dE ys) w->w.d=p.1->w.f=p.2->Q w.v H')->r (ys.map (·.v)) H Q
theorem pq (k:b8 K r f) (h:tE K G0 W0 (au f ms) U H Q):tCB r (tA K G0 W0 ms) U H Q:=by
 refine h.use λG W le Z T g o Z' w e q=>?_
 refine tA.seq le w e q.err λrs Z1 e1 vs H1 Ts g1 c a1=>?_
 obtain ⟨ds,d1,m⟩:=bU e1
 obtain ⟨p,a,rfl,rfl⟩:=bN m
 obtain ⟨ys,i,f1,f2⟩:=a1.items c (λx j=>Fi _ j) d1
 subst f1 f2
 cases b:f (ys.map (·.d)) with
 | none=>rw[b] at a;exact nsE a
 | some s =>
  rw[b] at a
  cases a
  exact k ys H1 Q s (λy l=>(c.itm (i y l)).arg) b (mR c i q)
def asB:D->Option Bool
 | .bl b=>some b
 | _=>none
def gi (ma mb:EM):EM:=ai ma λra=>ai (der ra) λd=>ai (bc (asB d)) λb=>if b then mb else bb (.val (.bl false) .z)
def A2 (ma:EM):EM:=ai ma λra=>ai (der ra) λd=>ai (bc (asB d)) λb=>bb (.val (.bl (!b)) .z)
theorem jN (e:ai (bc o) k Z=some (r,Z')):∃ a,o=some a/\k a Z=some (r,Z'):=by
 unfold ai bc at e
 cases o with
 | none=>exact nsE e
 | some a=>exact #[a,rfl,e]
theorem za (e:asB d=some b):d=.bl b:=by
 cases d <;> first | exact nsE e | cases e
 rfl
theorem Rep.bl_eq (r:Rep K H (.bl b) v L):v=.bl b/\L=[]:=by cases r;exact #[rfl,rfl]
theorem Ar.bool (w:Wf K G H U Z (Ts++T) g) (a:Ar U ra v Ts) (e:der ra Z=some (.ok d,Z)) (h:asB d=some b):v=.bl b:=by
 obtain ⟨y,c,f1,f2⟩:=a.item w (λx f=>Fi _ f) e
 have r:=(w.itm c).rep
 rw[f1,za h] at r
 rw[<- f2]
 exact r.bl_eq.1
theorem CL (h:tE K G0 W0 (gi ma mb) U H Q):BK (tE K G0 W0 ma) (tE K G0 W0 mb) U H Q:=by
 refine h.use λG W le Z T g o Z' w e q=>?_
 refine tE.seq le w e q.err λra Z1 e1 k H1 #[Ts,g1,c,a1]=>?_
 obtain ⟨d,d1,j⟩:=aP e1
 obtain ⟨b,i,f⟩:=jN j
 refine #[b,a1.bool c d1 i,?_]
 have a:=c.sub (Fw Ts T)
 cases b with
 | true=>exact tE.mk le a f q
 | false=>cases f;exact q _ _ (a.const (.bl false))
theorem CI (h:tE K G0 W0 (A2 ma) U H Q):BD (tE K G0 W0 ma) U H Q:=by
 refine h.use λG W le Z T g o Z' w e q=>?_
 refine tE.seq le w e q.err λra Z1 e1 k H1 #[Ts,g1,a,a1]=>?_
 obtain ⟨d,d1,i⟩:=aP e1
 obtain ⟨b,c,j⟩:=jN i
 refine #[b,a1.bool a d1 c,?_]
 have f:=a.sub (Fw Ts T)
 cases j;exact q _ _ (f.const (.bl (!b)))
def EndT (K:FG) (G:Gm) (W:D->Sto->Prop) (U:St) (T:List It3) (Z':Sto) (Q:Bool->Hp->Prop):Except D Bool->Prop
 | .ok b=>∀ H' g',Wf K G H' U Z' T g'->Q b H'
 | .error e=>W e Z'
theorem EndT.err (h:EndT K G W U T Z' Q r):∀ x,r=.error x->W x Z':=by
 intro x e;subst e;exact h
theorem tT.open (h:tT K G0 W0 m U H Q):∃ G W,Le K G W G0 W0/\∃ Z T g r Z',Wf K G H U Z T g/\m Z=some (r,Z')/\EndT K G W U T Z' Q r:=by
 obtain ⟨G,W,le,Z,T,g,r,Z',w,e,q⟩:=h
 refine #[G,W,le,Z,T,g,r,Z',w,e,?_]
 cases r with
 | ok r=>exact q
 | error x=>exact q
theorem tT.use (h:tT K G0 W0 m U H Q) {P:Prop} (k:∀ G W,Le K G W G0 W0->∀ Z T g r Z',Wf K G H U Z T g->m Z=some (r,Z')->EndT K G W U T Z' Q r->P):P:=by
 obtain ⟨G,W,le,Z,T,g,r,Z',w,e,q⟩:=h.open
 exact k G W le Z T g r Z' w e q
theorem tT.mk (le:Le K G W G0 W0) (w:Wf K G H U Z T g) (e:m Z=some (r,Z')) (h:EndT K G W U T Z' Q r):tT K G0 W0 m U H Q:=by
 refine #[G,W,le,Z,T,g,r,Z',w,e,?_]
 cases r with
 | ok r=>exact h
 | error x=>exact h
def cB (m:EM):M3 Bool:=ai m λr=>ai (der r) λd=>bc (asB d)
theorem tT_b (h:tT K G0 W0 (cB m) U H Q):tB (tE K G0 W0 m) U H Q:=by
 refine h.use λG W le Z T g o Z' w e q=>?_
 refine tE.seq le w e q.err λra Z1 e1 i H1 #[Ts,g1,a,a1]=>?_
 obtain ⟨d,d1,f⟩:=aP e1
 obtain ⟨b,c,rfl,rfl⟩:=bN f
 exact #[b,a1.bool a d1 c,q _ _ (a.sub (Fw Ts T))]
def eR (a b:M3 Bool):M3 Bool:=ai a λc=>if c then b else bb false
def cOr (a b:M3 Bool):M3 Bool:=ai a λc=>if c then bb true else b
def gw (a:M3 Bool):M3 Bool:=ai a λc=>bb (!c)
theorem Cs (h:tT K G0 W0 (eR a b) U H Q):tAnd (tT K G0 W0 a) (tT K G0 W0 b) U H Q:=by
 refine h.use λG W le Z T g o Z' w e q=>?_
 refine tT.seq le w e q.err λc Z1 e1 H1 g1 d=>?_
 cases c with
 | true=>exact tT.mk le d e1 q
 | false=>cases e1;exact q _ _ d
theorem tT_or (h:tT K G0 W0 (cOr a b) U H Q):tOr (tT K G0 W0 a) (tT K G0 W0 b) U H Q:=by
 refine h.use λG W le Z T g o Z' w e q=>?_
 refine tT.seq le w e q.err λc Z1 e1 H1 g1 d=>?_
 cases c with
 | false=>exact tT.mk le d e1 q
 | true=>cases e1;exact q _ _ d
theorem Cr (h:tT K G0 W0 (gw a) U H Q):tNot (tT K G0 W0 a) U H Q:=by
 refine h.use λG W le Z T g o Z' w e q=>?_
 refine tT.seq le w e q.err λc Z1 e1 H1 g1 b=>?_
 cases e1;exact q _ _ b
def mIf (c:M3 Bool) (ma mb:EM):EM:=ai c λb=>if b then ma else mb
theorem tE_if (h:tE K G0 W0 (mIf c ma mb) U H Q):tIf (tT K G0 W0 c) (tE K G0 W0 ma) (tE K G0 W0 mb) U H Q:=by
 refine h.use λG W le Z T g o Z' w e q=>?_
 refine tT.seq le w e q.err λc Z1 e1 H1 g1 a=>?_
 cases c with
 | true=>exact tE.mk le a e1 q
 | false=>exact tE.mk le a e1 q
end
def cq (x:It3):It3:={ x with f:=.z }
theorem cP:NoRoot (cq x) y:=λh=>absurd rfl h
def lowAt (i:Nat) (Z:Sto):Sto:=match (Z[i]?).join with
 | some (d,.u)=>Z.set i #v[d]
 | some (d,.l)=>Z.set i #v[d]
 | _=>Z
noncomputable def frz (is:List Nat) (Z:Sto):Sto:=is.foldl (λZ i=>lowAt i Z) Z
def frz3 (is:List Nat):M3 Unit:=λZ=>some (.ok (),frz is Z)
def pls:List R3->List Nat
 | []=>[]
 | .pl i::rs=>i::pls rs
 | .val _ _::rs=>pls rs
section
variable {K:FG} {G G0:Gm} {W W0:D->Sto->Prop} {H H':Hp} {U:St} {Z Z':Sto} {T T':List It3} {g:Nat->Option It3} {x y z:It3} {α β:Type}
theorem ItOk.low (h:ItOk K G H x):ItOk K G H (cq x):=#[h.rep,λq=>absurd rfl q,h.src]
theorem cR {i j:Nat} (hi:i < Z.length):((Z.set i o)[j]?).join=if j=i then o else (Z[j]?).join:=by grind
theorem fq {i:Nat} (h:(Z[i]?).join=some p):i < Z.length:=by grind
theorem Wf.lowSlot (w:Wf K G H U Z T g) {i:Nat} (e:(Z[i]?).join=some (d,f)):Wf K G H U (Z.set i #v[d]) T (λj=>if j=i then (g i).map cq else g j):=by
 have hi:=fq e
 obtain ⟨y,u,t,A,ev⟩:=w.slot e
 have val:∀ j x,(if j=i then (g i).map cq else g j)=some x->∃ x0,g j=some x0/\(x=x0\/x=cq x0)/\(j=i->x=cq x0):=λj x h=>by
  grind
 have p:∀ {a b:It3},NoRoot a b->∀ o l,(o=a\/o=cq a)->(l=b\/l=cq b)->NoRoot o l:=λh o l h1 h2=>by
  rcases h1 with rfl | rfl
  .rcases h2 with rfl | rfl
   .exact h
   .exact h
  .exact cP
 refine #[by rw[List.length_set];exact w.len,λj=>?_,λj x h=>?_,λj x h=>?_,w.okT,λj k a b n h1 h2=>?_,λj a h b m=>?_,w.tt,w.base,w.pro,#[w.fx.frT,λj x h s hf a v=>?_,w.fx.bin,w.fx.ob,λj x h hl=>?_]]
 .rw[cR hi]
  by_cases q:j=i
  .subst q
   rw[if_pos rfl,if_pos rfl,u]
   show some ((cq y).d,Fl.z)=_
   rw[<- t];rfl
  .rw[if_neg q,if_neg q];exact w.sl j
 .obtain ⟨x0,h0,c,_⟩:=val j x h
  have:=w.sv j x0 h0
  rcases c with rfl | rfl <;> exact this
 .obtain ⟨x0,h0,c,_⟩:=val j x h
  rcases c with rfl | rfl
  .exact w.okS j x h0
  .exact (w.okS j x0 h0).low
 .obtain ⟨a0,h0,ha,_⟩:=val j a h1
  obtain ⟨b0,r,m,_⟩:=val k b h2
  exact p (w.ss j k a0 b0 n h0 r) a b ha m
 .obtain ⟨a0,h0,ha,_⟩:=val j a h
  exact #[p (w.st j a0 h0 b m).1 a b ha (.inl rfl),p (w.st j a0 h0 b m).2 b a (.inl rfl) ha]
 .obtain ⟨x0,h0,c,_⟩:=val j x h
  rcases c with rfl | rfl
  .exact w.fx.frS j x h0 s hf a v
  .exact absurd rfl hf
 .obtain ⟨x0,h0,c,_⟩:=val j x h
  rcases c with rfl | rfl
  .exact w.fx.lvS j x h0 hl
  .cases hl
def Kin (x y:It3):Prop:=y.d=x.d/\y.v=x.v/\y.L=x.L/\(y.f=x.f\/y.f=.z)
theorem Kin.refl (x:It3):Kin x x:=#[rfl,rfl,rfl,.inl rfl]
theorem Kin.trans (a:Kin x y) (b:Kin y z):Kin x z:=⟨b.1.trans a.1,b.2.1.trans a.2.1,b.2.2.1.trans a.2.2.1,by
 rcases b.2.2.2 with h | h
 .rcases a.2.2.2 with h' | h'
  .exact .inl (h.trans h')
  .exact .inr (h.trans h')
 .exact .inr h⟩
theorem Wf.lowAt {i:Nat} (w:Wf K G H U Z T g):∃ g',Wf K G H U (lowAt i Z) T g'/\(∀ j y,g j=some y->∃ I,g' j=some I/\Kin y I/\(j=i->I.f=.z)):=by
 have keep:∀ d,(Z[i]?).join=#v[d]->∃ g',Wf K G H U Z T g'/\(∀ j y,g j=some y->∃ I,g' j=some I/\Kin y I/\(j=i->I.f=.z)):=λd e=>⟨g,w,λj y h=>⟨y,h,Kin.refl y,λq=>by
  subst q
  obtain ⟨I,h',_,hf,_⟩:=w.slot e
  rw[h] at h';cases h';exact hf⟩⟩
 have low:∀ d f,(Z[i]?).join=some (d,f)->∃ g',Wf K G H U (Z.set i #v[d]) T g'/\(∀ j y,g j=some y->∃ I,g' j=some I/\Kin y I/\(j=i->I.f=.z)):=λd f e=>⟨_,w.lowSlot e,λj y h=>by
  by_cases q:j=i
  .subst q;exact #[cq y,by rw[if_pos rfl,h];rfl,#[rfl,rfl,rfl,.inr rfl],λ_=>rfl]
  .exact ⟨y,by rw[if_neg q];exact h,Kin.refl y,λz=>absurd z q⟩⟩
 unfold L3.lowAt
 cases e:(Z[i]?).join with
 | none =>
  refine #[g,w,λj y h=>#[y,h,Kin.refl y,λq=>?_]]
  subst q
  have:=w.sl j
  rw[h,e] at this;cases this
 | some p =>
  obtain ⟨d,f⟩:=p
  cases f with
  | u=>exact low d _ e
  | l=>exact low d _ e
  | z=>exact keep d e
theorem Wf.frz:∀ {is:List Nat} {Z:Sto} {g:Nat->Option It3},Wf K G H U Z T g->∃ g',Wf K G H U (frz is Z) T g'/\(∀ j y,g j=some y->∃ I,g' j=some I/\Kin y I/\(j∈is->I.f=.z))
 | [],Z,g,w=>#[g,w,λj y h=>#[y,h,Kin.refl y,λq=>by cases q]]
 | i::is,Z,g,w=>by
  obtain ⟨g1,J,h1⟩:=w.lowAt (i:=i)
  obtain ⟨g2,c,h2⟩:=Wf.frz (is:=is) J
  refine #[g2,c,λj y h=>?_]
  obtain ⟨a,e1,k1,b⟩:=h1 j y h
  obtain ⟨e,d,k2,k⟩:=h2 j a e1
  refine #[e,d,k1.trans k2,λhm=>?_]
  rcases Fm.mp hm with q | q
  .rcases k2.2.2.2 with h | h
   .exact h.trans (b q)
   .exact h
  .exact k q
theorem Wf.lowT (w:Wf K G H U Z (Ts++T) g):Wf K G H U Z (Ts.map cq++T) g:=by
 have sp:∀ {a b:It3},Apart3 a b->Apart3 (cq a) (cq b):=λh=>#[cP,cP]
 refine #[w.len,w.sl,w.sv,w.okS,λx c=>?_,w.ss,λi x e y d=>?_,?_,w.base,w.pro,#[λx c hf a j=>?_,w.fx.frS,w.fx.bin,w.fx.ob,w.fx.lvS]]
 .rcases Fq.mp c with h | h
  .obtain ⟨x0,h0,rfl⟩:=Fy.mp h
   exact (w.okT x0 (Fi _ h0)).low
  .exact w.okT x (Fj _ h)
 .rcases Fq.mp d with h | h
  .obtain ⟨y0,h0,rfl⟩:=Fy.mp h
   exact #[(w.st i x e y0 (Fi _ h0)).1,cP]
  .exact w.st i x e y (Fj _ h)
 .have h:=List.pairwise_append.mp w.tt
  refine List.pairwise_append.mpr #[?_,h.2.1,λa ha b f=>?_]
  .grind
  .obtain ⟨a0,h0,rfl⟩:=Fy.mp ha
   exact #[cP,(h.2.2 a0 h0 b f).2]
 .rcases Fq.mp c with h | h
  .obtain ⟨x0,h0,rfl⟩:=Fy.mp h
   exact absurd rfl hf
  .exact w.fx.frT x (Fj _ h) hf a j
theorem kB:∀ {rs:List R3} {i:Nat},R3.pl i∈rs->i∈pls rs
 | [],_,h=>by cases h
 | .pl j::rs,i,h=>by
  rcases Fm.mp h with e | h
  .cases e;exact Fe
  .exact Ff _ (kB h)
 | .val _ _::rs,i,h=>by
  rcases Fm.mp h with e | h
  .cases e
  .exact kB (rs:=rs) h
theorem Ars.given:∀ {rs:List R3} {vs:List V} {Ts:List It3} {ds:List D} {S:List It3} {g':Nat->Option It3} {is:List Nat},Wf K G H U Z T g->(∀ j y,g j=some y->∃ I,g' j=some I/\Kin y I/\(j∈is->I.f=.z))->(∀ i,R3.pl i∈rs->i∈is) ->
  Ars U rs vs Ts->(∀ x∈Ts,x∈T)->(∀ x∈Ts,cq x∈S)->dw rs Z=some (.ok ds,Z)->∃ ys:List It3,(∀ y∈ys,Itm S g' y/\y.f=.z)/\ys.map (·.d)=ds/\ys.map (·.v)=vs
 | [],_,_,ds,S,g',is,w,hg,hi,.nil,_,_,e=>by cases e;exact #[[],λ_ h=>(by cases h),rfl,rfl]
 | r::rs,_,_,ds,S,g',is,w,hg,hi,.cons (v:=v0) a as,hs,hS,e=>by
  obtain ⟨d,e1,A⟩:=aP (k:=λd=>ai (dw rs) λds=>bb (d::ds)) e
  obtain ⟨C,E,t⟩:=bU A
  cases t
  obtain ⟨ys,n,l,f4⟩:=Ars.given w hg (λi h=>hi i (Ff _ h)) as (λx b=>hs x (Fi _ b)) (λx b=>hS x (Fi _ b)) E
  have one:∃ y,(Itm S g' y/\y.f=.z)/\y.d=d/\y.v=v0:=by
   cases a with
   | @pl i v h =>
    have o:der (.pl i) Z=((Z[i]?).join).map λp=>(.ok p.1,Z):=rfl
    rw[o] at e1
    cases q:(Z[i]?).join with
    | none=>rw[q] at e1;exact nsE e1
    | some p =>
     rw[q] at e1
     obtain ⟨y,u,s,F,c⟩:=w.slot (d:=p.1) (f:=p.2) q
     obtain ⟨I,h1,h2,h3⟩:=hg i y u
     have m:p.1=d:=by cases e1;rfl
     rw[h] at c
     refine #[I,#[.inl #[i,h1],h3 (hi i Fe)],h2.1.trans (s.trans m),?_]
     rw[h2.2.1];cases c;rfl
   | val x=>cases e1;exact #[cq x,#[.inr (hS x (by simp)),rfl],rfl,rfl]
  obtain ⟨y,B,f1,f2⟩:=one
  refine #[y::ys,λz hz=>?_,by simp[f1,l],by simp[f2,f4]]
  rcases Fm.mp hz with h | hz
  .rw[h];exact B
  .exact n z hz
def cY (ys:List It3) (c:Addr):Prop:=∃ y∈ys,c∈y.L
def gives (rs:List R3):M3 (List D):=ai (dw rs) λds=>ai (frz3 (pls rs)) λ_=>bb ds
theorem Ars.gives (w:Wf K G H U Z (Ts++T) g) (a:Ars U rs vs Ts) (e:ai (gives rs) k Z=some (r,Z')) :
  ∃ ds Z1 g1,k ds Z1=some (r,Z')/\Z1=frz (pls rs) Z/\Wf K G H U Z1 (Ts.map cq++T) g1/\(∀ j y,g j=some y->∃ I,g1 j=some I/\Kin y I)/\∃ ys:List It3,(∀ y∈ys,Itm (Ts.map cq++T) g1 y/\y.f=.z)/\ys.map (·.d)=ds/\ys.map (·.v)=vs:=by
 unfold L3.gives at e
 have l:ai (dw rs) (λds=>ai (frz3 (pls rs)) λ_=>k ds) Z=some (r,Z'):=by
  rw[<- e]
  unfold ai
  cases q:dw rs Z with
  | none=>rfl
  | some p =>
   obtain ⟨o,Z2⟩:=p
   cases o with
   | error x=>rfl
   | ok ds=>rfl
 obtain ⟨ds,d1,e1⟩:=bU l
 obtain ⟨g1,m,h1⟩:=Wf.frz (is:=pls rs) w
 refine #[ds,L3.frz (pls rs) Z,g1,e1,rfl,m.lowT,λj y h=>let #[I,a,b,_]:=h1 j y h;#[I,a,b],?_]
 exact Ars.given w h1 (λi h=>kB h) a (λx c=>Fi _ c) (λx c=>Fi _ (Fy.mpr #[x,c,rfl])) d1
theorem Wf.alls (w:Wf K G H U Z T g) (a:∀ y∈ys,Itm T g y/\y.f=.z) (h:cY ys c):dN T g c/\(G.H0 c=none\/G.src c):=by
 obtain ⟨y,m,b⟩:=h
 exact #[w.kid (a y m).1 b λhf=>absurd (a y m).2 hf,(w.itm (a y m).1).src c b]
theorem Wf.doneA (w:Wf K G H U Z (Us++T) g) (a:∀ y∈ys,Itm (Us++T) g y/\y.f=.z) (n:New K H H' (cY ys) x):Got K G U Z T (.val x.d x.f) x.v H' :=
 #[[x],g,(w.push n λc h=>w.alls a h).sub (by simpa using List.Sublist.cons_cons x (Fw Us T)),.val x]
theorem ky:∀ {ys:List It3},(∀ y∈ys,Rep K H y.d y.v y.L)->Reps (Rep K H) (ys.map (·.d)) (ys.map (·.v)) (ys.map (·.L)).flatten
 | [],_=>.nil
 | y::ys,h=>.cons (h y Fe) (ky λz hz=>h z (Ff _ hz))
theorem eM (h:c∈(ys.map (·.L)).flatten):cY ys c:=by
 obtain ⟨l,hl,a⟩:=List.mem_flatten.mp h
 obtain ⟨y,b,rfl⟩:=Fy.mp hl
 exact #[y,b,a]
noncomputable def A0 (mk:List D->D) (f:Fl) (ms:M3 (List R3)):EM:=ai ms λrs=>ai (gives rs) λds=>bc (if ds.length<=16777216 then some (.val (mk ds) f) else none)
abbrev cn:M3 (List R3)->EM:=A0 .tup .z
abbrev bd:M3 (List R3)->EM:=A0 .lst .u
theorem bH (h:H p=none):Same H (upd H p o):=λb u e=>by
 rw[av (aU e h)];exact e
set_option tactic.hygienic true in
theorem CH (hz:(16777216:Nat)=sizeLine) (h:tE K G0 W0 (cn ms) U H Q):tTup (tA K G0 W0 ms) U H Q:=by
 refine h.use λG W le Z T g o Z' w e q=>?_
 refine tA.seq le w e q.err λrs Z1 e1 vs H1 Ts g1 l a1=>?_
 obtain ⟨ds,Z2,g2,m,_,i,_,ys,j,f1,f2⟩:=a1.gives l e1
 obtain ⟨v,b,rfl,rfl⟩:=bN m
 subst f1 f2
 split at b
 .rename_i hl
  cases b
  refine #[by rw[Ft] at hl ⊢;lia,λp f=>?_]
  refine q _ _ (Wf.doneA (x:=#[.tup (ys.map (·.d)),.ref p,(ys.map (·.L)).flatten,.z]) i j #[bH f,.tup aI ((ky λy a=>(i.itm (j y a).1).rep).same (bH f)),λc k=>.inr (eM k),λhf=>absurd rfl hf])
 .exact nsE b
set_option tactic.hygienic true in
theorem CK (hz:(16777216:Nat)=sizeLine) (h:tE K G0 W0 (bd ms) U H Q):tLst (tA K G0 W0 ms) U H Q:=by
 refine h.use λG W le Z T g o Z' w e q=>?_
 refine tA.seq le w e q.err λrs Z1 e1 vs H1 Ts g1 m a1=>?_
 obtain ⟨ds,Z2,g2,n,_,f,_,ys,j,f1,f2⟩:=a1.gives m e1
 obtain ⟨v,k,rfl,rfl⟩:=bN n
 subst f1 f2
 split at k
 .rename_i hl
  cases k
  refine #[by rw[Ft] at hl ⊢;lia,λp b=>?_]
  have np:p ∉ (ys.map (·.L)).flatten:=λa=>by
   obtain ⟨y,hm,a⟩:=eM a
   obtain ⟨o,l⟩:=((f.itm (j y hm).1).rep.inH p a).ex
   rw[b] at l;exact nsE l
  refine q _ _ (Wf.doneA (x:=#[.lst (ys.map (·.d)),.ref p,p::(ys.map (·.L)).flatten,.u]) f j #[bH b,.lst aI ((ky λy i=>(f.itm (j y i).1).rep).same (bH b)),λc a=>?_,λ_=>#[rfl,p,_,rfl,rfl,np,b]])
  rcases Fm.mp a with e | a
  .rw[e];exact .inl b
  .exact .inr (eM a)
 .exact nsE k
end
section
variable {K:FG} {G G0:Gm} {W W0:D->Sto->Prop} {H H':Hp} {U:St} {Z Z':Sto} {T T':List It3} {g:Nat->Option It3} {x y z:It3} {α β:Type}
def EndS (K:FG) (G:Gm) (W:D->Sto->Prop) (T:List It3) (Z':Sto) (E:Ends):Except D Flw->Prop
 | .ok .nx=>∀ U' H' g',Wf K G H' U' Z' T g'->E.nx U' H'
 | .ok .br=>∀ U' H' g',Wf K G H' U' Z' T g'->E.bk U' H'
 | .ok .ct=>∀ U' H' g',Wf K G H' U' Z' T g'->E.ct U' H'
 | .ok (.rt d f)=>∀ x U' H' g',Wf K G H' U' Z' (x::T) g'->x.d=d->x.f=f->E.rt x.v H'
 | .error e=>W e Z'
theorem EndS.err (h:EndS K G W T Z' E r):∀ x,r=.error x->W x Z':=by
 intro x e;subst e;exact h
theorem tS.open (h:tS K G0 W0 m E U H):∃ G W,Le K G W G0 W0/\∃ Z T g r Z',Wf K G H U Z T g/\m Z=some (r,Z')/\EndS K G W T Z' E r:=by
 obtain ⟨G,W,le,Z,T,g,r,Z',w,e,q⟩:=h
 refine #[G,W,le,Z,T,g,r,Z',w,e,?_]
 cases r with
 | ok r=>cases r <;> exact q
 | error x=>exact q
theorem tS.use (h:tS K G0 W0 m E U H) {P:Prop} (k:∀ G W,Le K G W G0 W0->∀ Z T g r Z',Wf K G H U Z T g->m Z=some (r,Z')->EndS K G W T Z' E r->P):P:=by
 obtain ⟨G,W,le,Z,T,g,r,Z',w,e,q⟩:=h.open
 exact k G W le Z T g r Z' w e q
theorem tS.mk (le:Le K G W G0 W0) (w:Wf K G H U Z T g) (e:m Z=some (r,Z')) (h:EndS K G W T Z' E r):tS K G0 W0 m E U H:=by
 refine #[G,W,le,Z,T,g,r,Z',w,e,?_]
 cases r with
 | ok r=>cases r <;> exact h
 | error x=>exact h
def bK:SM:=bb .nx
noncomputable def aB (a b:SM):SM:=ai a λf=>match f with
 | .nx=>b
 | o=>bb o
theorem Cz (h:tS K G0 W0 bK E U H):BE E U H:=by
 refine h.use λG W le Z T g r Z' w e q=>?_
 cases e
 exact q _ _ _ w
theorem Cv (h:tS K G0 W0 (aB a b) E U H):tSeq (tS K G0 W0 a) (tS K G0 W0 b) E U H:=by
 refine h.use λG W le Z T g r Z' w e q=>?_
 unfold aB ai at e
 cases p:a Z with
 | none=>rw[p] at e;exact nsE e
 | some p' =>
  obtain ⟨o,Z1⟩:=p'
  rw[p] at e
  cases o with
  | error x=>cases e;exact tS.mk le w p q
  | ok f =>
   cases f with
   | nx=>exact tS.mk le (r:=.ok .nx) w p λU' H' g' c=>tS.mk le c e q
   | br=>cases e;exact tS.mk le w p q
   | ct=>cases e;exact tS.mk le w p q
   | rt d f=>cases e;exact tS.mk le w p q
def iH (m:EM):SM:=ai m λ_=>bb .nx
theorem zw (h:tS K G0 W0 (iH m) E U H):BG (tE K G0 W0 m) E U H:=by
 refine h.use λG W le Z T g r Z' w e q=>?_
 refine tE.seq le w e q.err λra Z1 e1 v H1 #[Ts,g1,a,a1]=>?_
 cases e1
 exact q _ _ _ (a.sub (Fw Ts T))
def sIf (c:M3 Bool) (a b:SM):SM:=ai c λt=>if t then a else b
theorem tS_if (h:tS K G0 W0 (sIf c a b) E U H):tIfS (tT K G0 W0 c) (tS K G0 W0 a) (tS K G0 W0 b) E U H:=by
 refine h.use λG W le Z T g r Z' w e q=>?_
 refine tT.seq le w e q.err λt Z1 e1 H1 g1 d=>?_
 cases t with
 | true=>exact tS.mk le d e1 q
 | false=>exact tS.mk le d e1 q
def nol:Fl->Fl
 | .u=>.u
 | _=>.z
theorem Eh (f:Fl):nol f≠.l:=by cases f <;> intro h <;> cases h
theorem Eg (f:Fl):nol f=f\/nol f=.z:=by cases f <;> first | exact .inl rfl | exact .inr rfl
noncomputable def eI (r:R3):M3 (D×Fl):=match r with
 | .val d f=>bb (d,nol f)
 | .pl i=>λZ=>((Z[i]?).join).map λp=>(.ok (p.1,.z),lowAt i Z)
theorem pp {i:Nat}:eI (.pl i) Z=((Z[i]?).join).map λp=>(.ok (p.1,.z),lowAt i Z):=rfl
theorem Ar.val_inv (a:Ar U (.val d f) v Ts):∃ x,Ts=[x]/\x.d=d/\x.f=f/\x.v=v:=by
 generalize h:R3.val d f=r at a
 cases a with
 | pl _=>cases h
 | val x=>cases h;exact #[x,rfl,rfl,rfl,rfl]
theorem Ar.take (w:Wf K G H U Z (Ts++T) g) (a:Ar U r v Ts) (e:ai (eI r) k Z=some (o,Z')) :
  ∃ p Z1 g1 x,k p Z1=some (o,Z')/\Wf K G H U Z1 (x::T) g1/\x.d=p.1/\(p.2=x.f\/p.2=.z)/\p.2≠.l/\x.v=v:=by
 cases a with
 | val x=>exact #[(x.d,nol x.f),Z,g,x,e,w,rfl,Eg _,Eh _,rfl]
 | @pl i v h =>
  unfold ai at e
  rw[pp] at e
  cases q:(Z[i]?).join with
  | none=>rw[q] at e;exact nsE e
  | some p =>
   rw[q] at e
   obtain ⟨y,C,E,J,t⟩:=w.slot (d:=p.1) (f:=p.2) q
   obtain ⟨g1,b,h1⟩:=w.lowAt (i:=i)
   obtain ⟨c,n,B,F⟩:=h1 i y C
   have hz:=F rfl
   refine #[(p.1,.z),_,g1,c,e,?_,B.1.trans E,.inr rfl,(by intro h;cases h),?_]
   .have s:∀ u:It3,NoRoot c u:=λu hf=>absurd hz hf
    refine #[b.len,b.sl,b.sv,b.okS,λu hu=>?_,b.ss,λj u m I hu=>?_,?_,b.base,b.pro,#[λu hu hf a D=>?_,b.fx.frS,b.fx.bin,b.fx.ob,b.fx.lvS]]
    .rcases Fm.mp hu with h | hu
     .rw[h];exact b.okS i c n
     .exact b.okT u hu
    .rcases Fm.mp hu with h | hu
     .rw[h]
      refine #[?_,s _]
      by_cases A:j=i
      .subst A
       rw[n] at m;cases m
       exact s _
      .exact b.ss j i u c A m n
     .exact b.st j u m I hu
    .exact List.pairwise_cons.mpr #[λu hu=>#[s _,(b.st i c n u hu).2],b.tt]
    .rcases Fm.mp hu with h | hu
     .rw[h] at hf;exact absurd hz hf
     .exact b.fx.frT u hu hf a D
   .rw[B.2.1]
    rw[h] at t;cases t;rfl
theorem Wf.store {i:Nat} (w:Wf K G H U Z (x::T) g) (hi:i < Z.length) (E:G.pr i=false) (hf:f=x.f\/f=.z) (A:f≠.l) :
  Wf K G H (U.set i (some x.v)) (Z.set i (some (x.d,f))) T (λj=>if j=i then some { x with f:=f } else g j):=by
 have B:i < U.length:=by rw[w.len];exact hi
 have r:=List.pairwise_cons.mp w.tt
 have ox:=w.okT x Fe
 have nx:∀ u:It3,NoRoot x u->NoRoot { x with f:=f } u:=λu h q=>by
  rcases hf with e | e
  .exact h (by rw[<- e];exact q)
  .exact absurd e q
 have val:∀ j u,(if j=i then some { x with f:=f } else g j)=some u->(j=i/\u={ x with f:=f })\/(j≠i/\g j=some u):=λj u h=>by
  by_cases q:j=i
  .rw[if_pos q] at h;cases h;exact .inl #[q,rfl]
  .rw[if_neg q] at h;exact .inr #[q,h]
 refine #[by rw[List.length_set,List.length_set];exact w.len,λj=>?_,λj u h=>?_,λj u h=>?_,λu hu=>w.okT u (Ff _ hu),λj k a b n h1 h2=>?_,λj a h b s=>?_,r.2,w.base,λj t=>?_,#[λu hu=>w.fx.frT u (Ff _ hu),λj u h y c a p=>?_,w.fx.bin,w.fx.ob,λj u h hl=>?_]]
 .rw[cR hi]
  by_cases q:j=i
  .rw[if_pos q,if_pos q];rfl
  .rw[if_neg q,if_neg q];exact w.sl j
 .rcases val j u h with ⟨rfl,rfl⟩ | ⟨n,h⟩
  .rw[List.getElem?_set_self B]
  .rw[List.getElem?_set_ne (λz=>n z.symm)];exact w.sv j u h
 .rcases val j u h with ⟨rfl,rfl⟩ | ⟨n,h⟩
  .refine #[ox.rep,λq=>?_,ox.src]
   rcases hf with e | e
   .subst e
    exact ox.own q
   .exact absurd e q
  .exact w.okS j u h
 .rcases val j a h1 with ⟨I,p⟩ | ⟨J,o⟩
  .rcases val k b h2 with ⟨D,C⟩ | ⟨F,m⟩
   .exact absurd (I.trans D.symm) n
   .rw[p];exact nx b (w.st k b m x Fe).2
  .rcases val k b h2 with ⟨D,C⟩ | ⟨F,m⟩
   .rw[C];exact (w.st j a o x Fe).1
   .exact w.ss j k a b n o m
 .rcases val j a h with ⟨rfl,rfl⟩ | ⟨n,h⟩
  .exact #[nx b (r.1 b s).1,(r.1 b s).2]
  .exact w.st j a h b (Ff _ s)
 .have n:j≠i:=λz=>by subst z;rw[E] at t;cases t
  rw[List.getElem?_set_ne (λz=>n z.symm)];exact w.pro j t
 .rcases val j u h with ⟨_,rfl⟩ | ⟨n,h⟩
  .rcases hf with e | e
   .exact w.fx.frT x Fe (by rw[<- e];exact c) a p
   .exact absurd e c
  .exact w.fx.frS j u h y c a p
 .rcases val j u h with ⟨_,rfl⟩ | ⟨n,h⟩
  .exact absurd hl A
  .exact w.fx.lvS j u h hl
def aJ (i:Nat) (m:EM):SM:=ai m λr=>ai (eI r) λp=>λZ=>if i < Z.length then some (.ok .nx,Z.set i (some p)) else none
set_option tactic.hygienic true in
theorem Cu {i:Nat} (c:G0.pr i=false) (h:tS K G0 W0 (aJ i m) E U H):ut (tE K G0 W0 m) (tN i) E U H:=by
 refine h.use λG W le Z T g r Z' w e q=>?_
 refine tE.seq le w e q.err λra Z1 e1 v H1 #[Ts,g1,j,a1]=>?_
 obtain ⟨p,Z2,g2,x,a,d,f1,f2,f4,b⟩:=a1.take j e1
 split at a
 .rename_i hi
  cases a
  have:=d.store (f:=p.2) hi (by rw[le.pr];exact c) f2 f4
  rw[f1,b] at this
  exact q _ _ _ this
 .exact nsE a
def aN (np:Nat) (m:EM):SM:=ai m λr=>match r with
 | .val d f=>bb (.rt d f)
 | .pl i=>λZ=>match (Z[i]?).join with
  | some (d,.u)=>if i < np then some (.ok (.rt d .z),lowAt i Z) else some (.ok (.rt d .u),Z.set i none)
  | some (d,_)=>some (.ok (.rt d .z),lowAt i Z)
  | none=>none
theorem Wf.move {i:Nat} (w:Wf K G H U Z T g) (f:G.pr i=false) (e:g i=some y):Wf K G H U (Z.set i none) (y::T) (λj=>if j=i then none else g j):=by
 have hi:i < Z.length:=by
  have:=w.sl i
  rw[e] at this
  exact fq this.symm
 have val:∀ j u,(if j=i then none else g j)=some u->j≠i/\g j=some u:=λj u h=>by
  grind
 refine #[by rw[List.length_set];exact w.len,λj=>?_,λj u h=>w.sv j u (val j u h).2,λj u h=>w.okS j u (val j u h).2,λu hu=>?_,λj k a b n h1 h2=>w.ss j k a b n (val j a h1).2 (val k b h2).2,λj a h b c=>?_,?_,w.base,w.pro,#[λu hu hf a d=>?_,λj u h=>w.fx.frS j u (val j u h).2,w.fx.bin,w.fx.ob,λj u h=>w.fx.lvS j u (val j u h).2]]
 .rw[cR hi]
  by_cases q:j=i
  .rw[if_pos q,if_pos q];rfl
  .rw[if_neg q,if_neg q];exact w.sl j
 .rcases Fm.mp hu with h | hu
  .rw[h];exact w.okS i y e
  .exact w.okT u hu
 .obtain ⟨n,h⟩:=val j a h
  rcases Fm.mp c with h' | c
  .rw[h'];exact #[w.ss j i a y n h e,w.ss i j y a (Ne.symm n) e h]
  .exact w.st j a h b c
 .exact List.pairwise_cons.mpr #[λu hu=>w.st i y e u hu,w.tt]
 .rcases Fm.mp hu with h | hu
  .subst h;exact w.fx.frS i u e f hf a d
  .exact w.fx.frT u hu hf a d
theorem Cw {np:Nat} (s:∀ i,np<=i->G0.pr i=false) (h:tS K G0 W0 (aN np m) E U H):tRet (tE K G0 W0 m) E U H:=by
 refine h.use λG W le Z T g r Z' w e q=>?_
 refine tE.seq le w e q.err λra Z1 e1 v H1 #[Ts,g1,j,a1]=>?_
 have low:∀ {i:Nat} {d:D} {f:Fl},(Z1[i]?).join=some (d,f)->some ((.ok (.rt d .z),lowAt i Z1):Except D Flw×Sto)=some (r,Z')->Ar U (.pl i) v Ts->E.rt v H1:=λ{i d f} b J a=>by
  cases J
  have L:ai (eI (.pl i)) (λp=>bb (Flw.rt p.1 p.2)) Z1=some (.ok (.rt d .z),L3.lowAt i Z1):=by
   unfold ai
   rw[pp,b]
   rfl
  obtain ⟨p,Z2,g2,x,k,n,f1,f2,_,A⟩:=a.take j L
  have c:Flw.rt p.1 p.2=Flw.rt d .z/\Z2=L3.lowAt i Z1:=by
   unfold bb at k
   injection k with k
   injection k with c o
   injection c with c
   exact #[c,o]
  obtain ⟨c,o⟩:=c
  injection c with e7 e8
  subst o
  rw[<- A]
  have F:=Wf.lowT (Ts:=[x]) n
  exact q (cq x) U H1 g2 F (f1.trans e7) rfl
 cases a1 with
 | val x=>cases e1;exact q x U H1 g1 j rfl rfl
 | @pl i v h =>
  dsimp only at e1
  cases b:(Z1[i]?).join with
  | none=>rw[b] at e1;exact nsE e1
  | some p =>
   obtain ⟨d,f⟩:=p
   rw[b] at e1
   cases f with
   | u =>
    dsimp only at e1
    split at e1
    .exact low b e1 (.pl h)
    .cases e1
     obtain ⟨y,I,C,B,t⟩:=j.slot b
     have n:=Wf.move j (by rw[le.pr];exact s i (by lia)) I
     have:=q y U H1 _ n C B
     rw[h] at t
     cases t
     exact this
   | l=>exact low b e1 (.pl h)
   | z=>exact low b e1 (.pl h)
def ci (c:M3 Bool) (b:SM):Nat->SM
 | 0=>λ_=>none
 | n+1=>ai c λt=>if t then ai b (λf=>match f with
   | .nx=>ci c b n
   | .ct=>ci c b n
   | .br=>bb .nx
   | .rt d f=>bb (.rt d f)) else bb .nx
def fX (c:M3 Bool) (b:SM):SM:=λZ=>open Classical in if h:∃ n r,ci c b n Z=some r then some (Classical.choose (Classical.choose_spec h)) else none
theorem fQ:∀ {n:Nat} {Z:Sto} {r:Except D Flw×Sto},ci c b n Z=some r->ci c b (n+1) Z=some r
 | 0,Z,r,e=>by cases e
 | n+1,Z,r,e=>by
  unfold ci at e ⊢
  unfold ai at e ⊢
  cases h:c Z with
  | none=>rw[h] at e;exact nsE e
  | some p =>
   obtain ⟨o,Z1⟩:=p
   rw[h] at e
   cases o with
   | error x=>exact e
   | ok t =>
    cases t with
    | false=>exact e
    | true =>
     simp only[if_true] at e ⊢
     cases h2:b Z1 with
     | none=>rw[h2] at e;exact nsE e
     | some p2 =>
      obtain ⟨a,Z2⟩:=p2
      rw[h2] at e
      cases a with
      | error x=>exact e
      | ok f =>
       cases f with
       | nx=>exact fQ (n:=n) e
       | ct=>exact fQ (n:=n) e
       | br=>exact e
       | rt d f=>exact e
theorem jD {n m:Nat} (h:n<=m) (e:ci c b n Z=some r):ci c b m Z=some r:=by
 induction h with
 | refl=>exact e
 | step _ ih=>exact fQ ih
theorem pC (e:fX c b Z=some r):∃ n,ci c b n Z=some r:=by
 unfold fX at e
 split at e
 .grind
 .exact nsE e
theorem vZ (h:tS K G0 W0 (fX c b) E U H):vY (tT K G0 W0 c) (tS K G0 W0 b) E U H:=by
 refine h.use λG W le Z T g r Z' w e q=>?_
 obtain ⟨n,e⟩:=pC e
 refine #[λm U H=>∃ Z g,Wf K G H U Z T g/\ci c b m Z=some (r,Z'),#[n,Z,g,w,e],?_]
 rintro m U1 H1 ⟨Z1,g1,k,e1⟩
 cases m with
 | zero=>exact nsE e1
 | succ m =>
  unfold ci at e1
  refine tT.seq le k e1 q.err λt Z2 a H2 g2 i=>?_
  cases t with
  | false=>cases a;exact q _ _ _ i
  | true =>
   refine #[λU H=>∃ Z g,Wf K G H U Z T g/\ci c b m Z=some (r,Z'),λU' H' h=>#[m,Nat.lt_succ_self m,h],?_]
   simp only[if_true] at a
   unfold ai at a
   cases p:b Z2 with
   | none=>rw[p] at a;exact nsE a
   | some p2 =>
    obtain ⟨o,Z3⟩:=p2
    rw[p] at a
    cases o with
    | error x=>cases a;exact tS.mk le i p q
    | ok f =>
     cases f with
     | nx=>exact tS.mk le (r:=.ok .nx) i p λU' H' g' j=>#[Z3,g',j,a]
     | ct=>exact tS.mk le (r:=.ok .ct) i p λU' H' g' j=>#[Z3,g',j,a]
     | br=>cases a;exact tS.mk le (r:=.ok .br) i p q
     | rt d f=>cases a;exact tS.mk le (r:=.ok (.rt d f)) i p q
end
abbrev Fn:=List (D×Fl)->Option (Except D (D×Fl)×List (D×Fl))
def prs (Z:Sto):List R3->Option (List (D×Fl))
 | []=>some []
 | .pl i::rs=>match (Z[i]?).join,prs Z rs with
  | some p,some ps=>some (p::ps)
  | _,_=>none
 | .val d f::rs=>match prs Z rs with
  | some ps=>some ((d,f)::ps)
  | _=>none
def fu (rs:List R3):List Nat:=(pls rs).filter λi=>decide (2<=(pls rs).count i)
def back:List R3->List (D×Fl)->List (D×Fl)->Sto->Sto
 | .pl i::rs,p::ps,q::qs,Z=>back rs ps qs (if p.2=.z then Z else Z.set i (some (q.1,if q.2=.z then .z else p.2)))
 | .val _ _::rs,_::ps,_::qs,Z=>back rs ps qs Z
 | _,_,_,Z=>Z
def lc (F:Fn) (ms:M3 (List R3)):EM:=ai ms λrs=>λZ=>match prs (frz (fu rs) Z) rs with
 | none=>none
 | some ps=>match F ps with
  | none=>none
  | some (.ok p,qs)=>if qs.length=ps.length then some (.ok (.val p.1 p.2),back rs ps qs (frz (fu rs) Z)) else none
  | some (.error e,qs)=>if qs.length=ps.length then some (.error e,back rs ps qs (frz (fu rs) Z)) else none
section
variable {K:FG} {G G0:Gm} {W W0:D->Sto->Prop} {H H':Hp} {U:St} {Z Z':Sto} {T T':List It3} {g:Nat->Option It3} {x y z:It3} {α β:Type}
structure Back1 (K:FG) (H H':Hp) (ps:List It3) (p q:It3):Prop where
 z:p.f=.z->q=p
 v:q.v=p.v
 f:q.f=p.f\/q.f=.z
 arg:Arg K H' q
 src:∀ c∈q.L,H c=none\/cY ps c
 there:p.f=.u->∀ b,p.v=.ref b->∃ o,H' b=some o
structure BehindX (K:FG) (H H':Hp) (ps qs:List It3):Prop where
 frame:∀ b o,H b=some o->(∀ p∈ps,p.f=.u->p.v≠.ref b)->H' b=some o
 back:Paired (Back1 K H H' ps) ps qs
 apart:qs.Pairwise Apart3
structure Behind (K:FG) (H H':Hp) (ps qs:List It3) (x:It3):Prop extends BehindX K H H' ps qs where
 rep:Rep K H' x.d x.v x.L
 own:x.f≠.z->ju x.d=true/\∃ a L',x.v=.ref a/\x.L=a::L'/\a ∉ L'/\H a=none
 src:∀ c∈x.L,H c=none\/cY ps c
 apx:∀ q∈qs,Apart3 x q
def spF (XA:D->Value->Option Addr->Hp->Prop) (K:FG) (F:Fn):Sp:=λvs H Q E=>∃ (ps:List It3) (o:Except D (D×Fl)) (fs:List (D×Fl)),vs=ps.map (·.v)/\(∀ p∈ps,Arg K H p)/\ps.Pairwise Apart3/\F (ps.map λp=>(p.d,p.f))=some (o,fs)/\match o with
 | .ok p=>∀ x qs H',Behind K H H' ps qs x->x.d=p.1->x.f=p.2->qs.map (λq=>(q.d,q.f))=fs->Q x.v H'
 | .error e=>∀ qs H' cls da,BehindX K H H' ps qs->qs.map (λq=>(q.d,q.f))=fs->XA e cls da H'->E cls da H'
theorem Ars.args:∀ {rs:List R3} {vs:List V} {Ts T:List It3} {c:List (D×Fl)},Ars U rs vs Ts->Wf K G H U Z (Ts++T) g->(∀ i,2<=(pls rs).count i->∀ y,g i=some y->y.f=.z)->prs Z rs=some c ->
  ∃ ps:List It3,ps.map (λp=>(p.d,p.f))=c/\ps.map (·.v)=vs/\ps.Pairwise Apart3/\(∀ p∈ps,(∃ i,R3.pl i∈rs/\g i=some p)\/p∈Ts)/\Paired (λr p=>match r with | .pl i=>g i=some p | .val _ _=>p∈Ts) rs ps
 | [],_,_,T,c,.nil,w,_,e=>by cases e;exact #[[],rfl,rfl,.nil,λ_ h=>(by cases h),.nil]
 | r::rs,_,_,T,c,.cons (v:=v0) (Ts:=T0) (Us:=σ0) a as,w,hd,e=>by
  have E:Wf K G H U Z (σ0++(T0++T)) g:=by rw[<- List.append_assoc];exact w
  have o:∀ i,2<=(pls rs).count i->∀ y,g i=some y->y.f=.z:=λi s=>hd i (by
   cases r with
   | pl j=>show 2<=(j::pls rs).count i;rw[List.count_cons];lia
   | val _ _=>exact s)
  cases a with
  | @pl i v h =>
   unfold prs at e
   cases q:(Z[i]?).join with
   | none=>rw[q] at e;exact nsE e
   | some p0 =>
    cases l:prs Z rs with
    | none=>rw[q,l] at e;exact nsE e
    | some pfs' =>
     rw[q,l] at e
     cases e
     obtain ⟨ps,f1,f2,t,f4,A⟩:=Ars.args as E o l
     obtain ⟨y,n,I,F,C⟩:=w.slot (d:=p0.1) (f:=p0.2) q
     have J:y.v=v0:=by rw[h] at C;cases C;rfl
     refine #[y::ps,by rw[FF,f1,I,F],by rw[FF,f2,J],List.pairwise_cons.mpr #[λp b=>?_,t],λp b=>?_,.cons n ?_]
     .rcases f4 p b with ⟨j,m,k⟩ | b
      .by_cases u:i=j
       .subst u
        have s:2<=(pls (R3.pl i::rs)).count i:=by
         show 2<=(i::pls rs).count i
         rw[List.count_cons_self]
         have:=List.count_pos_iff.mpr (kB m)
         lia
        have hz:=hd i s y n
        have B:=hd i s p k
        exact #[λq=>absurd hz q,λq=>absurd B q]
       .exact #[w.ss i j y p u n k,w.ss j i p y (Ne.symm u) k n]
      .exact w.st i y n p (Fi _ (Fi _ b))
     .rcases Fm.mp b with h' | b
      .rw[h'];exact .inl #[i,Fe,n]
      .rcases f4 p b with ⟨j,m,k⟩ | b
       .exact .inl #[j,Ff _ m,k]
       .exact .inr (Fi _ b)
     .exact Paired.mapP A λr p h=>by
       cases r with
       | pl j=>exact h
       | val _ _=>exact Fi _ h
  | val x =>
   unfold prs at e
   cases l:prs Z rs with
   | none=>rw[l] at e;exact nsE e
   | some pfs' =>
    rw[l] at e
    cases e
    obtain ⟨ps,f1,f2,t,f4,A⟩:=Ars.args as E o l
    refine #[x::ps,by rw[FF,f1],by rw[FF,f2],List.pairwise_cons.mpr #[λp b=>?_,t],λp b=>?_,.cons (Fj _ Fe) ?_]
    .rcases f4 p b with ⟨j,m,k⟩ | b
     .exact (w.st j p k x (Fi _ (Fj _ Fe))).symm
     .have t1:=(List.pairwise_append.mp w.tt).1
      exact ((List.pairwise_append.mp t1).2.2 p b x Fe).symm
    .rcases Fm.mp b with h' | b
     .rw[h'];exact .inr (Fj _ Fe)
     .rcases f4 p b with ⟨j,m,k⟩ | b
      .exact .inl #[j,Ff _ m,k]
      .exact .inr (Fi _ b)
    .exact Paired.mapP A λr p h=>by
      cases r with
      | pl j=>exact h
      | val _ _=>exact Fi _ h
theorem fA:∀ {rs:List R3} {ps qs:List It3} {Z:Sto} {g:Nat->Option It3},(∀ j,(g j).map (λx=>(x.d,x.f))=(Z[j]?).join)->rs.length=ps.length->Paired (Back1 K H H' T) ps qs->(∀ i,R3.pl i∈rs->i < Z.length) ->
  ∃ g':Nat->Option It3,(∀ j,(g' j).map (λx=>(x.d,x.f))=((back rs (ps.map λp=>(p.d,p.f)) (qs.map λq=>(q.d,q.f)) Z)[j]?).join)/\(back rs (ps.map λp=>(p.d,p.f)) (qs.map λq=>(q.d,q.f)) Z).length=Z.length /\
   ∀ j:Nat,(g' j=g j/\∀ (k:Nat) (p:It3),rs[k]?=some (R3.pl j)->ps[k]?=some p->p.f=.z)\/∃ (k:Nat) (p q:It3),rs[k]?=some (R3.pl j)/\ps[k]?=some p/\qs[k]?=some q/\p.f≠.z/\g' j=some q
 | [],[],_,Z,g,hg,_,.nil,_=>#[g,hg,rfl,λj=>.inl #[rfl,λk p h=>by simp at h]]
 | [],_::_,_,_,_,_,h,_,_=>by cases h
 | _::_,[],_,_,_,_,h,_,_=>by cases h
 | .val d f::rs,p::ps,_,Z,g,hg,hl,.cons (b:=q) (l₂:=qs) b1 bs,hi=>by
  obtain ⟨g',h1,h2,h3⟩:=fA (rs:=rs) hg (by simpa using hl) bs λi h=>hi i (Ff _ h)
  refine #[g',h1,h2,λj=>?_]
  rcases h3 j with ⟨e,h⟩ | ⟨k,a,m,a1,a2,l,a4⟩
  .refine .inl #[e,λk a e1 c=>?_]
   cases k with
   | zero=>simp at e1
   | succ k=>exact h k a (by simpa using e1) (by simpa using c)
  .exact .inr #[k+1,a,m,by simpa using a1,by simpa using a2,by simpa using l,a4]
 | .pl i::rs,p::ps,_,Z,g,hg,hl,.cons (b:=q) (l₂:=qs) b1 bs,hi=>by
  have r:=hi i Fe
  by_cases hz:p.f=.z
  .have o:back (.pl i::rs) ((p::ps).map λp=>(p.d,p.f)) ((q::qs).map λq=>(q.d,q.f)) Z=back rs (ps.map λp=>(p.d,p.f)) (qs.map λq=>(q.d,q.f)) Z:=by
    show back rs _ _ (if p.f=.z then Z else _)=_
    rw[if_pos hz]
   rw[o]
   obtain ⟨g',h1,h2,h3⟩:=fA (rs:=rs) hg (by simpa using hl) bs λi h=>hi i (Ff _ h)
   refine #[g',h1,h2,λj=>?_]
   rcases h3 j with ⟨e,h⟩ | ⟨k,a,m,a1,a2,l,a4⟩
   .refine .inl #[e,λk a e1 c=>?_]
    cases k with
    | zero=>simp at c;rw[<- c];exact hz
    | succ k=>exact h k a (by simpa using e1) (by simpa using c)
   .exact .inr #[k+1,a,m,by simpa using a1,by simpa using a2,by simpa using l,a4]
  .have o:back (.pl i::rs) ((p::ps).map λp=>(p.d,p.f)) ((q::qs).map λq=>(q.d,q.f)) Z=back rs (ps.map λp=>(p.d,p.f)) (qs.map λq=>(q.d,q.f)) (Z.set i (some (q.d,q.f))):=by
    show back rs _ _ (if p.f=.z then Z else Z.set i (some (q.d,if q.f=.z then .z else p.f)))=_
    rw[if_neg hz]
    have:(if q.f=.z then Fl.z else p.f)=q.f:=by
     by_cases h:q.f=.z
     .rw[if_pos h,h]
     .rw[if_neg h]
      rcases b1.f with h' | h'
      .exact h'.symm
      .exact absurd h' h
    rw[this]
   rw[o]
   obtain ⟨g',h1,h2,h3⟩:=fA (rs:=rs) (Z:=Z.set i (some (q.d,q.f))) (g:=λj=>if j=i then some q else g j) (λj=>by
    rw[cR r]
    by_cases e:j=i
    .rw[if_pos e,if_pos e];rfl
    .rw[if_neg e,if_neg e];exact hg j) (by simpa using hl) bs λi h=>by rw[List.length_set];exact hi i (Ff _ h)
   refine #[g',h1,by rw[h2,List.length_set],λj=>?_]
   rcases h3 j with ⟨e,h⟩ | ⟨k,a,m,a1,a2,l,a4⟩
   .by_cases n:j=i
    .rw[if_pos n] at e
     exact .inr #[0,p,q,by simp[n],rfl,rfl,hz,e]
    .rw[if_neg n] at e
     refine .inl #[e,λk a e1 c=>?_]
     cases k with
     | zero=>simp at e1;exact absurd e1.symm n
     | succ k=>exact h k a (by simpa using e1) (by simpa using c)
   .exact .inr #[k+1,a,m,by simpa using a1,by simpa using a2,by simpa using l,a4]
theorem nO:∀ {rs:List R3} {a:List (D×Fl)},prs Z rs=some a->rs.length=a.length
 | [],a,e=>by cases e;rfl
 | .pl i::rs,a,e=>by
  unfold prs at e
  cases q:(Z[i]?).join with
  | none=>rw[q] at e;exact nsE e
  | some p =>
   cases j:prs Z rs with
   | none=>rw[q,j] at e;exact nsE e
   | some ps=>rw[q,j] at e;cases e;rw[FO,FO,nO j]
 | .val d f::rs,a,e=>by
  unfold prs at e
  cases j:prs Z rs with
  | none=>rw[j] at e;exact nsE e
  | some ps=>rw[j] at e;cases e;rw[FO,FO,nO j]
theorem rg:∀ {rs:List R3} {a:List (D×Fl)},prs Z rs=some a->∀ i,R3.pl i∈rs->i < Z.length
 | [],a,e,i,h=>by cases h
 | .pl i::rs,a,e,j,h=>by
  unfold prs at e
  cases q:(Z[i]?).join with
  | none=>rw[q] at e;exact nsE e
  | some p =>
   cases I:prs Z rs with
   | none=>rw[q,I] at e;exact nsE e
   | some ps =>
    rcases Fm.mp h with h | h
    .cases h;exact fq q
    .exact rg I j h
 | .val d f::rs,a,e,j,h=>by
  unfold prs at e
  cases I:prs Z rs with
  | none=>rw[I] at e;exact nsE e
  | some ps =>
   rcases Fm.mp h with h | h
   .cases h
   .exact rg I j h
theorem Paired.at:∀ {l:List α} {m:List β} {k:Nat} {a:α} {b:β},Paired F l m->l[k]?=some a->m[k]?=some b->F a b
 | _,_,_,_,_,.nil,h,_=>by simp at h
 | _,_,0,_,_,.cons r _,h,h'=>by simp at h h';subst h h';exact r
 | _,_,k+1,_,_,.cons _ t,h,h'=>Paired.at (k:=k) t (by simpa using h) (by simpa using h')
theorem Paired.exL:∀ {l:List α} {m:List β} {k:Nat} {a:α},Paired F l m->l[k]?=some a->∃ b,m[k]?=some b/\F a b
 | _,_,_,_,.nil,h=>by simp at h
 | _,_,0,_,.cons r _,h=>by simp at h;subst h;exact #[_,rfl,r]
 | _,_,k+1,_,.cons _ t,h=>let #[b,h1,h2]:=Paired.exL (k:=k) t (by simpa using h);#[b,by simpa using h1,h2]
theorem Paired.exR:∀ {l:List α} {m:List β} {k:Nat} {b:β},Paired F l m->m[k]?=some b->∃ a,l[k]?=some a/\F a b
 | _,_,_,_,.nil,h=>by simp at h
 | _,_,0,_,.cons r _,h=>by simp at h;subst h;exact #[_,rfl,r]
 | _,_,k+1,_,.cons _ t,h=>let #[b,h1,h2]:=Paired.exR (k:=k) t (by simpa using h);#[b,by simpa using h1,h2]
theorem cA {R:α->α->Prop} {l:List α} (p:l.Pairwise R) (d:∀ a b,R a b->R b a) {i j:Nat} {a b:α} (n:i≠j) (ha:l[i]?=some a) (c:l[j]?=some b):R a b:=by
 obtain ⟨h1,e1⟩:=Fu.mp ha
 obtain ⟨h2,e⟩:=Fu.mp c
 have q:=List.pairwise_iff_getElem.mp p
 grind
theorem Wf.after (w:Wf K G H U Z (Ts++T) g) (e:prs Z rs=some pfs) (f1:ps.map (λp=>(p.d,p.f))=pfs) (f4:∀ p∈ps,(∃ i,R3.pl i∈rs/\g i=some p)\/p∈Ts) (f5:Paired (λr p=>match r with | .pl i=>g i=some p | .val _ _=>p∈Ts) rs ps) (B:BehindX K H H' ps qs) :
  ∃ g',Wf K G H' U (L3.back rs pfs (qs.map λq=>(q.d,q.f)) Z) T g' /\
   ∀ x,Rep K H' x.d x.v x.L->(x.f≠.z->ju x.d=true/\∃ a L',x.v=.ref a/\x.L=a::L'/\a ∉ L'/\H a=none)->(∀ c∈x.L,H c=none\/cY ps c)->(∀ q∈qs,Apart3 x q)->Wf K G H' U (L3.back rs pfs (qs.map λq=>(q.d,q.f)) Z) (x::T) g':=by
 subst f1
 have hl:rs.length=ps.length:=by have:=nO e;rwa [Ft] at this
 obtain ⟨g',h1,h2,h3⟩:=fA (K:=K) (H:=H) (H':=H') (T:=ps) (rs:=rs) (ps:=ps) (qs:=qs) w.sl hl B.back (rg e)
 have F:∀ p∈ps,Itm (Ts++T) g p:=λp l=>by
  rcases f4 p l with ⟨i,_,P⟩ | h
  .exact .inl #[i,P]
  .exact .inr (Fi _ h)
 have X:∀ b o,H b=some o->∃ o',H' b=some o':=λb o R=>by
  by_cases h:∀ p∈ps,p.f=.u->p.v≠.ref b
  .exact #[o,B.frame b o R h]
  .have h':∃ p,p∈ps/\p.f=.u/\p.v=.ref b:=by
    refine Classical.byContradiction λn=>h λp l hf J=>n #[p,l,hf,J]
   obtain ⟨p,l,hf,J⟩:=h'
   obtain ⟨k,hk,ek⟩:=List.mem_iff_getElem.mp l
   obtain ⟨q,e1,b1⟩:=Paired.exL B.back (show ps[k]?=some p by rw[Fo hk,ek])
   exact b1.there hf b J
 have ka:∀ j z,g j=some z->(∀ (k:Nat) (p:It3),rs[k]?=some (R3.pl j)->ps[k]?=some p->p.f=.z)->∀ p∈ps,Apart3 p z:=λj z ej hu p l=>by
  rcases f4 p l with ⟨i,hi,P⟩ | h
  .by_cases ij:i=j
   .subst ij
    have ae:p=z:=F8 (P.symm.trans ej)
    subst ae
    have hz:p.f=.z:=by
     obtain ⟨k,hk,ek⟩:=List.mem_iff_getElem.mp hi
     have W:rs[k]?=some (R3.pl i):=by rw[Fo hk,ek]
     obtain ⟨A,e1,D⟩:=Paired.exL f5 W
     have D:g i=some A:=D
     rw[P] at D
     cases D
     exact hu k p W e1
    exact #[λq=>absurd hz q,λq=>absurd hz q]
   .exact #[w.ss i j p z ij P ej,w.ss j i z p (Ne.symm ij) ej P]
  .exact (w.st j z ej p (Fi _ h)).symm
 have kt:∀ z∈T,∀ p∈ps,Apart3 p z:=λz hz p l=>by
  rcases f4 p l with ⟨i,hi,P⟩ | h
  .exact w.st i p P z (Fj _ hz)
  .exact (List.pairwise_append.mp w.tt).2.2 p h z hz
 have keep:∀ z,ItOk K G H z->(∀ p∈ps,Apart3 p z)->ItOk K G H' z:=λz Q V=>by
  refine Q.keep (M:=λb=>∃ p∈ps,p.f=.u/\p.v=.ref b) (λb o R n=>B.frame b o R λp l hf J=>n #[p,l,hf,J]) (λb #[p,l,hf,J]=>?_) (λb R #[p,l,hf,J]=>?_)
  .obtain ⟨_,a,L',e1,D,_⟩:=(w.itm (F p l)).own (by rw[hf];intro q;cases q)
   rw[J] at e1
   cases e1
   exact (w.itm (F p l)).rep.inH b (by rw[D];exact Fe)
  .exact (V p l).1 (by rw[hf];intro q;cases q) b J R
 have ar:∀ k p q,ps[k]?=some p->qs[k]?=some q->ItOk K G H' q:=λk p q e1 D=>by
  have b:=Paired.at B.back e1 D
  refine #[b.arg.rep,λhf=>?_,λc S=>?_]
  .obtain ⟨m,a,L',v1,v2,v3⟩:=b.arg.own hf
   refine #[m,a,L',v1,v2,v3,λhu=>?_]
   have pf:p.f=.u:=by
    rcases b.f with h | h
    .rw[<- h];exact hu
    .rw[h] at hu;cases hu
   obtain ⟨_,a',a6,e3,_,_,e5⟩:=(w.itm (F p (Fv e1))).own (by rw[pf];intro q;cases q)
   rw[<- b.v,v1] at e3
   cases e3
   exact e5 pf
  .rcases b.src c S with h | ⟨A,C,h⟩
   .exact .inl (w.h0none h)
   .exact (w.itm (F A C)).src c h
 have kq:∀ z,ItOk K G H z->(∀ p∈ps,Apart3 p z)->∀ k p q,ps[k]?=some p->qs[k]?=some q->Apart3 z q:=λz Q V k p q e1 D=>by
  have b:=Paired.at B.back e1 D
  refine #[λhf a ev hm=>?_,λhf a ev=>?_]
  .rcases b.src a hm with h | ⟨A,C,S⟩
   .obtain ⟨_,a',L',s,O,_⟩:=Q.own hf
    rw[ev] at s;cases s
    obtain ⟨o,I⟩:=(Q.rep.inH a (by rw[O];exact Fe)).ex
    rw[h] at I;exact nsE I
   .exact (V A C).2 hf a ev S
  .have pf:p.f≠.z:=λτ=>by
    have:=b.z τ
    rw[this] at hf
    exact hf τ
   exact (V p (Fv e1)).1 pf a (by rw[<- b.v];exact ev)
 have old:∀ j z,g' j=some z->(g j=some z/\∀ p∈ps,Apart3 p z)\/∃ k p,rs[k]?=some (R3.pl j)/\ps[k]?=some p/\qs[k]?=some z:=λj z E=>by
  rcases h3 j with ⟨e1,hu⟩ | ⟨k,p,q,a1,a2,y,_,a5⟩
  .rw[e1] at E
   exact .inl #[E,ka j z E hu]
  .rw[a5] at E
   cases E
   exact .inr #[k,p,a1,a2,y]
 have wf:Wf K G H' U (L3.back rs (ps.map λp=>(p.d,p.f)) (qs.map λq=>(q.d,q.f)) Z) T g':=by
  refine #[by rw[h2];exact w.len,h1,λj z E=>?_,λj z E=>?_,λz hz=>keep z (w.okT z (Fj _ hz)) (kt z hz),λi j a b n σ eb=>?_,λj z E t N=>?_,(List.pairwise_append.mp w.tt).2.1,λb o e n=>?_,w.pro,#[λu hu=>w.fx.frT u (Fj _ hu),λj u h l hf a σ=>?_,λb R=>?_,λb o h=>?_,λj u h hl=>?_]]
  .rcases old j z E with ⟨e1,_⟩ | ⟨k,p,a1,a2,y⟩
   .exact w.sv j z e1
   .have ρ:g j=some p:=by
     obtain ⟨A,s,O⟩:=Paired.exL f5 a1
     rw[a2] at s;cases s
     exact O
    rw[(Paired.at B.back a2 y).v]
    exact w.sv j p ρ
  .rcases old j z E with ⟨e1,ap⟩ | ⟨k,p,a1,a2,y⟩
   .exact keep z (w.okS j z e1) ap
   .exact ar k p z a2 y
  .rcases old i a σ with ⟨e1,ap⟩ | ⟨k,p,a1,a2,y⟩
   .rcases old j b eb with ⟨D,_⟩ | ⟨k',A,b1,b2,b3⟩
    .exact w.ss i j a b n e1 D
    .exact (kq a (w.okS i a e1) ap k' A b b2 b3).1
   .rcases old j b eb with ⟨D,ap⟩ | ⟨k',A,b1,b2,b3⟩
    .exact (kq b (w.okS j b D) ap k p a a2 y).2
    .have kk:k≠k':=λz=>by
      subst z
      rw[a1] at b1
      cases b1
      exact n rfl
     exact (cA B.apart (λ_ _=>Apart3.symm) kk y b3).1
  .rcases old j z E with ⟨e1,ap⟩ | ⟨k,p,a1,a2,y⟩
   .exact w.st j z e1 t (Fj _ N)
   .exact (kq t (w.okT t (Fj _ N)) (kt t N) k p z a2 y).symm
  .refine B.frame b o (w.base b o e n) λp l hf J=>?_
   obtain ⟨_,a,L',e1,_,_,e3⟩:=(w.itm (F p l)).own (by rw[hf];intro q;cases q)
   rw[J] at e1
   cases e1
   rcases e3 hf with h | h
   .rw[e] at h;cases h
   .exact n h
  .rcases old j u h with ⟨e1,_⟩ | ⟨k,p,a1,a2,y⟩
   .exact w.fx.frS j u e1 l hf a σ
   .have b:=Paired.at B.back a2 y
    have ρ:g j=some p:=by
     obtain ⟨A,s,O⟩:=Paired.exL f5 a1
     rw[a2] at s;cases s
     exact O
    refine w.fx.frS j p ρ l (λτ=>?_) a (by rw[<- b.v];exact σ)
    have:=b.z τ
    rw[this] at hf
    exact hf τ
  .obtain ⟨o,I⟩:=w.fx.bin b R
   exact X b o I
  .obtain ⟨o',I⟩:=w.fx.ob b o h
   exact X b o' I
  .rcases old j u h with ⟨e1,_⟩ | ⟨k,p,a1,a2,y⟩
   .exact w.fx.lvS j u e1 hl
   .have b:=Paired.at B.back a2 y
    have ρ:g j=some p:=by
     obtain ⟨A,s,O⟩:=Paired.exL f5 a1
     rw[a2] at s;cases s
     exact O
    rw[b.v]
    refine w.fx.lvS j p ρ ?_
    rcases b.f with h | h
    .rw[<- h];exact hl
    .rw[h] at hl;cases hl
 refine #[g',wf,λx rx ox sx ax=>?_]
 have kx:∀ z,ItOk K G H z->(∀ p∈ps,Apart3 p z)->Apart3 z x:=λz Q V=>by
  refine #[λhf a ev hm=>?_,λhf a ev hm=>?_]
  .rcases sx a hm with h | ⟨A,C,S⟩
   .obtain ⟨_,a',L',s,O,_⟩:=Q.own hf
    rw[ev] at s;cases s
    obtain ⟨o,I⟩:=(Q.rep.inH a (by rw[O];exact Fe)).ex
    rw[h] at I;exact nsE I
   .exact (V A C).2 hf a ev S
  .obtain ⟨_,a',L',s,_,_,q4⟩:=ox hf
   rw[ev] at s;cases s
   obtain ⟨o,I⟩:=(Q.rep.inH a hm).ex
   rw[q4] at I;exact nsE I
 refine #[wf.len,wf.sl,wf.sv,wf.okS,λz hz=>?_,wf.ss,λj z E t N=>?_,?_,wf.base,wf.pro,#[λu hu hf a σ=>?_,wf.fx.frS,wf.fx.bin,wf.fx.ob,wf.fx.lvS]]
 .rcases Fm.mp hz with h | hz
  .rw[h]
   refine #[rx,λhf=>?_,λc S=>?_]
   .obtain ⟨m,a,L',v1,v2,v3,v4⟩:=ox hf
    exact #[m,a,L',v1,v2,v3,λ_=>.inl (w.h0none v4)]
   .rcases sx c S with h | ⟨A,C,h⟩
    .exact .inl (w.h0none h)
    .exact (w.itm (F A C)).src c h
  .exact wf.okT z hz
 .rcases Fm.mp N with h | N
  .rw[h]
   rcases old j z E with ⟨e1,ap⟩ | ⟨k,p,a1,a2,y⟩
   .exact kx z (w.okS j z e1) ap
   .exact (ax z (Fv y)).symm
  .exact wf.st j z E t N
 .exact List.pairwise_cons.mpr #[λt N=>(kx t (w.okT t (Fj _ N)) (kt t N)).symm,wf.tt]
 .rcases Fm.mp hu with h | hu
  .subst h
   obtain ⟨_,a',L',s,_,_,q4⟩:=ox hf
   rw[σ] at s;cases s
   exact w.ornone q4
  .exact wf.fx.frT u hu hf a σ
set_option tactic.hygienic true in
theorem rG {i a:Nat} (h:(Z[i]?).join=none):((L3.lowAt a Z)[i]?).join=none:=by
 unfold L3.lowAt
 split
 .grind
 .rename_i d hd
  rw[cR (fq hd)]
  by_cases b:i=a
  .subst b;rw[h] at hd;exact nsE hd
  .rw[if_neg b];exact h
 .exact h
theorem ls {i:Nat}:∀ {is:List Nat} {Z:Sto},(Z[i]?).join=none->((L3.frz is Z)[i]?).join=none
 | [],Z,h=>h
 | a::is,Z,h=>ls (is:=is) (Z:=L3.lowAt a Z) (rG h)
def EX (XA:D->Value->Option Addr->Hp->Prop) (K:FG) (G:Gm) (W:D->Sto->Prop) (U:St):XK:=λcls da H'=>∃ e Z' T' g',Wf K G H' U Z' T' g'/\XA e cls da H'/\W e Z'
theorem zF (h:tE K G0 W0 (lc F ms) U H Q):tA K G0 W0 ms U H λvs H1=>spF XA K F vs H1 Q (EX XA K G0 W0 U):=by
 refine h.use λG W le Z T g o Z' w e q=>?_
 refine tA.seq le w e q.err λrs Z1 e1 vs H1 Ts g1 t a1=>?_
 obtain ⟨g2,b,R⟩:=Wf.frz (is:=fu rs) t
 cases j:prs (L3.frz (fu rs) Z1) rs with
 | none=>rw[j] at e1;exact nsE e1
 | some pfs =>
  rw[j] at e1
  dsimp only at e1
  have hd:∀ i,2<=(pls rs).count i->∀ y,g2 i=some y->y.f=.z:=λi S y A=>by
   have hm:i∈fu rs:=FV.mpr #[List.count_pos_iff.mp (by lia),by simpa using S]
   have s1:=b.sl i
   rw[A] at s1
   have X:∃ y0,g1 i=some y0:=by
    cases τ:g1 i with
    | some y0=>exact #[y0,rfl]
    | none =>
     exfalso
     have s2:=t.sl i
     rw[τ] at s2
     have:=ls (is:=fu rs) s2.symm
     rw[this] at s1
     cases s1
   obtain ⟨y0,l⟩:=X
   obtain ⟨ρ,c,_,I⟩:=R i y0 l
   rw[A] at c
   cases c
   exact I hm
  obtain ⟨ps,f1,f2,E,f4,u⟩:=Ars.args a1 b hd j
  have hit:∀ p∈ps,Itm (Ts++T) g2 p:=λp k=>by
   rcases f4 p k with ⟨i,_,L⟩ | h
   .exact .inl #[i,L]
   .exact .inr (Fi _ h)
  have d:∀ p∈ps,Arg K H1 p:=λp k=>⟨(b.itm (hit p k)).rep,λhf=>by
   obtain ⟨m,a,L',v1,v2,σ,_⟩:=(b.itm (hit p k)).own hf
   exact ⟨m,a,L',v1,v2,σ⟩⟩
  subst f2
  cases c:F pfs with
  | none=>rw[c] at e1;exact nsE e1
  | some r =>
   obtain ⟨out,fs⟩:=r
   rw[c] at e1
   refine #[ps,out,fs,rfl,d,E,by rw[f1];exact c,?_]
   cases out with
   | ok p =>
    dsimp only at e1
    split at e1
    .cases e1
     intro x qs H' B x1 M n
     obtain ⟨g',s,O⟩:=Wf.after b j f1 f4 u B.toBehindX
     have C:=O x B.rep B.own B.src B.apx
     rw[n] at C
     rw[<- x1,<- M] at q
     exact q x.v H' #[[x],g',C,.val x]
    .exact nsE e1
   | error er =>
    dsimp only at e1
    split at e1
    .cases e1
     intro qs H' cls da B n D
     obtain ⟨g',s,_⟩:=Wf.after b j f1 f4 u B
     rw[n] at s
     obtain ⟨Z5,P,J,N,V⟩:=le.ex H' U _ T g' er s q
     exact #[er,Z5,P,J,N,D,V]
    .exact nsE e1
end
def dM (Z:Sto):Nat->List (D×Fl)->Option (List (D×Fl))
 | _,[]=>some []
 | i,(d,.z)::ps=>(dM Z (i+1) ps).map λr=>(d,.z)::r
 | i,(d,f)::ps=>match (Z[i]?).join,dM Z (i+1) ps with
  | some (d',f'),some r=>if f'=f\/f'=.z then some ((d',f')::r) else none
  | _,_=>none
def entry (n:Nat) (ps:List (D×Fl)):Sto:=ps.map some++List.replicate (n - ps.length) none
def fn0 (n:Nat) (b:SM):Fn:=λps=>match b (entry n ps) with
 | some (.ok .nx,Z')=>(dM Z' 0 ps).map λfs=>(.ok (.non,.z),fs)
 | some (.ok (.rt d f),Z')=>(dM Z' 0 ps).map λfs=>(.ok (d,f),fs)
 | some (.error e,Z')=>(dM Z' 0 ps).map λfs=>(.error e,fs)
 | _=>none
def uV (b:Bool) (p:D×Fl):D×Fl:=if b then (p.1,.z) else p
noncomputable def fnM (mask:List Bool) (n:Nat) (b:SM):Fn:=λps=>if ps.length=mask.length then fn0 n b (List.zipWith uV mask ps) else none
section
variable {K:FG} {G:Gm} {W:D->Sto->Prop} {H H':Hp} {U:St} {Z Z':Sto} {T T':List It3} {g:Nat->Option It3} {x y z:It3} {α β:Type}
def gOf (H:Hp) (pr:Nat->Bool) (U0:St) (ps:List It3):Gm:=#[H,λb=>∃ p∈ps,p.f=.u/\p.v=.ref b,pr,U0,H,cY ps,λi=>(ps[i]?).map (·.v)]
theorem vf {n:Nat} (a:ps.length<=n) (i:Nat):((entry n ps)[i]?).join=ps[i]?:=by
 unfold entry
 grind
theorem jE {n:Nat} {vs:List V} {i:Nat} (h:vs[i]?=some v):(vs.map some++List.replicate n (none:Option V))[i]?=some (some v):=by grind
theorem pd {n:Nat} (t:ps.length<=n) (ha:∀ p∈ps,Arg K H p) (k:ps.Pairwise Apart3) (g:∀ (i:Nat) (p:It3),ps[i]?=some p->p.f≠.z->pr i=true) :
  Wf K (gOf H pr ((ps.map (·.v)).map some++List.replicate (n - (ps.map (·.v)).length) none) ps) H ((ps.map (·.v)).map some++List.replicate (n - (ps.map (·.v)).length) none) (entry n (ps.map λp=>(p.d,p.f))) [] (λi=>ps[i]?):=by
 refine #[?_,λi=>?_,λi x e=>?_,λi x e=>?_,λ_ h=>(by cases h),λi j a b n s l=>?_,λ_ _ _ _ h=>(by cases h),.nil,λb o e _=>e,λi _=>rfl,#[λ_ h=>(by cases h),λi x e hz hf=>?_,λb h=>?_,λb o e=>#[o,e],λi x e _=>(by show (ps[i]?).map (·.v)=_;rw[e];rfl)]]
 .unfold entry;simp
 .rw[vf (by simpa using t),Fz]
 .exact jE (by rw[Fz,e];rfl)
 .have hm:=Fv e
  refine #[(ha x hm).rep,λhf=>?_,λc r=>.inr #[x,hm,r]]
  obtain ⟨m,a,L',v1,v2,u⟩:=(ha x hm).own hf
  exact #[m,a,L',v1,v2,u,λhu=>.inr #[x,hm,hu,v1]]
 .exact (cA k (λ_ _=>Apart3.symm) n s l).1
 .have hz:pr i=false:=hz
  rw[g i x e hf] at hz;cases hz
 .obtain ⟨p,hm,hf,w⟩:=h
  obtain ⟨_,a,L',v1,v2,_⟩:=(ha p hm).own (by rw[hf];intro q;cases q)
  rw[w] at v1;cases v1
  exact ((ha p hm).rep.inH b (by rw[v2];exact Fe)).ex
def FinsOk (Z:Sto) (i:Nat) (ps fs:List (D×Fl)):Prop:=fs.length=ps.length/\∀ (k:Nat) (p:D×Fl),ps[k]?=some p->∃ q,fs[k]?=some q/\(p.2=.z->q=p)/\(p.2≠.z->(Z[i+k]?).join=some q/\(q.2=p.2\/q.2=.z))
theorem FinsOk.cons {i:Nat} {e d:D×Fl} {ps fs:List (D×Fl)} (h:FinsOk Z (i+1) ps fs) (hz:e.2=.z->d=e) (g:e.2≠.z->(Z[i]?).join=some d/\(d.2=e.2\/d.2=.z)):FinsOk Z i (e::ps) (d::fs):=by
 refine #[by rw[FO,FO,h.1],λk p f=>?_]
 cases k with
 | zero=>cases f;exact #[d,rfl,hz,g]
 | succ k =>
  obtain ⟨q,a,b,c⟩:=h.2 k p f
  grind
theorem jS:∀ {i:Nat} {ps:List (D×Fl)} {fs:List (D×Fl)},dM Z i ps=some fs->FinsOk Z i ps fs
 | i,[],fs,e=>by cases e;exact #[rfl,λk p h=>by cases h]
 | i,p0::ps,fs,e=>by
  obtain ⟨d,f⟩:=p0
  have key:f≠.z->(match (Z[i]?).join,dM Z (i+1) ps with
    | some (d',a),some r=>if a=f\/a=.z then some ((d',a)::r) else none
    | _,_=>none)=some fs->FinsOk Z i ((d,f)::ps) fs:=λhf e=>by
   cases h:(Z[i]?).join with
   | none=>rw[h] at e;exact nsE e
   | some p0 =>
    cases h2:dM Z (i+1) ps with
    | none=>rw[h,h2] at e;exact nsE e
    | some r =>
     rw[h,h2] at e
     obtain ⟨d',a⟩:=p0
     dsimp only at e
     rcases Decidable.em (a=f\/a=.z) with b | b
     .rw[if_pos b] at e
      cases e
      exact (jS h2).cons (λz=>absurd z hf) λ_=>#[h,b]
     .rw[if_neg b] at e;exact nsE e
  cases f with
  | z =>
   obtain ⟨r,h,h'⟩:=Fh.mp (show (dM Z (i+1) ps).map (λr=>(d,Fl.z)::r)=some fs from e)
   subst h'
   exact (jS h).cons (λ_=>rfl) λn=>absurd rfl n
  | u=>exact key (by intro q;cases q) e
  | l=>exact key (by intro q;cases q) e
theorem j8 {P:Nat->α->β->Prop}:∀ (l:List α) (i:Nat),(∀ (k:Nat) a,l[k]?=some a->∃ b,P (i+k) a b)->∃ m:List β,m.length=l.length/\∀ (k:Nat) a,l[k]?=some a->∃ b,m[k]?=some b/\P (i+k) a b
 | [],i,_=>#[[],rfl,λk a h=>by simp at h]
 | a::l,i,h=>by
  obtain ⟨b,j⟩:=h 0 a rfl
  obtain ⟨m,h1,h2⟩:=j8 l (i+1) λk a e=>by
   have:=h (k+1) a (by simpa using e)
   rwa [show i+(k+1)=i+1+k by lia] at this
  refine #[b::m,by simp[h1],λk c e=>?_]
  cases k with
  | zero=>simp at e;subst e;exact #[b,rfl,j]
  | succ k =>
   obtain ⟨d,e1,f⟩:=h2 k c (by simpa using e)
   exact #[d,by simpa using e1,by rwa [show i+(k+1)=i+1+k by lia]]
theorem Paired.ofGet:∀ {l:List α} {m:List β},l.length=m.length->(∀ (k:Nat) a b,l[k]?=some a->m[k]?=some b->F a b)->Paired F l m
 | [],[],_,_=>.nil
 | [],_::_,h,_=>by cases h
 | _::_,[],h,_=>by cases h
 | a::l,b::m,h,f=>.cons (f 0 a b rfl rfl) (Paired.ofGet (by simpa using h) λk a b e1 j=>f (k+1) a b (by simpa using e1) (by simpa using j))
theorem kc {n:Nat} {pr:Nat->Bool} {U0:St} {ps:List It3} {fs:List (D×Fl)} (ha:∀ p∈ps,Arg K H p) (I:ps.Pairwise Apart3) (O:∀ (i:Nat) (p:It3),ps[i]?=some p->p.f≠.z->pr i=true) (h0:∀ (i:Nat) (p:It3),ps[i]?=some p->U0[i]?=some (some p.v))
  (w:Wf K (gOf H pr U0 ps) H' U Z T g) (e:dM Z 0 (ps.map λp=>(p.d,p.f))=some fs) :
  ∃ qs,BehindX K H H' ps qs/\qs.map (λq=>(q.d,q.f))=fs/\(∀ (k:Nat) (p q:It3),ps[k]?=some p->qs[k]?=some q->(p.f=.z/\q=p)\/(p.f≠.z/\g k=some q)):=by
 obtain ⟨hl,hs⟩:=jS e
 rw[Ft] at hl
 have frame:∀ b o,H b=some o->(∀ p∈ps,p.f=.u->p.v≠.ref b)->H' b=some o:=λb o t J=>w.base b o t λ#[p,hm,hf,x]=>J p hm hf x
 have there:∀ b o,H b=some o->∃ o',H' b=some o':=λb o t=>w.fx.ob b o t
 have F:∀ (k:Nat) (p:It3),ps[k]?=some p->p.f=.z->Rep K H' p.d p.v p.L:=λk p l hz=>by
  refine (ha p (Fv l)).rep.keep (M:=λb=>∃ p∈ps,p.f=.u/\p.v=.ref b) (λb o t J=>frame b o t λp I hf x=>J #[p,I,hf,x]) (λb #[B,hm,hf,x]=>?_) λb t #[B,hm,hf,x]=>?_
  .obtain ⟨_,a,L',v1,v2,_⟩:=(ha B hm).own (by rw[hf];intro q;cases q)
   rw[x] at v1;cases v1
   exact (ha B hm).rep.inH b (by rw[v2];exact Fe)
  .obtain ⟨j,S,G⟩:=List.mem_iff_getElem.mp hm
   have A:ps[j]?=some B:=by rw[Fo S,G]
   have jk:j≠k:=λz=>by subst z;rw[l] at A;cases A;rw[hz] at hf;cases hf
   exact (cA I (λ_ _=>Apart3.symm) jk A l).1 (by rw[hf];intro q;cases q) b x t
 have one:∀ (k:Nat) (p:It3),ps[k]?=some p->∃ q,(q.d,q.f)=(fs[k]?).getD (p.d,p.f)/\fs[k]?=some (q.d,q.f)/\Back1 K H H' ps p q/\((p.f=.z/\q=p)\/(p.f≠.z/\g k=some q)):=λk p l=>by
  have hm:=Fv l
  obtain ⟨V,f1,f2,f3⟩:=hs k (p.d,p.f) (by rw[Fz,l];rfl)
  by_cases hz:p.f=.z
  .have:=f2 hz
   subst this
   refine #[p,by rw[f1];rfl,f1,#[λ_=>rfl,rfl,.inl rfl,#[F k p l hz,λh=>absurd hz h],λc R=>.inr #[p,hm,R],λh=>?_],.inl #[hz,rfl]]
   rw[hz] at h;cases h
  .obtain ⟨h1,h2⟩:=f3 hz
   rw[FK] at h1
   obtain ⟨y,τ,X,Q,y4⟩:=w.slot (d:=V.1) (f:=V.2) h1
   have x:y.v=p.v:=by
    have:=w.pro k (O k p l hz)
    rw[y4] at this
    have h0:some (some y.v)=some (some p.v):=this.trans (h0 k p l)
    injection h0 with h0
    injection h0
   have ok:=w.okS k y τ
   refine #[y,by rw[f1,X,Q];rfl,by rw[f1,X,Q],#[λh=>absurd h hz,x,by rw[Q];exact h2,#[ok.rep,λhf=>?_],λc R=>ok.src c R,λhf b t=>?_],.inr #[hz,τ]]
   .obtain ⟨m,a,L',v1,v2,v3,_⟩:=ok.own hf
    exact #[m,a,L',v1,v2,v3]
   .obtain ⟨_,a,L',v1,v2,_⟩:=(ha p hm).own hz
    rw[t] at v1;cases v1
    obtain ⟨o,ho⟩:=((ha p hm).rep.inH b (by rw[v2];exact Fe)).ex
    exact there b o ho
 obtain ⟨qs,hq,E⟩:=j8 (P:=λk p q=>fs[k]?=some (q.d,q.f)/\Back1 K H H' ps p q/\((p.f=.z/\q=p)\/(p.f≠.z/\g k=some q))) ps 0 λk p l=>by
  obtain ⟨q,_,a,b,c⟩:=one k p l
  exact #[q,by simpa using #[a,b,c]]
 have get:∀ (k:Nat) (p q:It3),ps[k]?=some p->qs[k]?=some q->fs[k]?=some (q.d,q.f)/\Back1 K H H' ps p q/\((p.f=.z/\q=p)\/(p.f≠.z/\g k=some q)):=λk p q s eq=>by
  obtain ⟨q',e1,e2⟩:=E k p s
  rw[eq] at e1
  cases e1
  simpa using e2
 have par:∀ (k:Nat) (q:It3),qs[k]?=some q->∃ p,ps[k]?=some p:=λk q e=>by
  have W:=(Fu.mp e).1
  exact #[ps[k]'(by lia),by simp[show k < ps.length by lia]]
 refine #[qs,#[frame,Paired.ofGet hq.symm λk p q s eq=>(get k p q s eq).2.1,?_],?_,λk p q s eq=>(get k p q s eq).2.2]
 .rw[List.pairwise_iff_getElem]
  intro k j W S lt
  have l:qs[k]?=some qs[k]:=Fo W
  have G:qs[j]?=some qs[j]:=Fo S
  have side:∀ (k j:Nat) (q r:It3),k≠j->qs[k]?=some q->qs[j]?=some r->NoRoot q r:=λk j q r n eq ρ=>by
   obtain ⟨p,s⟩:=par k q eq
   obtain ⟨B,C⟩:=par j r ρ
   obtain ⟨_,b,c⟩:=get k p q s eq
   obtain ⟨_,b',c'⟩:=get j B r C ρ
   rcases c with ⟨hz,e⟩ | ⟨hz,e⟩
   .rw[e];exact λh=>absurd hz h
   .rcases c' with ⟨σ,N⟩ | ⟨σ,N⟩
    .rw[N]
     intro hf a ea
     exact (cA I (λ_ _=>Apart3.symm) n s C).1 hz a (by rw[<- b.v];exact ea)
    .exact w.ss k j q r n e N
  exact #[side k j _ _ (FD lt) l G,side j k _ _ (Nat.ne_of_gt lt) G l]
 .refine List.ext_getElem? λk=>?_
  rw[Fz]
  cases eq:qs[k]? with
  | none =>
   have:qs.length<=k:=List.getElem?_eq_none_iff.mp eq
   rw[List.getElem?_eq_none (by lia)]
   rfl
  | some q =>
   obtain ⟨p,s⟩:=par k q eq
   rw[(get k p q s eq).1]
   rfl
theorem lG {n:Nat} {pr:Nat->Bool} {U0:St} {ps:List It3} {fs:List (D×Fl)} (ha:∀ p∈ps,Arg K H p) (s:ps.Pairwise Apart3) (j:∀ (i:Nat) (p:It3),ps[i]?=some p->p.f≠.z->pr i=true) (h0:∀ (i:Nat) (p:It3),ps[i]?=some p->U0[i]?=some (some p.v))
  (w:Wf K (gOf H pr U0 ps) H' U Z (x::T) g) (e:dM Z 0 (ps.map λp=>(p.d,p.f))=some fs):∃ qs,Behind K H H' ps qs x/\qs.map (λq=>(q.d,q.f))=fs:=by
 obtain ⟨qs,B,f,A⟩:=kc (n:=n) ha s j h0 w e
 have ok:=w.okT x Fe
 refine #[qs,#[B,ok.rep,λhf=>?_,λc t=>ok.src c t,λq u=>?_],f]
 .obtain ⟨m,a,L',v1,v2,y,_⟩:=ok.own hf
  exact #[m,a,L',v1,v2,y,w.fx.frT x Fe hf a v1]
 .obtain ⟨k,F,E⟩:=List.mem_iff_getElem.mp u
  have eq:qs[k]?=some q:=by rw[Fo F,E]
  obtain ⟨p,r,b⟩:=Paired.exR B.back eq
  rcases A k p q r eq with ⟨hz,e⟩ | ⟨hz,e⟩
  .rw[e]
   refine #[λhf a C hm=>?_,λh=>absurd hz h]
   have h1:=w.fx.frT x Fe hf a C
   obtain ⟨o,l⟩:=((ha p (Fv r)).rep.inH a hm).ex
   have h2:H a=none:=h1
   rw[h2] at l;exact nsE l
  .exact (w.st k q e x Fe).symm
end
def cQ:Fl->Fl
 | .u=>.l
 | f=>f
def bz (x:It3):It3:={ x with f:=cQ x.f }
def fR:Fl->Fl
 | .l=>.u
 | f=>f
def zq (x:It3):It3:={ x with f:=fR x.f }
def k9 (h:Fl->Fl) (i:Nat) (Z:Sto):Sto:=match (Z[i]?).join with
 | some (d,f)=>Z.set i (some (d,h f))
 | none=>Z
def aO (h:Fl->Fl) (is:List Nat) (Z:Sto):Sto:=is.foldl (λZ i=>k9 h i Z) Z
def us (Z:Sto) (is:List Nat):List Nat:=is.filter λi=>match (Z[i]?).join with
 | some (_,.u)=>true
 | _=>false
theorem lentF_z:cQ f=.z ↔ f=.z:=by cases f <;> simp[cQ]
theorem unlF_z:fR f=.z ↔ f=.z:=by cases f <;> simp[fR]
theorem tv (f:Fl):cQ f≠.u:=by cases f <;> simp[cQ]
theorem Ck (f:Fl):fR f≠.l:=by cases f <;> simp[fR]
section
variable {K:FG} {G G0:Gm} {W W0:D->Sto->Prop} {H H':Hp} {U:St} {Z Z':Sto} {T T':List It3} {g:Nat->Option It3} {x y z:It3} {α β:Type}
theorem rC {i j:Nat}:((k9 h i Z)[j]?).join=if j=i then ((Z[j]?).join).map (λp=>(p.1,h p.2)) else (Z[j]?).join:=by
 unfold k9
 grind
theorem uU {i:Nat}:(k9 h i Z).length=Z.length:=by
 unfold k9
 split
 .rw[List.length_set]
 .rfl
theorem ge (a:∀ f,h (h f)=h f):∀ {is:List Nat} {Z:Sto} {j:Nat},((aO h is Z)[j]?).join=if j∈is then ((Z[j]?).join).map (λp=>(p.1,h p.2)) else (Z[j]?).join
 | [],Z,j=>by simp[aO]
 | i::is,Z,j=>by
  have e:aO h (i::is) Z=aO h is (k9 h i Z):=rfl
  rw[e,ge a,rC]
  by_cases q:j=i
  .subst q
   by_cases m:j∈is
   .rw[if_pos m,if_pos rfl,if_pos Fe]
    cases (Z[j]?).join with
    | none=>rfl
    | some p=>simp[a]
   .rw[if_neg m,if_pos rfl,if_pos Fe]
  .by_cases m:j∈is
   .rw[if_pos m,if_neg q,if_pos (Ff _ m)]
   .rw[if_neg m,if_neg q,if_neg (λz=>(Fm.mp z).elim q m)]
theorem iS:∀ {is:List Nat} {Z:Sto},(aO h is Z).length=Z.length
 | [],Z=>rfl
 | i::is,Z=>by
  have e:aO h (i::is) Z=aO h is (k9 h i Z):=rfl
  rw[e,iS,uU]
def dU (G:Gm) (H:Hp) (g:Nat->Option It3) (is:List Nat):Gm :=
 #[H,λb=>∃ j y,j ∉ is/\g j=some y/\y.f=.u/\y.v=.ref b,G.pr,G.U0,G.orig,λc=>G.H0 c=none\/G.src c,λj=>if j∈is then (g j).map (·.v) else G.lv j]
structure Fk (x y:It3):Prop where
 d:y.d=x.d
 v:y.v=x.v
 L:y.L=x.L
 z:y.f=.z ↔ x.f=.z
theorem Fk.noRoot (a:Fk x x') (b:Fk y y') (h:NoRoot x y):NoRoot x' y':=λhf c e=>by
 rw[b.L]
 exact h (λq=>hf (a.z.mpr q)) c (by rw[<- a.v];exact e)
theorem Fk.apart (a:Fk x x') (b:Fk y y') (h:Apart3 x y):Apart3 x' y':=#[a.noRoot b h.1,b.noRoot a h.2]
theorem Fk.refl (x:It3):Fk x x:=#[rfl,rfl,rfl,Iff.rfl]
theorem kD (x:It3):Fk x (bz x):=#[rfl,rfl,rfl,lentF_z]
theorem EL (x:It3):Fk x (zq x):=#[rfl,rfl,rfl,unlF_z]
theorem qc {o:Option It3} {h:Fl->Fl} (e:o.map (λx=>(x.d,x.f))=p):(o.map λx=>{ x with f:=h x.f }).map (λx:It3=>(x.d,x.f))=p.map λp=>(p.1,h p.2):=by
 subst e
 cases o <;> rfl
theorem Wf.enter (w:Wf K G H U Z T g) (is:List Nat):Wf K (dU G H g is) H U (aO cQ is Z) (T.map bz) (λj=>if j∈is then (g j).map bz else g j):=by
 have val:∀ j u,(if j∈is then (g j).map bz else g j)=some u->∃ l,g j=some l/\Fk l u/\((j∈is/\u=bz l)\/(j ∉ is/\u=l)):=λj u h=>by
  by_cases q:j∈is
  .rw[if_pos q] at h
   obtain ⟨l,e1,x⟩:=Fh.mp h
   subst x
   exact #[l,e1,kD l,.inl #[q,rfl]]
  .rw[if_neg q] at h
   exact #[u,h,Fk.refl u,.inr #[q,rfl]]
 refine #[by rw[iS];exact w.len,λj=>?_,λj u h=>?_,λj u h=>?_,λu hu=>?_,λi j a b n ha p=>?_,λj a h b p=>?_,?_,λb o e _=>e,w.pro,#[λu hu hf a t=>?_,λj u h A hf a t=>?_,λb p=>?_,w.fx.ob,λj u h hl=>?_]]
 .rw[ge (by intro f;cases f <;> rfl)]
  by_cases q:j∈is
  .rw[if_pos q,if_pos q];exact qc (w.sl j)
  .rw[if_neg q,if_neg q];exact w.sl j
 .obtain ⟨l,e,k,_⟩:=val j u h
  rw[k.v];exact w.sv j l e
 .obtain ⟨l,e,k,c⟩:=val j u h
  have ok:=w.okS j l e
  refine #[by rw[k.d,k.v,k.L];exact ok.rep,λhf=>?_,λc r=>.inr (ok.src c (by rw[<- k.L];exact r))]
  obtain ⟨m,a,L',v1,v2,s,_⟩:=ok.own (λq=>hf (k.z.mpr q))
  refine #[by rw[k.d];exact m,a,L',by rw[k.v];exact v1,by rw[k.L];exact v2,s,λhu=>?_]
  rcases c with ⟨_,rfl⟩ | ⟨B,rfl⟩
  .exact absurd hu (tv _)
  .exact .inr #[j,u,B,e,hu,v1]
 .obtain ⟨l,h0,rfl⟩:=Fy.mp hu
  have ok:=w.okT l h0
  refine #[ok.rep,λhf=>?_,λc r=>.inr (ok.src c r)]
  obtain ⟨m,a,L',v1,v2,s,_⟩:=ok.own (λq=>hf (lentF_z.mpr q))
  exact #[m,a,L',v1,v2,s,λhu=>absurd hu (tv _)]
 .obtain ⟨a0,e1,k1,_⟩:=val i a ha
  obtain ⟨b0,x,k2,_⟩:=val j b p
  exact k1.noRoot k2 (w.ss i j a0 b0 n e1 x)
 .obtain ⟨a0,e1,k1,_⟩:=val j a h
  obtain ⟨b0,h0,rfl⟩:=Fy.mp p
  exact k1.apart (kD b0) (w.st j a0 e1 b0 h0)
 .rw[List.pairwise_map]
  exact w.tt.imp λ{a b} h=>(kD a).apart (kD b) h
 .obtain ⟨l,h0,rfl⟩:=Fy.mp hu
  exact w.fx.frT l h0 (λq=>hf (lentF_z.mpr q)) a t
 .obtain ⟨l,e,k,_⟩:=val j u h
  exact w.fx.frS j l e A (λq=>hf (k.z.mpr q)) a (by rw[<- k.v];exact t)
 .obtain ⟨j,y,_,e,hf,C⟩:=p
  obtain ⟨_,a,L',v1,v2,_⟩:=(w.okS j y e).own (by rw[hf];intro q;cases q)
  rw[C] at v1;cases v1
  exact ((w.okS j y e).rep.inH b (by rw[v2];exact Fe)).ex
 .obtain ⟨l,e,k,c⟩:=val j u h
  show (if j∈is then (g j).map (·.v) else G.lv j)=_
  rcases c with ⟨q,rfl⟩ | ⟨q,rfl⟩
  .rw[if_pos q,e];rfl
  .rw[if_neg q];exact w.fx.lvS j u e hl
theorem Wf.leave (w:Wf K G H U Z T g) (F:∀ i∈is,∀ y,g i=some y->y.f=.u) (I:T'.Sublist T) (p:Wf K (dU G H g is) H' U' Z2 (R++T'.map bz) g2) :
  Wf K G H' U' (aO fR is Z2) (R++T') (λj=>if j∈is then (g2 j).map zq else g2 j):=by
 have val:∀ j u,(if j∈is then (g2 j).map zq else g2 j)=some u->∃ r,g2 j=some r/\Fk r u/\((j∈is/\u=zq r)\/(j ∉ is/\u=r)):=λj u h=>by
  by_cases q:j∈is
  .rw[if_pos q] at h
   obtain ⟨r,e1,D⟩:=Fh.mp h
   subst D
   exact #[r,e1,EL r,.inl #[q,rfl]]
  .rw[if_neg q] at h
   exact #[u,h,Fk.refl u,.inr #[q,rfl]]
 have may:∀ a,H a=none\/(∃ j y,j ∉ is/\g j=some y/\y.f=.u/\y.v=.ref a)->G.H0 a=none\/G.bw a:=λa h=>by
  rcases h with h | ⟨j,y,_,e,hf,X⟩
  .exact .inl (w.h0none h)
  .obtain ⟨_,σ,L',v1,_,_,v4⟩:=(w.okS j y e).own (by rw[hf];intro q;cases q)
   rw[X] at v1;cases v1
   exact v4 hf
 have t:∀ c,H c=none\/(G.H0 c=none\/G.src c)->G.H0 c=none\/G.src c:=λc h=>by
  rcases h with h | h
  .exact .inl (w.h0none h)
  .exact h
 have J:∀ x∈T',x∈T:=λx O=>I.subset O
 have E:∀ b o,H b=some o->∃ o',H' b=some o':=λb o s=>by
  by_cases q:∃ j y,j ∉ is/\g j=some y/\y.f=.u/\y.v=.ref b
  .exact p.fx.bin b q
  .exact #[o,p.base b o s q]
 refine #[by rw[iS];exact p.len,λj=>?_,λj u h=>?_,λj u h=>?_,λu hu=>?_,λi j a b n ha s=>?_,λj a h b s=>?_,?_,λb o e n=>?_,p.pro,#[λu hu=>?_,λj u h Q hf a W=>?_,λb s=>?_,p.fx.ob,λj u h hl=>?_]]
 .rw[ge (by intro f;cases f <;> rfl)]
  by_cases q:j∈is
  .rw[if_pos q,if_pos q];exact qc (p.sl j)
  .rw[if_neg q,if_neg q];exact p.sl j
 .obtain ⟨r,e,k,_⟩:=val j u h
  rw[k.v];exact p.sv j r e
 .obtain ⟨r,e,k,c⟩:=val j u h
  have ok:=p.okS j r e
  refine #[by rw[k.d,k.v,k.L];exact ok.rep,λhf=>?_,λc B=>t c (ok.src c (by rw[<- k.L];exact B))]
  obtain ⟨m,a,L',v1,v2,C,v4⟩:=ok.own (λq=>hf (k.z.mpr q))
  refine #[by rw[k.d];exact m,a,L',by rw[k.v];exact v1,by rw[k.L];exact v2,C,λhu=>?_]
  rcases c with ⟨q,rfl⟩ | ⟨τ,rfl⟩
  .cases A:r.f with
   | u=>exact may a (v4 A)
   | l =>
    have hl:=p.fx.lvS j r e A
    have hl:(if j∈is then (g j).map (·.v) else G.lv j)=some r.v:=hl
    rw[if_pos q] at hl
    obtain ⟨y,N,ev⟩:=Fh.mp hl
    have M:=F j q y N
    obtain ⟨_,σ,V,b1,_,_,S⟩:=(w.okS j y N).own (by rw[M];intro q;cases q)
    rw[ev,v1] at b1;cases b1
    exact S M
   | z=>exact absurd (unlF_z.mpr A) hf
  .exact may a (v4 hu)
 .rcases Fq.mp hu with hu | hu
  .have ok:=p.okT u (Fi _ hu)
   refine #[ok.rep,λhf=>?_,λc B=>t c (ok.src c B)]
   obtain ⟨m,a,L',v1,v2,C,v4⟩:=ok.own hf
   exact #[m,a,L',v1,v2,C,λh=>may a (v4 h)]
  .have ok:=w.okT u (J u hu)
   exact #[(p.okT (bz u) (Fj _ (Fy.mpr #[u,hu,rfl]))).rep,ok.own,ok.src]
 .obtain ⟨a0,e1,k1,_⟩:=val i a ha
  obtain ⟨b0,D,k2,_⟩:=val j b s
  exact k1.noRoot k2 (p.ss i j a0 b0 n e1 D)
 .obtain ⟨a0,e1,k1,_⟩:=val j a h
  rcases Fq.mp s with s | s
  .exact k1.apart (Fk.refl b) (p.st j a0 e1 b (Fi _ s))
  .have:=p.st j a0 e1 (bz b) (Fj _ (Fy.mpr #[b,s,rfl]))
   exact k1.apart (y:=bz b) #[rfl,rfl,rfl,lentF_z.symm] this
 .have h:=List.pairwise_append.mp p.tt
  refine List.pairwise_append.mpr #[h.1,w.tt.sublist I,λa ha b s=>?_]
  exact (Fk.refl a).apart (y:=bz b) #[rfl,rfl,rfl,lentF_z.symm] (h.2.2 a ha (bz b) (Fy.mpr #[b,s,rfl]))
 .have s:=w.base b o e n
  refine p.base b o s λq=>?_
  rcases may b (.inr q) with h | h
  .rw[e] at h;cases h
  .exact n h
 .rcases Fq.mp hu with hu | hu
  .exact p.fx.frT u (Fi _ hu)
  .exact w.fx.frT u (J u hu)
 .obtain ⟨r,e,k,_⟩:=val j u h
  exact p.fx.frS j r e Q (λq=>hf (k.z.mpr q)) a (by rw[<- k.v];exact W)
 .obtain ⟨o,P⟩:=w.fx.bin b s
  exact E b o P
 .obtain ⟨r,e,k,c⟩:=val j u h
  rcases c with ⟨q,rfl⟩ | ⟨q,rfl⟩
  .exact absurd hl (Ck _)
  .have:=p.fx.lvS j u e hl
   have this:(if j∈is then (g j).map (·.v) else G.lv j)=some u.v:=this
   rw[if_neg q] at this
   exact this
theorem A4 (w:Wf K G H U Z T g) (b:∀ i∈is,∀ y,g i=some y->y.f=.u):∀ (H':Hp) (U':St) (Z2:Sto) (a:List It3) (g2:Nat->Option It3),Wf K (dU G H g is) H' U' Z2 a g2->∃ g3,Wf K G H' U' (aO fR is Z2) [] g3 :=
 λH' U' Z2 a g2 c=>#[_,by simpa using Wf.leave (T':=[]) (R:=[]) w b (List.nil_sublist T) (by simpa using c.sub (List.nil_sublist a))]
end
section
variable {K:FG} {G G0:Gm} {W W0:D->Sto->Prop} {H H':Hp} {U:St} {Z Z':Sto} {T T':List It3} {g:Nat->Option It3} {x y z:It3} {α β:Type}
def Walk (K:FG) (J:It) (H1:Hp) (ys:List It3) (ds:List D):Prop:=∃ els:List It3,(∀ x∈els,x.f=.z/\Rep K H1 x.d x.v x.L/\∀ c∈x.L,dE ys c) /\
 ∀ (M:Addr->Prop) (H':Hp),(∀ b,M b->MutAt H1 b)->(∀ b o,H1 b=some o->¬ M b->H' b=some o)->(∀ y∈ys,∀ b∈y.L,¬ M b) ->
  (∀ (i:Nat) (d:D),ds[i]?=some d->J.go i H'/\∀ x a,J.yld i H' x a->∃ w,New K H' a (cY els) w/\w.d=d/\w.f=.z/\w.v=x)/\J.stop ds.length H'
abbrev IM:=M3 (List R3×List D)
def EndI (K:FG) (G:Gm) (W:D->Sto->Prop) (U:St) (T:List It3) (Z':Sto) (R:It->Hp->Prop):Except D (List R3×List D)->Prop
 | .ok p=>∀ J H1 vs Ts g1 ys,Wf K G H1 U Z' (Ts++T) g1->Ars U p.1 vs Ts->(∀ y∈ys,(∃ i,i∈pls p.1/\g1 i=some y)\/y∈Ts)->Walk K J H1 ys p.2->R J H1
 | .error e=>W e Z'
def tI (K:FG) (G0:Gm) (W0:D->Sto->Prop) (m:IM):TI:=λU H R=>∃ G W,Le K G W G0 W0/\∃ Z T g r Z',Wf K G H U Z T g/\m Z=some (r,Z')/\EndI K G W U T Z' R r
theorem tI.seq (le:Le K G W G0 W0) (w:Wf K G H U Z T g) (e:ai m k Z=some (r,Z')) (he:∀ x,r=.error x->W x Z') (h:∀ p Z1,k p Z1=some (r,Z')->EndI K G W U T Z1 P (.ok p)):tI K G0 W0 m U H P:=by
 unfold ai at e
 cases q:m Z with
 | none=>rw[q] at e;exact nsE e
 | some p =>
  obtain ⟨o,Z1⟩:=p
  rw[q] at e
  cases o with
  | error x=>cases e;exact #[G,W,le,Z,T,g,.error x,Z',w,q,he x rfl]
  | ok ra=>exact #[G,W,le,Z,T,g,.ok ra,Z1,w,q,h ra Z1 e]
def Bnd (K:FG) (pr:Nat->Bool) (tg:TG) (bnd:D->Sto->Option Sto):Prop:=∀ (G:Gm) (H:Hp) (U:St) (Z Z1:Sto) (T:List It3) (g:Nat->Option It3) (w:It3) (Q:St->Hp->Prop),G.pr=pr->w.f=.z->Wf K G H U Z (w::T) g->bnd w.d Z=some Z1 ->
 (∀ U2 g2,Wf K G H U2 Z1 T g2->Q U2 H)->tg w.v U H Q
def aC (i:Nat) (d:D) (Z:Sto):Option Sto:=if i < Z.length then some (Z.set i #v[d]) else none
set_option tactic.hygienic true in
theorem eT {i:Nat} (b:pr i=false):Bnd K pr (tN i) (aC i):=λG H U Z Z1 T g w Q a hz wf e q=>by
 unfold aC at e
 split at e
 .rename_i hi
  cases e
  exact q _ _ (wf.store (f:=.z) hi (by rw[a];exact b) (.inr rfl) (by intro h;cases h))
 .exact nsE e
def zm (K:FG) (pr:Nat->Bool) (tg:TGs) (bnd:List D->Sto->Option Sto):Prop:=∀ (G:Gm) (H:Hp) (U:St) (Z Z1:Sto) (T:List It3) (g:Nat->Option It3) (ws:List It3) (Q:St->Hp->Prop),G.pr=pr->(∀ w∈ws,w.f=.z)->Wf K G H U Z (ws++T) g->bnd (ws.map (·.d)) Z=some Z1 ->
 (∀ U2 g2,Wf K G H U2 Z1 T g2->Q U2 H)->tg (ws.map (·.v)) U H Q
def fB:List D->Sto->Option Sto
 | [],Z=>some Z
 | _,_=>none
def a9 (b:D->Sto->Option Sto) (bs:List D->Sto->Option Sto):List D->Sto->Option Sto
 | [],_=>none
 | d::ds,Z=>match b d Z with
  | some Z1=>bs ds Z1
  | none=>none
theorem lF:zm K pr EI fB:=λG H U Z Z1 T g ws Q _ _ wf e q=>by
 cases ws with
 | nil=>cases e;exact #[rfl,q _ _ wf]
 | cons w ws=>exact nsE e
theorem eS (h1:Bnd K pr tg b) (h2:zm K pr tgs bs):zm K pr (tO tg tgs) (a9 b bs):=λG H U Z Z1 T g ws Q a hz wf e q=>by
 cases ws with
 | nil=>exact nsE e
 | cons w ws =>
  have e:(match b w.d Z with | some Z1=>bs (ws.map (·.d)) Z1 | none=>none)=some Z1:=e
  cases c:b w.d Z with
  | none=>rw[c] at e;exact nsE e
  | some Z2 =>
   rw[c] at e
   exact #[w.v,ws.map (·.v),rfl,h1 G H U Z Z2 (ws++T) g w _ a (hz w Fe) wf c λU2 g2 h=>h2 G H U2 Z2 Z1 T g2 ws Q a (λx f=>hz x (Ff _ f)) h e q]
def gz (n:Nat) (bs:List D->Sto->Option Sto):D->Sto->Option Sto
 | .tup ds,Z=>if ds.length=n then bs ds Z else none
 | _,_=>none
theorem Reps.split:∀ {ds:List D} {vs:List V} {L:List Addr},Reps (Rep K H) ds vs L->∃ ws:List It3,ws.map (·.d)=ds/\ws.map (·.v)=vs/\(∀ w∈ws,w.f=.z/\Rep K H w.d w.v w.L/\∀ c∈w.L,c∈L)
 | _,_,_,.nil=>#[[],rfl,rfl,λ_ h=>(by cases h)]
 | _,_,_,.cons (d:=d) (v:=v) (L:=L) r rs=>by
  obtain ⟨ws,h1,h2,h3⟩:=Reps.split rs
  refine #[#[d,v,L,.z]::ws,by simp[h1],by simp[h2],λw hw=>?_]
  rcases Fm.mp hw with h | h
  .subst h;exact #[rfl,r,λc a=>Fi _ a]
  .exact #[(h3 w h).1,(h3 w h).2.1,λc a=>Fj _ ((h3 w h).2.2 c a)]
theorem Wf.pushAll:∀ {ws:List It3} {T:List It3},Wf K G H U Z T g->(∀ w∈ws,w.f=.z/\Rep K H w.d w.v w.L/\∀ c∈w.L,dN T g c/\(G.H0 c=none\/G.src c))->Wf K G H U Z (ws++T) g
 | [],T,w,_=>w
 | x::ws,T,w,h=>by
  have j:=Wf.pushAll (ws:=ws) w λy a=>h y (Ff _ a)
  obtain ⟨hz,e,b⟩:=h x Fe
  refine j.push (Ks:=λc=>c∈x.L) #[Same.refl _,e,λc h=>.inr h,λq=>absurd hz q] λc m=>#[#[(b c m).1.1,λy a hf=>?_],(b c m).2]
  rcases Fq.mp a with q | q
  .exact absurd (h y (Ff _ q)).1 hf
  .exact (b c m).1.2 y q hf
set_option tactic.hygienic true in
theorem oZ {n:Nat} (h2:zm K pr tgs bs):Bnd K pr (Bb K n tgs) (gz n bs):=λG H U Z Z1 T g w Q j hz wf e q=>by
 have r:=(wf.okT w Fe).rep
 obtain ⟨d,v,L,f⟩:=w
 cases r with
 | @tup xs a vs _ hs rs =>
  have e:(if xs.length=n then bs xs Z else none)=some Z1:=e
  split at e
  .rename_i hl
   obtain ⟨ws,h1,h3,h⟩:=Reps.split rs
   refine #[a,vs,rfl,SqT.of hs,?_,?_]
   .rw[<- h3,Ft,<- hl,<- h1,Ft]
   .have m:Wf K G H U Z (ws++(#[.tup xs,.ref a,L,f]::T)) g:=wf.pushAll λu hu=>#[(h u hu).1,(h u hu).2.1,λc k=>#[wf.kid (y:=#[.tup xs,.ref a,L,f]) (.inr Fe) ((h u hu).2.2 c k) λhf=>absurd hz hf,(wf.okT _ Fe).src c ((h u hu).2.2 c k)]]
    have l:Wf K G H U Z (ws++T) g:=m.sub ((List.Sublist.refl ws).append (List.sublist_cons_self _ _))
    rw[<- h3]
    exact h2 G H U Z Z1 T g ws Q j (λu hu=>(h u hu).1) l (by rw[h1];exact e) q
  .exact nsE e
 | non=>exact nsE e
 | bl b=>exact nsE e
 | int i=>exact nsE e
 | str s=>exact nsE e
 | lst _ _=>exact nsE e
 | lstF _ _=>exact nsE e
 | dK _ _ _=>exact nsE e
 | dT _ _ _=>exact nsE e
 | exc _ _=>exact nsE e
 | excV _ _ _ _ _ _ _ _=>exact nsE e
 | desk _ _ _ _=>exact nsE e
noncomputable def bZ (bnd:D->Sto->Option Sto) (b:SM):List D->SM
 | []=>bb .nx
 | d::ds=>λZ=>match bnd d Z with
  | none=>none
  | some Z1=>ai b (λf=>match f with
   | .nx=>bZ bnd b ds
   | .ct=>bZ bnd b ds
   | .br=>bb .nx
   | .rt d f=>bb (.rt d f)) Z1
noncomputable def dI (im:IM) (bnd:D->Sto->Option Sto) (b:SM):SM:=ai im λp=>λZ=>(bZ bnd b p.2 (aO cQ (us Z (pls p.1)) Z)).map λr=>(r.1,aO fR (us Z (pls p.1)) r.2)
theorem us_u (w:Wf K G H U Z T g):∀ i∈us Z is,∀ y,g i=some y->y.f=.u:=λi hi y a=>by
 have h:=(FV.mp hi).2
 have s:=w.sl i
 rw[a] at s
 have s:some (y.d,y.f)=(Z[i]?).join:=s
 rw[<- s] at h
 cases hf:y.f with
 | u=>rfl
 | l=>rw[hf] at h;cases h
 | z=>rw[hf] at h;cases h
theorem vU {i:Nat} (w:Wf K G H U Z T g) (hi:i∈is) (a:g i=some y) (hf:y.f=.u):i∈us Z is:=by
 refine FV.mpr #[hi,?_]
 have s:=w.sl i
 rw[a] at s
 have s:some (y.d,y.f)=(Z[i]?).join:=s
 rw[<- s,hf]
theorem CA (σ:Bnd K G0.pr tg bnd) (h:tS K G0 W0 (dI im bnd b) E U H):tFor (tI K G0 W0 im) tg (tS K G0 W0 b) E U H:=by
 refine h.use λG W le Z T g r Z' w e q=>?_
 refine tI.seq le w e q.err λp Z1 e1=>?_
 intro J H1 vs Ts g1 ys t a1 az hw
 have S:=us_u (is:=pls p.1) t
 have ae:∀ i y,i∈pls p.1->g1 i=some y->y.f=.u->i∈us Z1 (pls p.1):=λi y hi ey hf=>vU t hi ey hf
 generalize us Z1 (pls p.1)=is at e1 S ae
 have w2:=t.enter is
 obtain ⟨els,n,walk⟩:=hw
 have hM:∀ b,(∃ j y,j ∉ is/\g1 j=some y/\y.f=.u/\y.v=.ref b)->MutAt H1 b:=λb #[j,y,_,ey,hf,D]=>by
  obtain ⟨_,a,L',v1,v2,_⟩:=(t.okS j y ey).own (by rw[hf];intro q;cases q)
  rw[D] at v1;cases v1
  exact (t.okS j y ey).rep.inH b (by rw[v2];exact Fe)
 have a3:∀ y∈ys,∀ b∈y.L,¬ ∃ j y,j ∉ is/\g1 j=some y/\y.f=.u/\y.v=.ref b:=λy A b σ #[j,y',nj,C,hf,D]=>by
  have ax:y'.f≠.z:=by rw[hf];intro q;cases q
  rcases az y A with ⟨i,hi,ρ⟩ | A
  .by_cases ij:i=j
   .subst ij
    rw[ρ] at C;cases C
    exact nj (ae i y hi ρ hf)
   .exact t.ss j i y' y (Ne.symm ij) C ρ ax b D σ
  .exact (t.st j y' C y (Fi _ A)).1 ax b D σ
 have ar:∀ y∈ys,Itm (Ts++T) g1 y:=λy A=>by
  rcases az y A with ⟨i,_,ρ⟩ | h
  .exact .inl #[i,ρ]
  .exact .inr (Fi _ h)
 have kid:∀ x∈els,∀ c∈x.L,dN ((Ts++T).map bz) (λj=>if j∈is then (g1 j).map bz else g1 j) c/\(H1 c=none\/(G.H0 c=none\/G.src c)):=λx X c hc=>by
  obtain ⟨nr,sr⟩:=t.kids ar ((n x X).2.2 c hc)
  refine #[#[λi z V hf D=>?_,λz hz hf D=>?_],.inr sr]
  .have V:(if i∈is then (g1 i).map bz else g1 i)=some z:=V
   by_cases q:i∈is
   .rw[if_pos q] at V
    obtain ⟨z0,e0,e1⟩:=Fh.mp V
    subst e1
    exact nr.1 i z0 e0 (λq=>hf (lentF_z.mpr q)) D
   .rw[if_neg q] at V
    exact nr.1 i z V hf D
  .obtain ⟨z0,h0,rfl⟩:=Fy.mp hz
   exact nr.2 z0 h0 (λq=>hf (lentF_z.mpr q)) D
 have w3:Wf K (dU G H1 g1 is) H1 U (aO cQ is Z1) (els++(Ts++T).map bz) (λj=>if j∈is then (g1 j).map bz else g1 j):=w2.pushAll λx X=>#[(n x X).1,(n x X).2.1,λc hc=>kid x X c hc]
 cases e2:bZ bnd b p.2 (aO cQ is Z1) with
 | none=>rw[e2] at e1;exact nsE e1
 | some rr =>
  obtain ⟨r2,Z3⟩:=rr
  rw[e2] at e1
  have er:r2=r/\aO fR is Z3=Z':=by cases e1;exact #[rfl,rfl]
  obtain ⟨rfl,eρ⟩:=er
  have leave:∀ {U':St} {H':Hp} {Z2:Sto} {g2:Nat->Option It3} {R:List It3},Wf K (dU G H1 g1 is) H' U' Z2 (R++(els++(Ts++T).map bz)) g2->∃ g3,Wf K G H' U' (aO fR is Z2) (R++T) g3:=λ{U' H' Z2 g2 R} F =>
   ⟨_,Wf.leave (T:=Ts++T) (T':=T) (R:=R) t S (Fw Ts T) (F.sub ((List.Sublist.refl R).append (by
    rw[List.map_append]
    exact (Fw (Ts.map bz) (T.map bz)).trans (Fw els _))))⟩
  have a5:Le K (dU G H1 g1 is) (λe Z2=>W e (aO fR is Z2)) G W:=⟨rfl,λH' U' Z2 T2 g2 e F he=>by
   obtain ⟨g3,w5⟩:=A4 t S H' U' Z2 T2 g2 F
   exact ⟨_,[],g3,w5,he⟩⟩
  have s:Le K (dU G H1 g1 is) (λe Z2=>W e (aO fR is Z2)) G0 W0:=a5.trans le
  refine #[λk m U' H'=>k<=p.2.length/\m=p.2.length - k/\∃ Z2 g2,Wf K (dU G H1 g1 is) H' U' Z2 (els++(Ts++T).map bz) g2/\bZ bnd b (p.2.drop k) Z2=some (r2,Z3),#[_,Nat.zero_le _,rfl,_,_,w3,e2],?_]
  rintro k m U' H' ⟨hk,rfl,Z2,g2,F,e4⟩
  obtain ⟨a6,N⟩:=walk _ H' hM (λb o σ hn=>F.base b o σ hn) a3
  by_cases B:k < p.2.length
  .obtain ⟨d,hd⟩:∃ d,p.2[k]?=some d:=#[_,Fo B]
   have O:p.2.drop k=d::p.2.drop (k+1):=by
    rw[List.drop_eq_getElem_cons B]
    rw[Fo B] at hd
    cases hd;rfl
   rw[O] at e4
   obtain ⟨go,yld⟩:=a6 k d hd
   refine .inr #[go,λU5 H5=>∃ Z5 g5,Wf K (dU G H1 g1 is) H5 U5 Z5 (els++(Ts++T).map bz) g5/\bZ bnd b (p.2.drop (k+1)) Z5=some (r2,Z3),λU5 H5 #[Z5,g5,w5,l]=>#[p.2.length - (k+1),by lia,B,rfl,Z5,g5,w5,l],λx P A=>?_]
   obtain ⟨u,nu,ud,uf,uv⟩:=yld x P A
   have w5:Wf K (dU G H1 g1 is) P U' Z2 (u::(els++(Ts++T).map bz)) g2:=F.push nu λc hc=>F.alls (ys:=els) (λy A=>#[.inr (Fi _ A),(n y A).1]) hc
   have l:(match bnd d Z2 with
    | none=>none
    | some Z1=>ai b (λf=>match f with
     | .nx=>bZ bnd b (p.2.drop (k+1))
     | .ct=>bZ bnd b (p.2.drop (k+1))
     | .br=>bb .nx
     | .rt d f=>bb (.rt d f)) Z1)=some (r2,Z3):=e4
   cases e6:bnd d Z2 with
   | none=>rw[e6] at l;exact nsE l
   | some Z6 =>
    rw[e6] at l
    dsimp only at l
    rw[<- uv]
    refine σ (dU G H1 g1 is) P U' Z2 Z6 _ g2 u _ le.pr uf w5 (by rw[ud];exact e6) λU6 g6 w6=>?_
    unfold ai at l
    cases Q:b Z6 with
    | none=>rw[Q] at l;exact nsE l
    | some pr7 =>
     obtain ⟨o7,Z7⟩:=pr7
     rw[Q] at l
     cases o7 with
     | error er =>
      cases l
      refine tS.mk (r:=.error er) s w6 Q ?_
      show W er (aO fR is _)
      rw[eρ];exact q
     | ok f =>
      cases f with
      | nx=>exact tS.mk (r:=.ok .nx) s w6 Q λU8 H8 τ M=>#[Z7,τ,M,l]
      | ct=>exact tS.mk (r:=.ok .ct) s w6 Q λU8 H8 τ M=>#[Z7,τ,M,l]
      | br =>
       cases l
       refine tS.mk (r:=.ok .br) s w6 Q λU8 H8 τ M=>?_
       obtain ⟨g9,I⟩:=leave (R:=[]) M
       rw[eρ] at I
       exact q _ _ _ I
      | rt d' f' =>
       cases l
       refine tS.mk (r:=.ok (.rt d' f')) s w6 Q λx8 U8 H8 τ M x1 x2=>?_
       obtain ⟨g9,I⟩:=leave (R:=[x8]) M
       rw[eρ] at I
       exact q x8 _ _ _ I x1 x2
  .have ek:k=p.2.length:=by lia
   subst ek
   rw[List.drop_length] at e4
   cases e4
   obtain ⟨g9,I⟩:=leave (R:=[]) F
   rw[eρ] at I
   exact .inl #[N,q _ _ _ I]
end
def qE (ix:List (Option Nat)) (Z:Sto):Sto:=ix.map λo=>match o with
 | some i=>(Z[i]?).join
 | none=>none
def uncap:List (Option Nat)->Sto->Sto->Option Sto
 | [],_,Z=>some Z
 | none::ix,Y,Z=>uncap ix Y.tail Z
 | some i::ix,Y,Z=>match (Z[i]?).join,Y.head? with
  | some (_,f),some (some (d',f'))=>if f'=f\/f'=.z then uncap ix Y.tail (Z.set i (some (d',f'))) else none
  | _,_=>none
noncomputable def cg (bnd:D->Sto->Option Sto) (c:M3 Bool) (elt:EM):List D->M3 (List D)
 | []=>bb []
 | d::ds=>λY=>match bnd d Y with
  | none=>none
  | some Y1=>ai c (λb=>if b then ai elt (λr=>ai (eI r) λp=>ai (cg bnd c elt ds) λl=>bb (p.1::l)) else cg bnd c elt ds) Y1
def cE (im:IM) (bnd:D->Sto->Option Sto) (c:M3 Bool) (elt:EM) (ix:List (Option Nat)):EM:=ai im λp=>λZ =>
 match cg bnd c elt p.2 (qE ix (aO cQ (us Z (pls p.1)) Z)) with
 | some (.ok ds,Y)=>if p.2.length < 16777216 then (uncap ix Y (aO cQ (us Z (pls p.1)) Z)).map λZ2=>(.ok (.val (.lst ds) .u),aO fR (us Z (pls p.1)) Z2) else none
 | _=>none
section
variable {K:FG} {G G0:Gm} {W W0:D->Sto->Prop} {H H':Hp} {U Y:St} {Z Z':Sto} {T T':List It3} {g:Nat->Option It3} {x y z:It3} {α β:Type} {ix:List (Option Nat)}
def Inj (ix:List (Option Nat)):Prop:=∀ (j k i:Nat),ix[j]?=some (some i)->ix[k]?=some (some i)->j=k
def Bc (ix:List (Option Nat)) (g:Nat->Option It3) (j:Nat):Option It3:=(ix[j]?).join.bind g
def rm (ix:List (Option Nat)) (n:Nat) (g:Nat->Option It3):List It3:=(List.range n).filterMap λi=>if some i∈ix then none else g i
def yU (G:Gm) (ix:List (Option Nat)) (U:St):Gm:=#[G.H0,G.bw,λj=>((ix[j]?).join).isSome,cap ix U,λ_=>none,G.src,λj=>(ix[j]?).join.bind G.lv]
theorem dP {j:Nat} (h:Bc ix g j=some x):∃ i,ix[j]?=some (some i)/\g i=some x:=by
 unfold Bc at h
 cases e:ix[j]? with
 | none=>rw[e] at h;exact nsE h
 | some o =>
  rw[e] at h
  cases o with
  | none=>exact nsE h
  | some i=>exact #[i,rfl,h]
set_option tactic.hygienic true in
theorem k7 {n:Nat} (h:x∈rm ix n g):∃ i,some i ∉ ix/\g i=some x:=by
 obtain ⟨i,_,e⟩:=List.mem_filterMap.mp h
 split at e
 .exact nsE e
 .rename_i a;exact #[i,a,e]
theorem xo {n i:Nat} (hi:i < n) (a:some i ∉ ix) (e:g i=some x):x∈rm ix n g:=List.mem_filterMap.mpr #[i,List.mem_range.mpr hi,by rw[if_neg a];exact e]
theorem Wf.cap (w:Wf K G H U Z T g) (p:Inj ix):Wf K (yU G ix U) H (cap ix U) (qE ix Z) (rm ix Z.length g++T) (Bc ix g):=by
 have ne:∀ {i j:Nat},ix[j]?=some (some i)->∀ k,some k ∉ ix->i≠k:=λe k l q=>l (by rw[<- q];exact Fv e)
 refine #[by unfold L2.cap qE;rw[Ft,Ft],λj=>?_,λj x h=>?_,λj x h=>?_,λx m=>?_,λj k x y n m r=>?_,λj x h y r=>?_,?_,w.base,λ_ _=>rfl,#[λ_ _ _ _ _=>rfl,λ_ _ _ _ _ _ _=>rfl,w.fx.bin,λb o e=>(by cases e),λj x h hl=>?_]]
 .unfold Bc qE
  rw[Fz]
  cases e:ix[j]? with
  | none=>rfl
  | some o =>
   cases o with
   | none=>rfl
   | some i=>exact w.sl i
 .obtain ⟨i,e1,c⟩:=dP h
  unfold L2.cap
  rw[Fz,e1]
  show some ((U[i]?).getD none)=_
  rw[w.sv i x c];rfl
 .obtain ⟨i,_,c⟩:=dP h
  have ok:=w.okS i x c
  exact #[ok.rep,ok.own,ok.src]
 .rcases Fq.mp m with h | h
  .obtain ⟨i,_,e⟩:=k7 h
   have ok:=w.okS i x e
   exact #[ok.rep,ok.own,ok.src]
  .have ok:=w.okT x h
   exact #[ok.rep,ok.own,ok.src]
 .obtain ⟨i,e1,c⟩:=dP m
  obtain ⟨t,v,u⟩:=dP r
  exact w.ss i t x y (λq=>n (p j k i e1 (q ▸ v))) c u
 .obtain ⟨i,e1,c⟩:=dP h
  rcases Fq.mp r with q | q
  .obtain ⟨k,l,e⟩:=k7 q
   have:=ne e1 k l
   exact #[w.ss i k x y this c e,w.ss k i y x (Ne.symm this) e c]
  .exact w.st i x c y q
 .refine List.pairwise_append.mpr #[?_,w.tt,λa ha b s=>?_]
  .unfold rm
   rw[List.pairwise_filterMap]
   refine List.pairwise_lt_range.imp λ{i k} lt a ha b s=>?_
   have f:(if some i∈ix then none else g i)=some a:=ha
   have d:(if some k∈ix then none else g k)=some b:=s
   split at f
   .cases f
   .split at d
    .cases d
    .exact #[w.ss i k a b (FD lt) f d,w.ss k i b a (Nat.ne_of_gt lt) d f]
  .obtain ⟨k,l,e⟩:=k7 ha
   exact w.st k a e b s
 .obtain ⟨i,e1,c⟩:=dP h
  show (ix[j]?).join.bind G.lv=_
  rw[e1]
  exact w.fx.lvS i x c hl
theorem Wf.perm (w:Wf K G H U Z T g) (p:T.Perm T'):Wf K G H U Z T' g :=
 #[w.len,w.sl,w.sv,w.okS,λx a=>w.okT x (p.mem_iff.mpr a),w.ss,λi x e y b=>w.st i x e y (p.mem_iff.mpr b),(p.pairwise_iff λh=>Apart3.symm h).mp w.tt,w.base,w.pro,w.fx.sub λx a=>p.mem_iff.mpr a]
set_option tactic.hygienic true in
theorem iM:∀ {ix:List (Option Nat)} {Y Z Z2:Sto},uncap ix Y Z=some Z2->Inj ix->Z2.length=Z.length/\(∀ i,some i ∉ ix->(Z2[i]?).join=(Z[i]?).join) /\
  ∀ (j i:Nat),ix[j]?=some (some i)->∃ p q,(Z[i]?).join=some p/\(Y[j]?).join=some q/\(Z2[i]?).join=some q/\(q.2=p.2\/q.2=.z)
 | [],Y,Z,Z2,e,_=>by cases e;exact #[rfl,λ_ _=>rfl,λj i h=>by simp at h]
 | none::ix,Y,Z,Z2,e,hij=>by
  unfold uncap at e
  obtain ⟨h1,h2,h3⟩:=iM e λj k i a b=>by
   have:=hij (j+1) (k+1) i (by simpa using a) (by simpa using b)
   lia
  refine #[h1,λi hi=>h2 i λq=>hi (Ff _ q),λj i h=>?_]
  cases j with
  | zero=>simp at h
  | succ j =>
   obtain ⟨p,q,a,b,c⟩:=h3 j i (by simpa using h)
   exact #[p,q,a,by rw[List.getElem?_tail] at b;exact b,c]
 | some i0::ix,Y,Z,Z2,e,hij=>by
  unfold uncap at e
  cases e1:(Z[i0]?).join with
  | none=>rw[e1] at e;exact nsE e
  | some p =>
   obtain ⟨d,f⟩:=p
   cases l:Y.head? with
   | none=>rw[e1,l] at e;exact nsE e
   | some o =>
    cases o with
    | none=>rw[e1,l] at e;exact nsE e
    | some q =>
     obtain ⟨d',s⟩:=q
     rw[e1,l] at e
     dsimp only at e
     split at e
     .rename_i hf
      have g:=fq e1
      have n:some i0 ∉ ix:=λm=>by
       obtain ⟨k,u,t⟩:=List.mem_iff_getElem.mp m
       have:=hij 0 (k+1) i0 rfl (by simp[u,t])
       lia
      obtain ⟨h1,h2,h3⟩:=iM e λj k i a b=>by
       have:=hij (j+1) (k+1) i (by simpa using a) (by simpa using b)
       lia
      refine #[by rw[h1,List.length_set],λi hi=>?_,λj i h=>?_]
      .rw[h2 i λq=>hi (Ff _ q),cR g,if_neg (λq=>hi (by rw[q];exact Fe))]
      .cases j with
       | zero =>
        simp at h
        subst h
        refine #[(d,f),(d',s),e1,?_,?_,hf]
        .rw[List.head?_eq_getElem?] at l;rw[l];rfl
        .rw[h2 i0 n,cR g,if_pos rfl]
       | succ j =>
        have r:ix[j]?=some (some i):=by simpa using h
        obtain ⟨p,q,a,b,c⟩:=h3 j i r
        have ii:i≠i0:=λz=>n (by rw[<- z];exact Fv r)
        rw[cR g,if_neg ii] at a
        exact #[p,q,a,by rw[List.getElem?_tail] at b;exact b,c]
     .exact nsE e
theorem Wf.uncap (w:Wf K G H U Z T g) (hH:∀ b o,H b=some o->G.H0 b=some o) (Q:Inj ix) (e:L3.uncap ix τρ Z=some Z2) (hR:∀ x∈R,x.f=.z) (l:Wf K (yU G ix U) H' Y' τρ (R++(rm ix Z.length g++T)) gC) :
  ∃ g2,Wf K G H' U Z2 (R++T) g2:=by
 obtain ⟨hl,h2,h3⟩:=iM e Q
 let inv (i:Nat):Option Nat:=(List.range ix.length).find? λj=>decide (ix[j]?=some (some i))
 have A:∀ i j,inv i=some j->ix[j]?=some (some i):=λi j h=>by simpa using List.find?_some h
 have B:∀ i,inv i=none->some i ∉ ix:=λi h m=>by
  obtain ⟨k,ρ,ek⟩:=List.mem_iff_getElem.mp m
  have:=List.find?_eq_none.mp h k (List.mem_range.mpr ρ)
  simp[ρ,ek] at this
 let g2 (i:Nat):Option It3:=match inv i with | some j=>gC j | none=>g i
 have val:∀ i u,g2 i=some u->(∃ j p q,ix[j]?=some (some i)/\gC j=some u/\(Z[i]?).join=some p/\(τρ[j]?).join=some q/\(q.2=p.2\/q.2=.z))\/(some i ∉ ix/\g i=some u):=λi u h=>by
  grind
 have out:∀ i u,some i ∉ ix->g i=some u->u∈rm ix Z.length g:=λi u C e=>by
  have s:=w.sl i
  rw[e] at s
  exact xo (fq s.symm) C e
 have back:∀ i j u,ix[j]?=some (some i)->gC j=some u->U[i]?=some (some u.v):=λi j u t r=>by
  have a:=l.sv j u r
  have b:=l.pro j (by show ((ix[j]?).join).isSome=true;rw[t];rfl)
  rw[a] at b
  have b:some (some u.v)=(L2.cap ix U)[j]?:=b
  unfold L2.cap at b
  rw[Fz,t] at b
  have b:some (some u.v)=some ((U[i]?).getD none):=b
  cases q:U[i]? with
  | none=>rw[q] at b;cases b
  | some o=>rw[q] at b;cases b;rfl
 have I:∀ i j u p q,ix[j]?=some (some i)->gC j=some u->(Z[i]?).join=some p->(τρ[j]?).join=some q->(q.2=p.2\/q.2=.z)->∃ y,g i=some y/\y.v=u.v/\(u.f=y.f\/u.f=.z):=λi j u p q t r N eq hf=>by
  obtain ⟨y,M,O,J,y4⟩:=w.slot (d:=p.1) (f:=p.2) N
  have b:=back i j u t r
  rw[y4] at b
  have s:=l.sl j
  rw[r,eq] at s
  have s:some (u.d,u.f)=some q:=s
  refine #[y,M,by injection b with b;injection b,?_]
  rw[J,show u.f=q.2 by injection s with s;rw[<- s]]
  exact hf
 refine #[g2,#[by rw[hl];exact w.len,λi=>?_,λi u h=>?_,λi u h=>?_,λu hu=>?_,λi k a b n ha D=>?_,λi a h b D=>?_,l.tt.sublist ((List.Sublist.refl R).append (Fw _ T)),l.base,w.pro,#[λu hu hf=>?_,λi u h W hf a τ=>?_,l.fx.bin,λb o D=>?_,λi u h hl=>?_]]]
 .show (match inv i with | some j=>gC j | none=>g i).map _=_
  cases X:inv i with
  | none=>rw[h2 i (B i X)];exact w.sl i
  | some j =>
   obtain ⟨p,q,a,b,c,_⟩:=h3 j i (A i j X)
   rw[c,<- b];exact l.sl j
 .rcases val i u h with ⟨j,p,q,t,r,_⟩ | ⟨C,e⟩
  .exact back i j u t r
  .exact w.sv i u e
 .rcases val i u h with ⟨j,p,q,t,r,_⟩ | ⟨C,e⟩
  .have ok:=l.okS j u r
   exact #[ok.rep,ok.own,ok.src]
  .have ok:=l.okT u (Fj _ (Fi _ (out i u C e)))
   exact #[ok.rep,ok.own,ok.src]
 .have ok:=l.okT u (by
   rcases Fq.mp hu with q | q
   .exact Fi _ q
   .exact Fj _ (Fj _ q))
  exact #[ok.rep,ok.own,ok.src]
 .rcases val i a ha with ⟨j,p,q,t,r,_⟩ | ⟨C,e⟩
  .rcases val k b D with ⟨V,p',q',E,F,_⟩ | ⟨L,σ⟩
   .exact l.ss j V a b (λz=>n (by subst z;rw[t] at E;injection E with z;injection z)) r F
   .exact (l.st j a r b (Fj _ (Fi _ (out k b L σ)))).1
  .rcases val k b D with ⟨V,p',q',E,F,_⟩ | ⟨L,σ⟩
   .exact (l.st V b F a (Fj _ (Fi _ (out i a C e)))).2
   .exact w.ss i k a b n e σ
 .have P:b∈R++(rm ix Z.length g++T):=by
   rcases Fq.mp D with q | q
   .exact Fi _ q
   .exact Fj _ (Fj _ q)
  rcases val i a h with ⟨j,p,q,t,r,_⟩ | ⟨C,e⟩
  .exact l.st j a r b P
  .rcases Fq.mp D with q | q
   .exact ((List.pairwise_append.mp l.tt).2.2 b q a (Fi _ (out i a C e))).symm
   .exact w.st i a e b q
 .rcases Fq.mp hu with q | q
  .exact absurd (hR u q) hf
  .exact w.fx.frT u q hf
 .rcases val i u h with ⟨j,p,q,t,r,N,eq,S⟩ | ⟨C,e⟩
  .obtain ⟨y,M,O,J⟩:=I i j u p q t r N eq S
   refine w.fx.frS i y M W (λz=>hf ?_) a (by rw[O];exact τ)
   rcases J with h | h
   .rw[h];exact z
   .exact h
  .exact w.fx.frS i u e W hf a τ
 .obtain ⟨o',ho⟩:=w.fx.ob b o D
  have h0:=hH b o' ho
  by_cases q:G.bw b
  .exact l.fx.bin b q
  .exact #[o',l.base b o' h0 q]
 .rcases val i u h with ⟨j,p,q,t,r,N,eq,S⟩ | ⟨C,e⟩
  .obtain ⟨y,M,O,J⟩:=I i j u p q t r N eq S
   rw[<- O]
   refine w.fx.lvS i y M ?_
   rcases J with h | h
   .rw[<- h];exact hl
   .rw[h] at hl;cases hl
  .exact w.fx.lvS i u e hl
theorem vj {J:It} {H1:Hp} {ys els:List It3} {ds:List D} {bnd:D->Sto->Option Sto} {c:M3 Bool} {elt:EM} {tg:TG} {tc:TT} {te:TE} {Gc:Gm} {a:List It3} {g:List D} {τρ τρ':Sto} {gC:Nat->Option It3} {ρ:List V->Hp->Prop} {M:Addr->Prop}
  (hz:(16777216:Nat)=sizeLine) (I:∀ x∈els,x∈a/\x.f=.z)
  (W:∀ H',(∀ b o,H1 b=some o->¬ Gc.bw b->H' b=some o)->(∀ (i:Nat) (d:D),ds[i]?=some d->J.go i H'/\∀ x j,J.yld i H' x j->∃ w,New K H' j (cY els) w/\w.d=d/\w.f=.z/\w.v=x)/\J.stop ds.length H')
  (h0:Gc.H0=H1) (hb:Bnd K Gc.pr tg bnd) (τ:∀ U H Q,tT K Gc (λ_ _=>False) c U H Q->tc U H Q) (X:∀ U H Q,tE K Gc (λ_ _=>False) elt U H Q->te U H Q)
  (hlen:ds.length < 16777216) (w:Wf K Gc H1 Y τρ a gC) (e:cg bnd c elt ds τρ=some (.ok g,τρ'))
  (hZ:∀ (us:List It3) (Y':St) (H':Hp) (g':Nat->Option It3),(∀ x∈us,x.f=.z)->us.map (·.d)=g->Wf K Gc H' Y' τρ' (us++a) g'->ρ (us.map (·.v)) H'):qI J tg tc te ρ Y H1:=by
 refine #[λi m vs Y' H'=>i<=ds.length/\m=ds.length - i/\vs.length<=i/\∃ (us:List It3) (Z2:Sto) (g2:Nat->Option It3) (r:List D),(∀ x∈us,x.f=.z)/\us.map (·.v)=vs/\Wf K Gc H' Y' Z2 (us++a) g2/\cg bnd c elt (ds.drop i) Z2=some (.ok r,τρ')/\us.map (·.d)++r=g,#[_,Nat.zero_le _,rfl,FA _,[],τρ,gC,g,λ_ h=>(by cases h),rfl,w,e,rfl],?_]
 rintro i m vs Y1 H2 ⟨hi,rfl,ar,us,Z2,g2,r,t,q,O,N,n⟩
 refine #[by lia,?_]
 obtain ⟨ae,s⟩:=W H2 λb o P hn=>O.base b o (by rw[h0];exact P) hn
 by_cases k:i < ds.length
 .obtain ⟨d,hd⟩:∃ d,ds[i]?=some d:=#[_,Fo k]
  have A:ds.drop i=d::ds.drop (i+1):=by
   rw[List.drop_eq_getElem_cons k]
   rw[Fo k] at hd
   cases hd;rfl
  rw[A] at N
  obtain ⟨go,yld⟩:=ae i d hd
  refine .inr ⟨go,λB Y5 H5=>B.length<=i+1/\∃ (us:List It3) (Z5:Sto) (S:Nat->Option It3) (r:List D),(∀ x∈us,x.f=.z)/\us.map (·.v)=B/\Wf K Gc H5 Y5 Z5 (us++a) S/\cg bnd c elt (ds.drop (i+1)) Z5=some (.ok r,τρ')/\us.map (·.d)++r=g,
   λB Y5 H5 ⟨T,h5⟩=>⟨ds.length - (i+1),by lia,k,rfl,T,h5⟩,λx j F=>?_⟩
  obtain ⟨u,nu,ud,uf,uv⟩:=yld x j F
  have w3:Wf K Gc j Y1 Z2 (u::(us++a)) g2:=O.push nu λc hc=>O.alls (ys:=els) (λy F=>#[.inr (Fj _ (I y F).1),(I y F).2]) hc
  have G:(match bnd d Z2 with
   | none=>none
   | some Y1=>ai c (λb=>if b then ai elt (λr=>ai (eI r) λp=>ai (cg bnd c elt (ds.drop (i+1))) λl=>bb (p.1::l)) else cg bnd c elt (ds.drop (i+1))) Y1)=some (.ok r,τρ'):=N
  cases σ:bnd d Z2 with
  | none=>rw[σ] at G;exact nsE G
  | some Z3 =>
   rw[σ] at G
   dsimp only at G
   rw[<- uv]
   refine hb Gc j Y1 Z2 Z3 _ g2 u _ rfl uf w3 (by rw[ud];exact σ) λY4 g4 w4=>?_
   refine τ _ _ _ (tT.seq (Le.refl K Gc _) w4 G (λx R=>by cases R) λb Z5 L H5 S w5=>?_)
   cases b with
   | false =>
    simp only[FU,if_false] at L ⊢
    exact #[by lia,us,Z5,S,r,t,q,w5,L,n]
   | true =>
    simp only[if_true] at L ⊢
    refine X _ _ _ (tE.seq (Le.refl K Gc _) w5 L (λx R=>by cases R) λra Z6 e6 v H6 #[Ts,g6,w6,a6]=>?_)
    obtain ⟨p,Z7,g7,E,C,w7,f1,f2,_,f3⟩:=a6.take w6 e6
    have w8:=Wf.lowT (Ts:=[E]) w7
    unfold ai at C
    cases e8:cg bnd c elt (ds.drop (i+1)) Z7 with
    | none=>rw[e8] at C;exact nsE C
    | some pr =>
     obtain ⟨o,Z8⟩:=pr
     rw[e8] at C
     cases o with
     | error x=>cases C
     | ok l =>
      cases C
      refine #[by rw[FN];simp;lia,us++[cq E],Z7,g7,l,λy F=>?_,by rw[List.map_append,q,<- f3];rfl,?_,e8,?_]
      .rcases Fq.mp F with h | h
       .exact t y h
       .rw[FT.mp h];rfl
      .exact w8.perm (by
        show ([cq E]++(us++a)).Perm (us++[cq E]++a)
        rw[<- List.append_assoc]
        exact (List.perm_append_comm).append_right a)
      .rw[List.map_append,List.append_assoc]
       show us.map (·.d)++((cq E).d::l)=g
       rw[show (cq E).d=p.1 from f1]
       exact n
 .have ei:i=ds.length:=by lia
  subst ei
  rw[List.drop_length] at N
  cases N
  rw[List.append_nil] at n
  subst q
  exact .inl #[s,hZ us Y1 H2 g2 t n O]
end
section
variable {K:FG} {G G0:Gm} {W W0:D->Sto->Prop} {H H':Hp} {U Y:St} {Z Z':Sto} {T T':List It3} {g:Nat->Option It3} {x y z:It3} {α β:Type} {ix:List (Option Nat)}
def bp (ix:List (Option Nat)):Gm:=#[λ_=>none,λ_=>False,λj=>((ix[j]?).join).isSome,[],λ_=>none,λ_=>False,λ_=>none]
abbrev noX:D->Sto->Prop:=λ_ _=>False
theorem tw (h:G1.pr=(bp ix).pr) (le:Le K G W G1 noX):Le K G W (bp ix) noX:=⟨le.pr.trans h,λH U Z T g e w q=>by
 obtain ⟨_,_,_,_,f⟩:=le.ex H U Z T g e w q
 exact f.elim⟩
theorem zC (h:G1.pr=(bp ix).pr) (q:tE K G1 noX m U H Q):tE K (bp ix) noX m U H Q:=by
 obtain ⟨G,W,le,r⟩:=q
 exact #[G,W,tw h le,r]
theorem zu (h:G1.pr=(bp ix).pr) (q:tT K G1 noX m U H Q):tT K (bp ix) noX m U H Q:=by
 obtain ⟨G,W,le,r⟩:=q
 exact #[G,W,tw h le,r]
def fw:M3 Bool:=bb true
theorem Cq (h:tT K G0 W0 fw U H Q):tYes U H Q:=by
 refine h.use λG W le Z T g o Z' w e q=>?_
 cases e
 exact q _ _ w
set_option tactic.hygienic true in
theorem jW:∀ {ds a:List D} {τρ τρ':Sto},cg bnd c elt ds τρ=some (.ok a,τρ')->a.length<=ds.length
 | [],a,τρ,τρ',e=>by cases e;exact FA _
 | d::ds,a,τρ,τρ',e=>by
  unfold cg at e
  split at e
  .exact nsE e
  .rename_i Y1 _
   unfold ai at e
   split at e
   .exact nsE e
   .cases e
   .rename_i b Y2 _
    cases b with
    | false =>
     simp only[FU,if_false] at e
     have:=jW e
     simp;lia
    | true =>
     simp only[if_true] at e
     split at e
     .exact nsE e
     .cases e
     .split at e
      .exact nsE e
      .cases e
      .split at e
       .exact nsE e
       .cases e
       .rename_i l Y5 f
        cases e
        have:=jW f
        simp;lia
set_option tactic.hygienic true in
theorem qC (hz:(16777216:Nat)=sizeLine) (t:Inj ix) (X:Bnd K (bp ix).pr tg bnd) (le:Le K G W G0 W0) (w:Wf K G H U Z T g) (e:cE im bnd c elt ix Z=some (o,Z')) (he:∀ x,o=.error x->W x Z') (hZ:∀ (us:List It3) (H':Hp) (g':Nat->Option It3) (Ts:List It3) (ds:List D),o=.ok (.val (.lst ds) .u)->(∀ x∈us,x.f=.z)->us.map (·.d)=ds->us.length<=16777216->Wf K G H' U Z' (us++T) g'->ρ (us.map (·.v)) H') :
  tI K G0 W0 im U H λJ H1=>qI J tg (tT K (bp ix) noX c) (tE K (bp ix) noX elt) ρ (cap ix U) H1:=by
 refine tI.seq le w e he λp Z1 e1=>?_
 intro J H1 vs Ts g1 ys l a1 N hw
 have S:=us_u (is:=pls p.1) l
 have B:∀ i y,i∈pls p.1->g1 i=some y->y.f=.u->i∈us Z1 (pls p.1):=λi y hi V hf=>vU l hi V hf
 generalize us Z1 (pls p.1)=is at e1 S B
 have w2:=l.enter is
 obtain ⟨els,k,walk⟩:=hw
 have hM:∀ b,(∃ j y,j ∉ is/\g1 j=some y/\y.f=.u/\y.v=.ref b)->MutAt H1 b:=λb #[j,y,_,V,hf,n]=>by
  obtain ⟨_,a,L',v1,v2,_⟩:=(l.okS j y V).own (by rw[hf];intro q;cases q)
  rw[n] at v1;cases v1
  exact (l.okS j y V).rep.inH b (by rw[v2];exact Fe)
 have P:∀ y∈ys,∀ b∈y.L,¬ ∃ j y,j ∉ is/\g1 j=some y/\y.f=.u/\y.v=.ref b:=λy O b X #[j,τ,nj,m,hf,n]=>by
  have I:τ.f≠.z:=by rw[hf];intro q;cases q
  rcases N y O with ⟨i,hi,A⟩ | O
  .by_cases ij:i=j
   .subst ij
    rw[A] at m;cases m
    exact nj (B i y hi A hf)
   .exact l.ss j i τ y (Ne.symm ij) m A I b n X
  .exact (l.st j τ m y (Fi _ O)).1 I b n X
 have C:∀ y∈ys,Itm (Ts++T) g1 y:=λy O=>by
  rcases N y O with ⟨i,_,A⟩ | h
  .exact .inl #[i,A]
  .exact .inr (Fi _ h)
 have kid:∀ x∈els,∀ c∈x.L,dN ((Ts++T).map bz) (λj=>if j∈is then (g1 j).map bz else g1 j) c/\(H1 c=none\/(G.H0 c=none\/G.src c)):=λx r c hc=>by
  obtain ⟨nr,sr⟩:=l.kids C ((k x r).2.2 c hc)
  refine #[#[λi z s hf n=>?_,λz hz hf n=>?_],.inr sr]
  .have s:(if i∈is then (g1 i).map bz else g1 i)=some z:=s
   by_cases q:i∈is
   .rw[if_pos q] at s
    obtain ⟨z0,e0,e1⟩:=Fh.mp s
    subst e1
    exact nr.1 i z0 e0 (λq=>hf (lentF_z.mpr q)) n
   .rw[if_neg q] at s
    exact nr.1 i z s hf n
  .obtain ⟨z0,h0,rfl⟩:=Fy.mp hz
   exact nr.2 z0 h0 (λq=>hf (lentF_z.mpr q)) n
 have w3:Wf K (dU G H1 g1 is) H1 U (aO cQ is Z1) (els++(Ts++T).map bz) (λj=>if j∈is then (g1 j).map bz else g1 j):=w2.pushAll λx r=>#[(k x r).1,(k x r).2.1,λc hc=>kid x r c hc]
 have w4:=w3.cap t
 cases σ:cg bnd c elt p.2 (qE ix (aO cQ is Z1)) with
 | none=>rw[σ] at e1;exact nsE e1
 | some rr =>
  obtain ⟨o2,τρ⟩:=rr
  rw[σ] at e1
  cases o2 with
  | error x=>exact nsE e1
  | ok ds =>
   dsimp only at e1
   split at e1
   .rename_i hlen
    cases e3:uncap ix τρ (aO cQ is Z1) with
    | none=>rw[e3] at e1;exact nsE e1
    | some Z3 =>
     rw[e3] at e1
     have eo:o=.ok (.val (.lst ds) .u)/\Z'=aO fR is Z3:=by cases e1;exact #[rfl,rfl]
     obtain ⟨eo,eρ⟩:=eo
     refine vj (K:=K) (Gc:=yU (dU G H1 g1 is) ix U) (els:=els) (M:=λ_=>False) (ys:=ys) hz (λx r=>#[Fj _ (Fi _ r),(k x r).1]) (λH' hk=>walk _ H' hM hk P) rfl X (λU' H Q q=>zu (G1:=yU (dU G H1 g1 is) ix U) rfl q) (λU' H Q q=>zC (G1:=yU (dU G H1 g1 is) ix U) rfl q) hlen w4 σ λus Y' H' g' E F w5=>?_
     obtain ⟨g6,w6⟩:=Wf.uncap w3 (λb o h=>h) t e3 E w5
     have w7:=Wf.leave (T:=Ts++T) (T':=T) (R:=us) l S (Fw Ts T) (w6.sub ((List.Sublist.refl us).append (by
      rw[List.map_append]
      exact (Fw (Ts.map bz) (T.map bz)).trans (Fw els _))))
     have hle:us.length<=16777216:=by
      have h1:us.length=ds.length:=by rw[<- F,Ft]
      have h2:=jW σ
      lia
     rw[<- eρ] at w7
     exact hZ us H' _ Ts ds eo E F hle w7
   .exact nsE e1
theorem mT {us:List It3} (w:Wf K G H U Z (us++T) g) (j:∀ x∈us,x.f=.z) (b:H p=none) :
  Wf K G (upd H p (.lst (us.map (·.v)))) U Z (#[.lst (us.map (·.d)),.ref p,p::(us.map (·.L)).flatten,.u]::T) g:=by
 have hi:∀ y∈us,Itm (us++T) g y/\y.f=.z:=λy i=>#[.inr (Fi _ i),j y i]
 have np:p ∉ (us.map (·.L)).flatten:=λa=>by
  obtain ⟨y,hm,a⟩:=eM a
  obtain ⟨o,k⟩:=((w.itm (hi y hm).1).rep.inH p a).ex
  rw[b] at k;exact nsE k
 have n:New K H (upd H p (.lst (us.map (·.v)))) (cY us) ⟨.lst (us.map (·.d)),.ref p,p::(us.map (·.L)).flatten,.u⟩:=⟨bH b,.lst aI ((ky λy i=>(w.itm (hi y i).1).rep).same (bH b)),λc a=>by
  rcases Fm.mp a with e | a
  .rw[e];exact .inl b
  .exact .inr (eM a),λ_=>⟨rfl,p,_,rfl,rfl,np,b⟩⟩
 exact (w.push n λc h=>w.alls hi h).sub (List.Sublist.cons_cons _ (Fw us T))
theorem zE (hz:(16777216:Nat)=sizeLine) (a:Inj ix) (j:Bnd K (bp ix).pr tg bnd) (h:tE K G0 W0 (cE im bnd c elt ix) U H Q) :
  BJ (tI K G0 W0 im) tg (tT K (bp ix) noX c) (tE K (bp ix) noX elt) ix U H Q:=by
 refine h.use λG W le Z T g o Z' w e q=>?_
 refine qC hz a j le w e q.err λus H' g' Ts ds m b f hl l=>?_
 subst m f
 intro p i
 have k:=mT l b i
 exact q (.ref p) _ #[[_],g',k,Ar.val (#[.lst (us.map (·.d)),.ref p,p::(us.map (·.L)).flatten,.u]:It3)]
set_option tactic.hygienic true in
theorem qO {i:Nat} (hz:(16777216:Nat)=sizeLine) (b:Inj ix) (s:Bnd K (bp ix).pr tg bnd) (n:G0.pr i=false) (h:tS K G0 W0 (aJ i (cE im bnd c elt ix)) E U H) :
  BM i (tI K G0 W0 im) tg (tT K (bp ix) noX c) (tE K (bp ix) noX elt) ix E U H:=by
 refine h.use λG W le Z T g r Z' w e q=>?_
 unfold aJ ai at e
 cases e1:cE im bnd c elt ix Z with
 | none=>rw[e1] at e;exact nsE e
 | some pr =>
  obtain ⟨o,Z1⟩:=pr
  rw[e1] at e
  have a:∀ x,o=.error x->W x Z1:=λx m=>by subst m;cases e;exact q
  refine qC hz b s le w e1 a λus H' g' Ts ds y j k hl v=>?_
  subst y k
  intro p l
  have t:=mT v j l
  have e:(if i < Z1.length then some ((.ok .nx,Z1.set i (some (D.lst (us.map (·.d)),Fl.u))):Except D Flw×Sto) else none)=some (r,Z'):=e
  split at e
  .rename_i hi
   cases e
   exact q _ _ _ (t.store (f:=.u) hi (by rw[le.pr];exact n) (.inl rfl) (by intro h;cases h))
  .exact nsE e
end
section
variable {K:FG} {G G0:Gm} {W W0:D->Sto->Prop} {H H':Hp} {U:St} {Z Z':Sto} {T T':List It3} {g:Nat->Option It3} {x y z:It3} {α β:Type}
theorem Wf.mutate {i:Nat} {A:List Addr} (w:Wf K G H U Z T g) (C:g i=some y) (hu:y.f=.u) (ev:y.v=.ref a) (hm:ju d'=true) (rep:Rep K (upd H a o') d' (.ref a) (a::A)) (na:a ∉ A) (V:∀ c∈A,dN T g c/\(G.H0 c=none\/G.src c)):Wf K G (upd H a o') U (Z.set i (some (d',.u))) T (λj=>if j=i then some #[d',.ref a,a::A,.u] else g j):=by
 have r:y.f≠.z:=by rw[hu];intro q;cases q
 have σ:=w.okS i y C
 obtain ⟨_,a',L',v1,v2,v3,v4⟩:=σ.own r
 rw[ev] at v1;cases v1
 have hi:i < Z.length:=by
  have:=w.sl i
  rw[C] at this
  exact fq this.symm
 have ma:MutAt H a:=σ.rep.inH a (by rw[v2];exact Fe)
 have val:∀ j u,(if j=i then some (#[d',.ref a,a::A,.u]:It3) else g j)=some u->(j=i/\u=#[d',.ref a,a::A,.u])\/(j≠i/\g j=some u):=λj u h=>by
  by_cases q:j=i
  .rw[if_pos q] at h;cases h;exact .inl #[q,rfl]
  .rw[if_neg q] at h;exact .inr #[q,h]
 have keep:∀ u,ItOk K G H u->a ∉ u.L->ItOk K G (upd H a o') u:=λu ou hn=>ou.keep (M:=λb=>b=a) (λb o l n=>by rw[av n];exact l) (λb e=>by rw[e];exact ma) λb l e=>hn (by rw[<- e];exact l)
 have nS:∀ j u,j≠i->g j=some u->a ∉ u.L:=λj u n e=>w.ss i j y u (Ne.symm n) C e r a ev
 have R:∀ u∈T,a ∉ u.L:=λu m=>(w.st i y C u m).1 r a ev
 have I:∀ b o,H b=some o->∃ P,upd H a o' b=some P:=λb o l=>by
  by_cases q:b=a
  .rw[q,aI];exact #[_,rfl]
  .rw[av q];exact #[o,l]
 refine #[by rw[List.length_set];exact w.len,λj=>?_,λj u h=>?_,λj u h=>?_,λu m=>keep u (w.okT u m) (R u m),λj k p q n N W=>?_,λj u h t E=>?_,w.tt,λb o e n=>?_,w.pro,#[w.fx.frT,λj u h N hf b S=>?_,λb l=>?_,λb o l=>?_,λj u h hl=>?_]]
 .rw[cR hi]
  by_cases q:j=i
  .rw[if_pos q,if_pos q];rfl
  .rw[if_neg q,if_neg q];exact w.sl j
 .rcases val j u h with ⟨rfl,rfl⟩ | ⟨n,h⟩
  .rw[w.sv j y C,ev]
  .exact w.sv j u h
 .rcases val j u h with ⟨rfl,rfl⟩ | ⟨n,h⟩
  .refine #[rep,λ_=>#[hm,a,A,rfl,rfl,na,λ_=>v4 hu],λc d=>?_]
   rcases Fm.mp d with e | d
   .rw[e];exact σ.src a (by rw[v2];exact Fe)
   .exact (V c d).2
  .exact keep u (w.okS j u h) (nS j u n h)
 .rcases val j p N with ⟨J,ep⟩ | ⟨n1,x⟩
  .rcases val k q W with ⟨τ,eq⟩ | ⟨X,B⟩
   .exact absurd (J.trans τ.symm) n
   .rw[ep]
    intro _ c s
    cases s
    exact nS k q X B
  .rcases val k q W with ⟨τ,eq⟩ | ⟨X,B⟩
   .rw[eq]
    intro hf c s d
    rcases Fm.mp d with e | d
    .obtain ⟨_,b,L2,D,Q,_⟩:=(w.okS j p x).own hf
     rw[s] at D;cases D
     exact nS j p n1 x (by rw[<- e,Q];exact Fe)
    .exact (V c d).1.1 j p x hf s
   .exact w.ss j k p q n x B
 .rcases val j u h with ⟨J,F⟩ | ⟨n,h'⟩
  .rw[F]
   refine #[λ_ c s=>by cases s;exact R t E,λhf c s d=>?_]
   rcases Fm.mp d with e | d
   .obtain ⟨_,b,L2,D,Q,_⟩:=(w.okT t E).own hf
    rw[s] at D;cases D
    exact R t E (by rw[<- e,Q];exact Fe)
   .exact (V c d).1.2 t E hf s
  .exact w.st j u h' t E
 .have:b≠a:=λz=>by
   subst z
   rcases v4 hu with h | h
   .rw[e] at h;cases h
   .exact n h
  rw[av this];exact w.base b o e n
 .rcases val j u h with ⟨J,F⟩ | ⟨n,h'⟩
  .subst J
   rw[F] at S
   cases S
   exact w.fx.frS j y C N r a ev
  .exact w.fx.frS j u h' N hf b S
 .obtain ⟨o,O⟩:=w.fx.bin b l
  exact I b o O
 .obtain ⟨ρ,O⟩:=w.fx.ob b o l
  exact I b ρ O
 .rcases val j u h with ⟨J,F⟩ | ⟨n,h'⟩
  .rw[F] at hl;cases hl
  .exact w.fx.lvS j u h' hl
def MutD (K:FG) (r:V->List V->Hp->VK->Prop) (f:D->List D->Option (D×D)):Prop:=∀ (a:Addr) (d:D) (b:List Addr) (as:List It3) (H:Hp) (Q:VK) (p:D×D),Rep K H d (.ref a) (a::b)->ju d=true->a ∉ b->(∀ x∈as,Rep K H x.d x.v x.L)->(∀ x∈as,a ∉ x.L)->f d (as.map (·.d))=some p ->
 (∀ (o':HO) (e:List Addr) (w:It3),Rep K (upd H a o') p.1 (.ref a) (a::e)->ju p.1=true->(∀ c∈e,c∈b\/cY as c)->w.f=.z->w.d=p.2->Rep K (upd H a o') w.d w.v w.L->(∀ c∈w.L,c∈b\/cY as c)->Q w.v (upd H a o'))->r (.ref a) (as.map (·.v)) H Q
def chk (ok:D->Bool) (i:Nat):M3 Unit:=λZ=>match (Z[i]?).join with
 | some (d,_)=>if ok d then some (.ok (),Z) else none
 | none=>none
theorem ph {i:Nat} (e:ai (ac i) k Z=some (r,Z')):∃ p,(Z[i]?).join=some p/\k (.pl i) Z=some (r,Z'):=by
 unfold ai ac at e
 cases q:(Z[i]?).join with
 | none=>rw[q] at e;exact nsE e
 | some p=>rw[q] at e;exact #[p,rfl,e]
theorem yP {i:Nat} (e:ai (chk ok i) k Z=some (r,Z')):(∀ p,(Z[i]?).join=some p->ok p.1=true)/\k () Z=some (r,Z'):=by
 unfold ai chk at e
 grind
def lV (ok:D->Bool) (f:D->List D->Option (D×D)) (i:Nat) (ms:M3 (List R3)):EM:=ai (ac i) λ_=>ai (chk ok i) λ_=>ai ms λrs=>ai (gives rs) λds=>λZ=>match (Z[i]?).join with
 | some (d,.u)=>match f d ds with
  | some p=>some (.ok (.val p.2 .z),Z.set i (some (p.1,.u)))
  | none=>none
 | _=>none
theorem Wf.changed {i:Nat} {as us:List It3} (S:MutD K r f) (w:Wf K G H U Z (us++T) g) (e:(Z[i]?).join=some (d,.u)) (τ:U[i]?=some (some v)) (ha:∀ y∈as,Itm (us++T) g y/\y.f=.z) (V:f d (as.map (·.d))=some p) (q:∀ v H',Got K G U (Z.set i (some (p.1,.u))) T (.val p.2 .z) v H'->Q v H'):r v (as.map (·.v)) H Q:=by
 obtain ⟨y,B,J,F,t⟩:=w.slot e
 rw[τ] at t
 injection t with t
 injection t with t
 have n:y.f≠.z:=by rw[F];intro q;cases q
 have E:=w.okS i y B
 obtain ⟨m,a,D,v1,v2,M,_⟩:=E.own n
 have ra:=E.rep
 rw[v1,v2,J] at ra
 rw[J] at m
 rw[t,v1]
 have na:∀ x∈as,a ∉ x.L:=λx o b=>by
  have:=(w.kid (ha x o).1 b λhf=>absurd (ha x o).2 hf).1 i y B n
  exact this v1
 refine S a d D as H Q p ra m M (λx o=>(w.itm (ha x o).1).rep) na V λo' P u σ ρ s1 I X W A=>?_
 have k:∀ c,(c∈D\/cY as c)->dN (us++T) g c/\(G.H0 c=none\/G.src c):=λc b=>by
  rcases b with b | b
  .have C:c∈y.L:=by rw[v2];exact Ff _ b
   exact #[w.kid (.inl #[i,B]) C λ_ l=>by rw[v1] at l;cases l;exact M b,E.src c C]
  .exact w.alls ha b
 have N:∀ c,(c∈D\/cY as c)->c≠a:=λc b z=>(k c b).1.1 i y B n (by rw[z];exact v1)
 have R:=w.mutate (o':=o') B F v1 ρ σ (λh=>N a (s1 a h) rfl) λc b=>k c (s1 c b)
 have O:=R.pushAll (ws:=[u]) λx o=>by
  rw[FT.mp o]
  refine #[I,W,λc b=>?_]
  have s:=k c (A c b)
  refine #[#[λj z l hf hz=>?_,s.1.2],s.2]
  have l:(if j=i then some (#[p.1,.ref a,a::P,.u]:It3) else g j)=some z:=l
  by_cases q:j=i
  .rw[if_pos q] at l
   cases l
   cases hz
   exact N a (A a b) rfl
  .rw[if_neg q] at l
   exact s.1.1 j z l hf hz
 rw[<- X,<- I] at q
 exact q u.v _ #[[u],_,O.sub ((List.Sublist.refl [u]).append (Fw us T)),.val u]
theorem CJ {i:Nat} (B:MutD K r f) (hok:∀ d v L H,ok d=true->Rep K H d v L->tyV K Ty v H) (h:tE K G0 W0 (lV ok f i ms) U H Q):tBM K Ty r (iC i) (tA K G0 W0 ms) U H Q:=by
 refine h.use λG W le Z T g o Z' w e q=>?_
 obtain ⟨n,k,e⟩:=ph e
 obtain ⟨F,e⟩:=yP e
 obtain ⟨D,f0⟩:=n
 obtain ⟨y,C,t,I,j⟩:=w.slot k
 refine #[y.v,j,hok D y.v y.L H (F _ k) (by rw[<- t];exact (w.okS i y C).rep),?_]
 refine tA.seq le w e q.err λrs Z1 e1 vs H1 Ts g1 x a1=>?_
 obtain ⟨ds,Z2,g2,a,_,s,_,ys,E,f1,f2⟩:=a1.gives x e1
 subst f1 f2
 cases c:(Z2[i]?).join with
 | none=>rw[c] at a;exact nsE a
 | some p3 =>
  obtain ⟨A,m⟩:=p3
  rw[c] at a
  cases m with
  | u =>
   dsimp only at a
   cases b:f A (ys.map (·.d)) with
   | none=>rw[b] at a;exact nsE a
   | some p =>
    rw[b] at a
    cases a
    exact s.changed B c j E b q
  | l=>exact nsE a
  | z=>exact nsE a
def f9 (t:V->V->V->Hp->(Hp->Prop)->Prop):V->List V->Hp->VK->Prop:=λx vs H Q=>∃ k v,vs=[k,v]/\t x k v H λH'=>Q .non H'
def wy (f:D->List D->Option (D×D)) (i:Nat) (mk b:EM):SM:=ai b λa=>ai (ac i) λ_=>ai mk λc=>ai (gives [c,a]) λds=>λZ=>match (Z[i]?).join with
 | some (d,.u)=>match f d ds with
  | some p=>some (.ok .nx,Z.set i (some (p.1,.u)))
  | none=>none
 | _=>none
theorem Ct {i:Nat} (I:MutD K (f9 t) f) (h:tS K G0 W0 (wy f i mk mv) E U H):ut (tE K G0 W0 mv) (yy (iC i) (tE K G0 W0 mk) t) E U H:=by
 refine h.use λG W le Z T g r Z' w e q=>?_
 refine tE.seq le w e q.err λM Z1 e1 v H1 #[Ts,g1,m,a1]=>?_
 obtain ⟨s,R,e1⟩:=ph e1
 obtain ⟨d0,f0⟩:=s
 obtain ⟨y,ρ,τ,V,k⟩:=m.slot R
 refine #[y.v,k,?_]
 .refine tE.seq le m e1 q.err λP Z2 O B H2 #[Us,g2,x,a2]=>?_
  have o:Ars U [P,M] [B,v] (([]++Ts)++Us):=.cons a2 (.cons a1 .nil)
  have J:Wf K G H2 U Z2 ((([]++Ts)++Us)++T) g2:=x.perm (by
   rw[List.nil_append,<- List.append_assoc]
   exact (List.perm_append_comm).append_right T)
  obtain ⟨ds,Z3,g3,a,_,S,_,ys,L,f1,f2⟩:=o.gives J O
  subst f1
  cases c:(Z3[i]?).join with
  | none=>rw[c] at a;exact nsE a
  | some p3 =>
   obtain ⟨D,n⟩:=p3
   rw[c] at a
   cases n with
   | u =>
    dsimp only at a
    cases b:f D (ys.map (·.d)) with
    | none=>rw[b] at a;exact nsE a
    | some p =>
     rw[b] at a
     cases a
     have:=S.changed (Q:=λ_ H'=>E.nx U H') I c k L b λC H' #[N,X,F,σ]=>q _ _ _ (F.sub (Fw N T))
     rw[f2] at this
     obtain ⟨k',C,j,A⟩:=this
     cases j
     exact A
   | l=>exact nsE a
   | z=>exact nsE a
end
structure RE (X:Cx) (G0:Gm) (W0:D->Sto->Prop) (e:Expr) (m:EM):Prop where
 h:PE X e (tE X.K G0 W0 m)
structure RT (X:Cx) (G0:Gm) (W0:D->Sto->Prop) (e:Expr) (m:M3 Bool):Prop where
 h:PT X e (tT X.K G0 W0 m)
structure RW (X:Cx) (G0:Gm) (W0:D->Sto->Prop) (e:Expr) (m:M3 Bool):Prop where
 h:PW X e (tT X.K G0 W0 m)
structure RA (X:Cx) (G0:Gm) (W0:D->Sto->Prop) (es:List Expr) (m:M3 (List R3)):Prop where
 h:PA X es (tA X.K G0 W0 m)
structure RS (X:Cx) (G0:Gm) (W0:D->Sto->Prop) (s:Stmt) (m:SM):Prop where
 h:PS X s (tS X.K G0 W0 m)
structure RSs (X:Cx) (G0:Gm) (W0:D->Sto->Prop) (s:List Stmt) (m:SM):Prop where
 h:PSs X s (tS X.K G0 W0 m)
structure RI (X:Cx) (G0:Gm) (W0:D->Sto->Prop) (tg iter:Expr) (m:IM):Prop where
 h:PI X tg iter (tI X.K G0 W0 m)
structure RG (X:Cx) (pr:Nat->Bool) (target:Expr) (bnd:D->Sto->Option Sto):Prop where
 h:∃ tg,PG X target tg/\Bnd X.K pr tg bnd
structure RGs (X:Cx) (pr:Nat->Bool) (targets:List Expr) (bnd:List D->Sto->Option Sto):Prop where
 h:∃ tg,PGs X targets tg/\zm X.K pr tg bnd
theorem PE.imp (h:PE X e t) (f:∀ U H Q,t' U H Q->t U H Q):PE X e t':=λpins s U H Q I q=>h pins s U H Q I (f U H Q q)
theorem PT.imp (h:PT X e t) (f:∀ U H Q,t' U H Q->t U H Q):PT X e t':=λpins s U H Q I q=>h pins s U H Q I (f U H Q q)
theorem PW.imp (h:PW X e t) (f:∀ U H Q,t' U H Q->t U H Q):PW X e t':=λwh pins s U H Q I q=>h wh pins s U H Q I (f U H Q q)
theorem PA.imp (h:PA X e t) (f:∀ U H Q,t' U H Q->t U H Q):PA X e t':=λpos pins s U H Q I q=>h pos pins s U H Q I (f U H Q q)
theorem PS.imp (h:PS X e t) (f:∀ D U H,t' D U H->t D U H):PS X e t':=λpins s U H D I q=>h pins s U H D I (f D U H q)
theorem PSs.imp (h:PSs X e t) (f:∀ D U H,t' D U H->t D U H):PSs X e t':=λpins s U H D I q=>h pins s U H D I (f D U H q)
theorem PI.imp (h:PI X tg e t) (f:∀ U H R,t' U H R->t U H R):PI X tg e t':=λpins s U H R I q=>h pins s U H R I (f U H R q)
theorem szl:(16777216:Nat)=sizeLine:=by rw[sizeLine_eq]
section
variable {X:Cx} {G0:Gm} {W0:D->Sto->Prop} {a b c e:Expr} {es:List Expr} {pos:Pos} {ma mb mc m:EM} {ms:M3 (List R3)} {t u:M3 Bool} {rest:List Expr}
theorem nK (i:Nat) (c:X.N[i]?=some x) (b:Vis X.env.scope x) (hd:(x == ("__debug__":Str))=false) (a:(x == ("__classdict__":Str))=false):RE X G0 W0 (.Name x pos) (ac i):=#[PE.imp (gb c b hd a) λ_ _ _ h=>CG h]
theorem Dq:RE X G0 W0 (.Constant (.int i) j pos) (mC (.int i)):=#[PE.imp nQ λ_ _ _ h=>eJ (λ_=>.int i) h]
theorem re_bl:RE X G0 W0 (.Constant (.bool i) j pos) (mC (.bl i)):=#[PE.imp pe_bl λ_ _ _ h=>eJ (λ_=>.bl i) h]
theorem Do:RE X G0 W0 (.Constant .none j pos) (mC .non):=#[PE.imp DM λ_ _ _ h=>eJ (λ_=>.non) h]
theorem Dl:RE X G0 W0 (.Constant (.str i) j pos) (mC (.str i)):=#[PE.imp xk λ_ _ _ h=>eJ (λ_=>.str i) h]
theorem pJ {i:Int} (a:Gl X x) (hm:X.mg x=some (.int i tk)) (hd:(x == ("__debug__":Str))=false):RE X G0 W0 (.Name x pos) (mC (.int i)):=#[PE.imp (nR (v:=V.int i) a hm #[_,rfl] hd) λ_ _ _ h=>eJ (λ_=>.int i) h]
theorem pI (a:Gl X x) (hm:X.mg x=some (.str i tk)) (hd:(x == ("__debug__":Str))=false):RE X G0 W0 (.Name x pos) (mC (.str i)):=#[PE.imp (nR (v:=V.str i) a hm #[_,rfl] hd) λ_ _ _ h=>eJ (λ_=>.str i) h]
theorem iQ (d:OpR X (binaryOp op) r) (hd:OpD X.K r f) (ha:RE X G0 W0 a ma) (c:RE X G0 W0 b mb):RE X G0 W0 (.BinOp a op b pos) (af f ma mb):=#[PE.imp (pe_op d ha.h c.h) λ_ _ _ h=>nk hd h]
theorem re_un (b:UnR X (unaryOp op) r) (hd:UnD X.K r f) (ha:RE X G0 W0 a ma):RE X G0 W0 (.UnaryOp op a pos) (mUn f ma):=#[PE.imp (pe_un b ha.h) λ_ _ _ h=>sG hd h]
theorem kX (d:OpR X (compareOp op) r) (hd:OpD X.K r f) (ha:RE X G0 W0 a ma) (c:RE X G0 W0 b mb) (hm:behindInMarks op b=false):RE X G0 W0 (.Compare a [op] [b] pos) (af f ma mb):=#[PE.imp (AA d ha.h c.h hm) λ_ _ _ h=>nk hd h]
theorem BN (e:IxR X r) (hd:OpD X.K r f) (ha:RE X G0 W0 a ma) (c:RE X G0 W0 b mb) (d:uh b):RE X G0 W0 (.Subscript a b pos) (af f ma mb):=#[PE.imp (pe_ix e ha.h c.h d) λ_ _ _ h=>nk hd h]
theorem Dt (ha:RE X G0 W0 a ma) (c:RE X G0 W0 (.BoolOp .And (b::rest) pos) mb):RE X G0 W0 (.BoolOp .And (a::b::rest) pos) (gi ma mb):=#[PE.imp (DS ha.h c.h) λ_ _ _ h=>CL h]
theorem Dm (h:RE X G0 W0 a ma):RE X G0 W0 (.BoolOp op [a] pos) ma:=#[DK h.h]
theorem Dn (ha:RE X G0 W0 a ma):RE X G0 W0 (.UnaryOp .Not a pos) (A2 ma):=#[PE.imp (DL ha.h) λ_ _ _ h=>CI h]
theorem re_if (e:RT X G0 W0 c t) (ha:RE X G0 W0 a ma) (d:RE X G0 W0 b mb):RE X G0 W0 (.IfExp c a b pos) (mIf t ma mb):=#[PE.imp (xl e.h ha.h d.h) λ_ _ _ h=>tE_if h]
def iV (f b:D->D->Option (D×Fl)) (ma mb mc:EM):EM:=ai ma λra=>ai mb λrb=>ai (der ra) λda=>ai (der rb) λdb=>ai (bc ((f da db).bind λp=>asB p.1)) λk=>if k then ai mc λrc=>ai (der rb) λdb=>ai (der rc) λa=>bc ((b db a).map λp=>R3.val p.1 p.2) else bb (.val (.bl false) .z)
theorem C7 (ha:RE X G0 W0 a ma) (he:∀ whole,isTrue a X.env whole=(do let v <- whole;standAt a.pos;holding [v] (truthy v))):RT X G0 W0 a (cB ma):=#[PT.imp (DB ha.h he) λ_ _ _ h=>tT_b h]
theorem rt_w (h:RW X G0 W0 a t):RT X G0 W0 a t:=#[h.h.pt]
theorem zP (ha:RT X G0 W0 a t):RW X G0 W0 (.BoolOp .And [a] pos) t:=#[An ha.h]
theorem C0 (ha:RT X G0 W0 a t):RW X G0 W0 (.BoolOp .Or [a] pos) t:=#[Dy ha.h]
theorem C4 (ha:RT X G0 W0 a t) (c:RW X G0 W0 (.BoolOp .And (b::rest) pos) u):RW X G0 W0 (.BoolOp .And (a::b::rest) pos) (eR t u):=#[PW.imp (Dz ha.h c.h) λ_ _ _ h=>Cs h]
theorem rw_or (ha:RT X G0 W0 a t) (c:RW X G0 W0 (.BoolOp .Or (b::rest) pos) u):RW X G0 W0 (.BoolOp .Or (a::b::rest) pos) (cOr t u):=#[PW.imp (pw_or ha.h c.h) λ_ _ _ h=>tT_or h]
theorem C8 (ha:RT X G0 W0 a t):RT X G0 W0 (.UnaryOp .Not a pos) (gw t):=#[PT.imp (q9 ha.h) λ_ _ _ h=>Cr h]
theorem Dv:RA X G0 W0 [] ak:=#[PA.imp nV λ_ _ _ h=>CM h]
theorem Al (ha:RE X G0 W0 e m) (b:RA X G0 W0 es ms) (a:starEach (e::es) X.env=(false,eval e X.env)::starEach es X.env):RA X G0 W0 (e::es) (aa m ms):=#[PA.imp (ie ha.h b.h a) λ_ _ _ h=>zG h]
theorem Dk (h:RA X G0 W0 es ms):RE X G0 W0 (.Tuple es x1 pos) (cn ms):=#[PE.imp (xj h.h) λ_ _ _ h=>CH szl h]
theorem Dp (h:RA X G0 W0 es ms):RE X G0 W0 (.List es pos) (bd ms):=#[PE.imp (DN h.h) λ_ _ _ h=>CK szl h]
theorem dm {id:String} (i:b7 X (.builtin id) r) (hd:b8 X.K r f) (g:Gl X x) (hm:X.mg x=none) (d:bootBuiltins x=some (.builtin id)) (ha:RA X G0 W0 (e::es) ms) (c:x≠"__name__") (a:(x == ("__debug__":Str))=false) (he:starEach (e::es) X.env=(false,eval e X.env)::starEach es X.env) (b:(backTo pos (starEach es X.env)).any (·.1)=false):RE X G0 W0 (.Call (.Name x p) (e::es) [] pos) (au f ms):=#[PE.imp (kZ i g hm d ha.h c a he b) λ_ _ _ h=>pq hd h]
theorem eL (i:b7 X (.type T) r) (hd:b8 X.K r f) (g:Gl X x) (hm:X.mg x=none) (d:bootBuiltins x=some (.type T)) (ha:RA X G0 W0 (e::es) ms) (c:x≠"__name__") (a:(x == ("__debug__":Str))=false) (he:starEach (e::es) X.env=(false,eval e X.env)::starEach es X.env) (b:(backTo pos (starEach es X.env)).any (·.1)=false):RE X G0 W0 (.Call (.Name x p) (e::es) [] pos) (au f ms):=#[PE.imp (uK i g hm d ha.h c a he b) λ_ _ _ h=>pq hd h]
variable {st:Stmt} {sts:List Stmt} {sm sn:SM}
theorem zX:RSs X G0 W0 [] bK:=#[PSs.imp At λ_ _ _ h=>Cz h]
theorem wG (h1:RS X G0 W0 st sm) (h2:RSs X G0 W0 sts sn):RSs X G0 W0 (st::sts) (aB sm sn):=#[PSs.imp (xg h1.h h2.h) λ_ _ _ h=>Cv h]
theorem zW (h1:RS X G0 W0 st sm):RSs X G0 W0 [st] sm:=#[sZ h1.h]
theorem zZ (he:RE X G0 W0 e m) (a:swapsWith e none pos.line X.env=pure false):RS X G0 W0 (.Expr e pos) (iH m):=#[PS.imp (Au he.h a) λ_ _ _ h=>zw h]
theorem Dc (np:Nat) (a:∀ i,np<=i->G0.pr i=false) (he:RE X G0 W0 e m):RS X G0 W0 (.Return (some e) pos) (aN np m):=#[PS.imp (DF he.h) λ_ _ _ h=>Cw a h]
theorem rs_if (b:RT X G0 W0 c t) (ha:RSs X G0 W0 x sm) (a:RSs X G0 W0 y sn):RS X G0 W0 (.If c x y pos) (sIf t sm sn):=#[PS.imp (ps_if b.h ha.h a.h) λ_ _ _ h=>tS_if h]
theorem Db (i:Nat) (b:X.N.Nodup) (hi:X.N[i]?=some x) (a:Loc X.env.scope x) (he:RE X G0 W0 e m) (d:swapsWith e (some (.Name x pos')) pos.line X.env=pure false) (hf:X.fn x=true\/X.env.scope.names.lookup x=some .local) (c:G0.pr i=false):RS X G0 W0 (.Assign [.Name x pos'] e pos) (aJ i m):=#[PS.imp (DE b hi a he.h d hf) λ_ _ _ h=>Cu c h]
theorem wI (d:PassesOwn (model X.prog X.w) X.A X.env X.xe) (b:RT X G0 W0 c t) (a:RSs X G0 W0 body sm):RS X G0 W0 (.While c body [] pos) (fX t sm):=#[PS.imp (xh d b.h a.h) λ_ _ _ h=>vZ h]
theorem wJ (a:PassesOwn (model X.prog X.w) X.A X.env X.xe) (d:X.calm=true) (hi:RI X G0 W0 tg iter im) (c:RG X G0.pr tg bnd) (b:RSs X G0 W0 body sm) (e:∀ x,foldedSetIterable iter X.env x=pure x):RS X G0 W0 (.For tg iter body [] pos) (dI im bnd sm):=by
 obtain ⟨g,h1,h2⟩:=c.h
 exact #[PS.imp (DH a d hi.h h1 b.h e) λ_ _ _ h=>CA h2 h]
theorem sM (i:Nat) (b:X.N.Nodup) (hi:X.N[i]?=some x) (a:Loc X.env.scope x) (hf:X.fn x=true\/X.env.scope.names.lookup x=some .local) (c:pr i=false):RG X pr (.Name x pos) (aC i):=#[_,ic b hi a hf,eT c]
theorem Ag:RGs X pr [] fB:=#[_,kA,lF]
theorem wN (h1:RG X pr e bn) (h2:RGs X pr es bs) (a:(assignEach (e::es) X.env).map (·.2)=assign e X.env::(assignEach es X.env).map (·.2)):RGs X pr (e::es) (a9 bn bs):=by
 obtain ⟨g,a1,a2⟩:=h1.h
 obtain ⟨b,b1,b2⟩:=h2.h
 exact #[_,dR a1 b1 a,eS a2 b2]
theorem Dh {k n:Nat} (c:X.calm=true) (h:RGs X pr es bs) (b:(assignEach es X.env).length=n) (a:(assignEach es X.env).findIdx? (·.1)=none):RG X pr (.Tuple es k pos) (gz n bs):=by
 obtain ⟨d,b1,b2⟩:=h.h
 exact #[_,nP c b1 b a,oZ b2]
theorem Aj (NY:List Str) (ix:List (Option Nat)) (c:X.calm=true) (hi:RI X G0 W0 tg iter im) (e:∀ s H C fp,PTs (aS X NY scope s H C fp) ifs (tT X.K (bp ix) noX cm)) (he:∀ s H C fp,RE (aS X NY scope s H C fp) (bp ix) noX elt em) (d:gq scope X.N X.env.scope NY ix=true) (a:Inj ix) (f:∀ x,foldedSetIterable iter X.env x=pure x) (b:∃ j,Bnd X.K (bp ix).pr j bnd/\∀ s H C fp,PG (aS X NY scope s H C fp) tg j):RE X G0 W0 (.ListComp elt [#[tg,iter,ifs,0]] scope pos) (cE im bnd cm em ix):=by
 obtain ⟨j,b1,b2⟩:=b
 exact #[PE.imp (Az NY ix c hi.h b2 e (λs H C fp=>(he s H C fp).h) d f) λ_ _ _ h=>zE szl a b1 h]
end
noncomputable def ay (F:Fn) (ms:M3 (List R3)):EM:=ai ms λrs=>λZ=>match prs (frz (fu rs) Z) rs with
 | none=>none
 | some ps=>match F ps with
  | none=>none
  | some (.ok p,qs)=>if qs.length=ps.length then some (.ok (.val p.1 p.2),back rs ps qs (frz (fu rs) Z)) else none
  | some (.error _,_)=>none
def qR (K:FG) (F:Fn):Sp:=λvs H Q _=>∃ (ps:List It3) (p:D×Fl) (fs:List (D×Fl)),vs=ps.map (·.v)/\(∀ p∈ps,Arg K H p)/\ps.Pairwise Apart3/\F (ps.map λp=>(p.d,p.f))=some (.ok p,fs) /\
 ∀ x qs H',Behind K H H' ps qs x->x.d=p.1->x.f=p.2->qs.map (λq=>(q.d,q.f))=fs->Q x.v H'
section
variable {K:FG} {G G0:Gm} {W W0:D->Sto->Prop} {H H':Hp} {U:St} {Z Z':Sto} {T T':List It3} {g:Nat->Option It3} {x y z:It3} {α β:Type}
theorem pv (h:tE K G0 W0 (ay F ms) U H Q):tA K G0 W0 ms U H λvs H1=>qR K F vs H1 Q E0:=by
 refine h.use λG W le Z T g o Z' w e q=>?_
 refine tA.seq le w e q.err λrs Z1 e1 vs H1 Ts g1 n a1=>?_
 obtain ⟨g2,c,P⟩:=Wf.frz (is:=fu rs) n
 cases k:prs (L3.frz (fu rs) Z1) rs with
 | none=>rw[k] at e1;exact nsE e1
 | some pfs =>
  rw[k] at e1
  dsimp only at e1
  have hd:∀ i,2<=(pls rs).count i->∀ y,g2 i=some y->y.f=.z:=λi D y s=>by
   have hm:i∈fu rs:=FV.mpr #[List.count_pos_iff.mp (by lia),by simpa using D]
   have s1:=c.sl i
   rw[s] at s1
   have M:∃ y0,g1 i=some y0:=by
    cases O:g1 i with
    | some y0=>exact #[y0,rfl]
    | none =>
     exfalso
     have s2:=n.sl i
     rw[O] at s2
     have:=ls (is:=fu rs) s2.symm
     rw[this] at s1
     cases s1
   obtain ⟨y0,l⟩:=M
   obtain ⟨S,b,_,A⟩:=P i y0 l
   rw[s] at b
   cases b
   exact A hm
  obtain ⟨ps,f1,f2,u,f4,L⟩:=Ars.args a1 c hd k
  have hit:∀ p∈ps,Itm (Ts++T) g2 p:=λp j=>by
   rcases f4 p j with ⟨i,_,C⟩ | h
   .exact .inl #[i,C]
   .exact .inr (Fi _ h)
  have d:∀ p∈ps,Arg K H1 p:=λp j=>⟨(c.itm (hit p j)).rep,λhf=>by
   obtain ⟨m,a,L',v1,v2,I,_⟩:=(c.itm (hit p j)).own hf
   exact ⟨m,a,L',v1,v2,I⟩⟩
  subst f2
  cases b:F pfs with
  | none=>rw[b] at e1;exact nsE e1
  | some r =>
   obtain ⟨out,fs⟩:=r
   rw[b] at e1
   cases out with
   | ok p =>
    dsimp only at e1
    split at e1
    .cases e1
     refine #[ps,p,fs,rfl,d,u,by rw[f1];exact b,?_]
     intro x qs H' B x1 J E
     obtain ⟨g',R,N⟩:=Wf.after c k f1 f4 L B.toBehindX
     have t:=N x B.rep B.own B.src B.apx
     rw[E] at t
     rw[<- x1,<- J] at q
     exact q x.v H' #[[x],g',t,.val x]
    .exact nsE e1
   | error er=>exact nsE e1
def cF (b:Bool) (p:It3):It3:=if b then cq p else p
theorem jL:∀ {mask:List Bool} {ps:List It3},(List.zipWith cF mask ps).map (λp=>(p.d,p.f))=List.zipWith uV mask (ps.map λp=>(p.d,p.f))
 | [],_=>rfl
 | _::_,[]=>rfl
 | b::mask,p::ps=>by
  simp only[List.zipWith_cons_cons,FF,jL]
  cases b <;> rfl
theorem mH {i:Nat} (h:(List.zipWith cF mask ps)[i]?=some q):∃ b p,mask[i]?=some b/\ps[i]?=some p/\q=cF b p:=by grind
theorem jr {i:Nat} (hl:ps.length=mask.length) (h:ps[i]?=some p):∃ b,mask[i]?=some b/\(List.zipWith cF mask ps)[i]?=some (cF b p):=by
 have hi:i < mask.length:=by have:=(Fu.mp h).1;omega
 simp_all
theorem bx (b:Bool) (p:It3):(cF b p).d=p.d/\(cF b p).v=p.v/\(cF b p).L=p.L/\((cF b p).f=p.f\/(cF b p).f=.z):=by
 cases b
 .exact #[rfl,rfl,rfl,.inl rfl]
 .exact #[rfl,rfl,rfl,.inr rfl]
theorem NoRoot.low (h:NoRoot a b) (d:a'.v=a.v) (hf:a'.f=a.f\/a'.f=.z) (g:b'.L=b.L):NoRoot a' b':=λq c e=>by
 rw[g]
 rcases hf with f | f
 .exact h (by rw[<- f];exact q) c (by rw[<- d];exact e)
 .exact absurd f q
def prM (mask:List Bool) (i:Nat):Bool:=match mask[i]? with
 | some b=>!b
 | none=>false
theorem tq {f:α->β} {l:List α} {i:Nat} {a:α} (h:l[i]?=some a):(l.map f)[i]?=some (f a):=by rw[Fz,h];rfl
set_option tactic.hygienic true in
theorem oH {n:Nat} (hn:mask.length<=n) (h:qR K (fnM mask n m) vs H Q E) :
  ∃ G:Gm,G.pr=prM mask/\tS K G noX m { nx:=λ_ H'=>Q .non H',rt:=Q } (vs.map some++List.replicate (n - vs.length) none) H:=by
 obtain ⟨ps,p,fs,rfl,ha,hp,l,q⟩:=h
 unfold fnM at l
 rw[Ft] at l
 split at l
 .rename_i hl
  rw[<- jL] at l
  generalize w:List.zipWith cF mask ps=g at l
  have ρ:g.length=ps.length:=by rw[<- w,List.length_zipWith];lia
  have R:g.map (·.v)=ps.map (·.v):=by
   refine List.ext_getElem? λi=>?_
   rw[Fz,Fz]
   cases e:ps[i]? with
   | none=>rw[List.getElem?_eq_none (by have:=List.getElem?_eq_none_iff.mp e;lia)]
   | some u =>
    obtain ⟨b,_,t⟩:=jr (mask:=mask) hl e
    rw[w] at t
    rw[t]
    show some (cF b u).v=some u.v
    rw[(bx b u).2.1]
  have up:∀ (i:Nat) (u:It3),g[i]?=some u->∃ b s,mask[i]?=some b/\ps[i]?=some s/\u=cF b s:=λi u e=>by rw[<- w] at e;exact mH e
  have A:∀ u∈g,∃ b s,s∈ps/\u=cF b s:=λu hu=>by
   obtain ⟨i,hi,e⟩:=List.mem_iff_getElem.mp hu
   obtain ⟨b,s,_,t,y⟩:=up i u (by rw[Fo hi,e])
   exact #[b,s,Fv t,y]
  have M:∀ u∈g,Arg K H u:=λu hu=>by
   obtain ⟨b,s,h0,rfl⟩:=A u hu
   obtain ⟨e1,t,y,W⟩:=bx b s
   refine #[by rw[e1,t,y];exact (ha s h0).rep,λhf=>?_]
   rw[e1,t,y]
   refine (ha s h0).own λz=>hf ?_
   rcases W with f | f
   .rw[f];exact z
   .exact f
  have P:g.Pairwise Apart3:=by
   rw[List.pairwise_iff_getElem]
   intro i j hi hj lt
   obtain ⟨b,s,_,t,y⟩:=up i _ (Fo hi)
   obtain ⟨F,T,_,X,ae⟩:=up j _ (Fo hj)
   have ap:=cA hp (λ_ _=>Apart3.symm) (FD lt) t X
   rw[y,ae]
   obtain ⟨_,a2,S,a4⟩:=bx b s
   obtain ⟨_,b2,b3,b4⟩:=bx F T
   exact #[ap.1.low a2 a4 b3,ap.2.low b2 b4 S]
  have N:∀ (i:Nat) (u:It3),g[i]?=some u->u.f≠.z->prM mask i=true:=λi u e hf=>by
   obtain ⟨b,s,e1,t,y⟩:=up i u e
   unfold prM
   rw[e1]
   cases b with
   | false=>rfl
   | true=>rw[y] at hf;exact absurd rfl hf
  have alls:∀ c,cY g c->cY ps c:=λc #[u,hu,O]=>by
   obtain ⟨b,s,h0,rfl⟩:=A u hu
   exact #[s,h0,by rw[<- (bx b s).2.2.1];exact O]
  have lift:∀ {H':Hp} {qs:List It3},BehindX K H H' g qs->BehindX K H H' ps qs:=λ{H' qs} B=>by
   refine #[λb o hb hn=>B.frame b o hb λu hu hf R=>?_,Paired.ofGet ?_ λk u v eu ev=>?_,B.apart]
   .obtain ⟨F,s,h0,rfl⟩:=A u hu
    obtain ⟨_,t,_,W⟩:=bx F s
    rcases W with f | f
    .exact hn s h0 (by rw[<- f];exact hf) (by rw[<- t];exact R)
    .rw[f] at hf;cases hf
   .rw[<- ρ];exact Paired.length B.back
   .obtain ⟨b,_,t⟩:=jr (mask:=mask) hl eu
    rw[w] at t
    have b1:=Paired.at B.back t ev
    obtain ⟨a1,a2,S,a4⟩:=bx b u
    refine #[λhz=>?_,by rw[b1.v,a2],?_,b1.arg,λc O=>(b1.src c O).imp id (alls c),λhf F I=>?_]
    .have:cF b u=u:=by
      cases b
      .rfl
      .obtain ⟨d,v,L,f⟩:=u
       have hz:f=.z:=hz
       subst hz;rfl
     rw[<- this]
     exact b1.z (by rw[this];exact hz)
    .rcases b1.f with h | h
     .rcases a4 with f | f
      .exact .inl (h.trans f)
      .exact .inr (h.trans f)
     .exact .inr h
    .rcases a4 with f | f
     .exact b1.there (by rw[f];exact hf) F (by rw[a2];exact I)
     .-- lowered: as it was
      obtain ⟨_,a,L',v1,v2,_⟩:=(ha u (Fv eu)).own (by rw[hf];intro q;cases q)
      rw[I] at v1;cases v1
      have τ:=b1.z f
      have r:=b1.arg.rep
      rw[τ,a1,a2,S] at r
      exact (r.inH F (by rw[v2];exact Fe)).ex
  have σ:g.length<=n:=by lia
  have wf:=pd (K:=K) (H:=H) (n:=n) (pr:=prM mask) σ M P N
  rw[R] at wf
  refine #[gOf H (prM mask) ((ps.map (·.v)).map some++List.replicate (n - (ps.map (·.v)).length) none) g,rfl,?_]
  have h0:∀ (i:Nat) (u:It3),g[i]?=some u->((ps.map (·.v)).map some++List.replicate (n - (ps.map (·.v)).length) none)[i]?=some (some u.v):=λi u e=>jE (by rw[<- R];exact tq e)
  unfold fn0 at l
  cases e:m (entry n (g.map λp=>(p.d,p.f))) with
  | none=>rw[e] at l;exact nsE l
  | some rr =>
   obtain ⟨r,Z2⟩:=rr
   rw[e] at l
   refine tS.mk (r:=r) (Le.refl K _ _) wf e ?_
   have fin:∀ {x:It3} {U':St} {H':Hp} {g':Nat->Option It3} {d:D} {f:Fl},Wf K (gOf H (prM mask) ((ps.map (·.v)).map some++List.replicate (n - (ps.map (·.v)).length) none) g) H' U' Z2 [x] g'->x.d=d->x.f=f ->
     ((dM Z2 0 (g.map λp=>(p.d,p.f))).map λfs=>((.ok (d,f),fs):Except D (D×Fl)×List (D×Fl)))=some (.ok p,fs)->Q x.v H':=λ{x U' H' g' d f} J xd xf l=>by
    cases C:dM Z2 0 (g.map λp=>(p.d,p.f)) with
    | none=>rw[C] at l;exact nsE l
    | some fs' =>
     rw[C] at l
     cases l
     obtain ⟨qs,B,τ⟩:=lG (n:=n) M P N h0 J C
     have BX:=lift B.toBehindX
     exact q x qs H' #[BX,B.rep,B.own,λc O=>(B.src c O).imp id (alls c),B.apx] xd xf τ
   cases r with
   | error er=>
    dsimp only at l
    cases C:dM Z2 0 (g.map λp=>(p.d,p.f)) with
    | none=>rw[C] at l;exact nsE l
    | some fs'=>rw[C] at l;cases l
   | ok fl =>
    cases fl with
    | nx =>
     intro U' H' g' J
     obtain ⟨Ts,g2,w2,a2⟩:=J.const .non
     obtain ⟨x,rfl,x1,V,x3⟩:=a2.val_inv
     have:=fin w2 x1 V l
     rw[x3] at this
     exact this
    | br=>exact nsE l
    | ct=>exact nsE l
    | rt d f =>
     intro x U' H' g' J x1 V
     exact fin J x1 V l
 .exact nsE l
end
abbrev bf (P:Program) (w:World) (K:FG) (mg:Str->Option Value) (base:Heap) (x:Str) (k:Nat) (ps:List Str) (F:Fn):Prop:=Callee P w K mg base x k ps (qR K F)
theorem bu {k:Nat} {nn:Nat} (D:Def K mg x st) (S:FnScope N ps (ah st)) (c:mask.length=ps.length) (b:N.length=nn) (d:∀ (kV doc pm:Value) (an:Option Addr) (a ct:Value) (us:List Value),us.length=ps.length->bindArgs (PySem.W.fnOf x x (aK st) (aG st) (ah st) .none kV doc pm an a ct) #[us,[]]=pure (ps.zip us)) (body:∀ (a:Value) (A:Around) (outer:List Env) (s:Shared) (H:Hp) (E:XK) (f:Addr) (G:Gm),Room k (A.deeper (PyProof.Rows.envOfC x (ah st) s.heap.objs.size f a))->G.pr=prM mask->RSs (dD CX0 P w K mg base N x (ah st) f a A outer s H E).nox G noX (aG st) m) :
  bf P w K mg base x (k+1) ps (fnM mask nn m):=by
 refine D.callee d λf fd F=>F.ok S (λvs H Q E h=>?_) λa A outer s H vs Q E j h=>?_
 .obtain ⟨i,p,fs,rfl,_,_,l,_⟩:=h
  unfold fnM at l
  grind
 .have hle:mask.length<=nn:=by
   rw[c,<- b]
   have:=congrArg List.length S.pre
   rw[FP] at this
   omega
  obtain ⟨G,e,g⟩:=oH hle h
  subst b
  exact #[_,(body a A outer s H E f G j e).h,g]
theorem Ak {k:Nat} (c:bf X.prog X.w X.K X.mg X.base x k ps F) (d:Room k X.A) (ha:RA X G0 W0 (e::es) ms) (f:Gl X x) (a:(x == ("__debug__":Str))=false) (he:starEach (e::es) X.env=(false,eval e X.env)::starEach es X.env) (b:(backTo pos (starEach es X.env)).any (·.1)=false):RE X G0 W0 (.Call (.Name x p) (e::es) [] pos) (ay F ms) :=
 #[PE.imp (pe_fn c d ha.h f a he b) λ_ _ _ h=>pv h]
def orD (f g:D->D->Option (D×Fl)) (a b:D):Option (D×Fl):=match f a b with
 | some p=>some p
 | none=>g a b
section
variable {K:FG} {H:Hp} {Ks:Addr->Prop} {d:D} {v:V} {L:List Addr} {X:Cx}
theorem bI (r:Rep K H d v []):New K H H Ks #[d,v,[],.z]:=#[Same.refl _,r,λ_ h=>(by cases h),λh=>absurd rfl h]
theorem pZ (r:Rep K H d v L) (h:∀ c∈L,Ks c):New K H H Ks #[d,v,L,.z]:=#[Same.refl _,r,λc a=>.inr (h c a),λh=>absurd rfl h]
theorem uP (a:H p=none) (r:Reps (Rep K H) ds vs L) (h:∀ c∈L,Ks c):New K H (upd H p (.lst vs)) Ks #[.lst ds,.ref p,p::L,.u]:=by
 have np:p ∉ L:=λd=>by obtain ⟨o,b⟩:=(r.inH p d).ex;rw[a] at b;exact nsE b
 refine #[bH a,.lst aI (r.same (bH a)),λc d=>?_,λ_=>#[rfl,p,L,rfl,rfl,np,a]]
 grind
theorem xD (a:H p=none) (r:Reps (Rep K H) ds vs L) (h:∀ c∈L,Ks c):New K H (upd H p (.tup vs)) Ks #[.tup ds,.ref p,L,.z] :=
 #[bH a,.tup aI (r.same (bH a)),λc b=>.inr (h c b),λh=>absurd rfl h]
theorem jP (b:y∈ys) (h:Arg K H y) (hm:ju y.d=false):∀ c∈y.L,dE ys c:=λc a=>⟨y,b,a,λhf=>by
 have:=(h.own hf).1
 rw[hm] at this;cases this⟩
theorem ol (i:y∈ys) (h:Arg K H y) (d:y.v=.ref a) (b:y.L=a::L):∀ c∈L,dE ys c:=λc f=>⟨y,i,by rw[b];exact Ff _ f,λhf e=>by
 obtain ⟨_,j,L',v1,v2,g⟩:=h.own hf
 rw[d] at v1;cases v1
 rw[b] at v2;cases v2
 rw[d] at e;cases e
 exact g f⟩
theorem OpD.or (h:OpD K r f) (h':OpD K r' g):OpD K (λx y H Q=>r x y H Q\/r' x y H Q) (orD f g):=λa b H Q p ra rb e q=>by
 unfold orD at e
 cases c:f a.d b.d with
 | some p'=>rw[c] at e;cases e;exact .inl (h a b H Q _ ra rb c q)
 | none=>rw[c] at e;exact .inr (h' a b H Q p ra rb e q)
def dZ (C:Int->Int->Bool) (g:Int->Int->D):D->D->Option (D×Fl)
 | .int i,.int j=>if C i j then #v[g i j] else none
 | _,_=>none
set_option tactic.hygienic true in
theorem ir (c:∀ i j,Cb i j=true->C i j) (f:∀ i j H,Rep K H (gd i j) (g i j) []):OpD K (rI C g) (dZ Cb gd):=λa b H Q p ra rb e q=>by
 obtain ⟨da,r,k,n⟩:=a
 obtain ⟨db,l,m,h⟩:=b
 obtain ⟨ra,o⟩:=ra
 obtain ⟨rb,ob⟩:=rb
 dsimp only at ra rb
 cases da <;> try (exact nsE e)
 rename_i i
 obtain ⟨rfl,rfl⟩:=ra.view
 cases db <;> try (exact nsE e)
 rename_i j
 obtain ⟨rfl,rfl⟩:=rb.view
 have e:(if Cb i j then some (gd i j,Fl.z) else none)=some p:=e
 split at e
 .rename_i d
  cases e
  exact #[i,j,rfl,rfl,c i j d,q #[gd i j,g i j,[],.z] H (bI (f i j H)) rfl rfl]
 .exact nsE e
theorem rI_of:rI0 g=rI (λ_ _=>True) g:=by
 funext x y H Q
 unfold rI0 rI
 grind
theorem gl (a:∀ i j H,Rep K H (gd i j) (g i j) []):OpD K (rI0 g) (dZ (λ_ _=>true) gd):=by
 rw[rI_of]
 exact ir (λ_ _ _=>trivial) a
abbrev qJ:Int->Int->Bool:=λ_ _=>true
abbrev addI:=dZ qJ λi j=>.int (i+j)
abbrev dB:=dZ qJ λi j=>.int (i - j)
abbrev cK:=dZ (λi j=>decide ((-(2 ^ 64) < i/\i < 2 ^ 64)\/(-(2 ^ 64) < j/\j < 2 ^ 64))) λi j=>.int (i * j)
abbrev rA:=dZ (λ_ j=>decide (0 < j)) λi j=>.int (i % j)
abbrev rh:=dZ (λi j=>decide (0<=j/\j<=1000000/\i.natAbs < 2 ^ 64)) λi j=>.int (i ^ j.toNat)
abbrev ltI:=dZ qJ λi j=>.bl (decide (i < j))
abbrev leI:=dZ qJ λi j=>.bl (decide (i<=j))
abbrev gtI:=dZ qJ λi j=>.bl (decide (j < i))
theorem od_addI:OpD K (rI0 λi j=>.int (i+j)) addI:=gl λi j _=>.int _
theorem AJ:OpD K (rI0 λi j=>.int (i - j)) dB:=gl λi j _=>.int _
theorem od_mulI:OpD K (rI CMul λi j=>.int (i * j)) cK:=ir (λi j h=>by simpa[CMul,vM,zj] using h) λi j _=>.int _
theorem AO:OpD K (rI (λ_ j=>0 < j) λi j=>.int (i % j)) rA:=ir (λi j h=>by simpa[CMul,vM,zj] using h) λi j _=>.int _
theorem AK:OpD K (rI zj λi j=>.int (i ^ j.toNat)) rh:=ir (λi j h=>by simpa[CMul,vM,zj] using h) λi j _=>.int _
theorem BS:OpD K (rI0 λi j=>.bl (decide (i < j))) ltI:=gl λi j _=>.bl _
theorem xx:OpD K (rI0 λi j=>.bl (decide (i<=j))) leI:=gl λi j _=>.bl _
theorem BT:OpD K (rI0 λi j=>.bl (decide (j < i))) gtI:=gl λi j _=>.bl _
def E2:D->D->Option (D×Fl)
 | .tup xs,.tup ys=>if xs.length+ys.length<=16777216 then #v[.tup (xs++ys)] else none
 | _,_=>none
def E3:D->D->Option (D×Fl)
 | .lst xs,.lst ys=>if xs.length+ys.length<=16777216 then some (.lst (xs++ys),.u) else none
 | _,_=>none
def Bt:D->D->Option (D×Fl)
 | .str xs,.str ys=>if xs.length+ys.length<=16777216 then #v[.str (xs++ys)] else none
 | _,_=>none
theorem Reps.len (r:Reps (Rep K H) ds vs L):ds.length=vs.length:=by
 induction r with
 | nil=>rfl
 | cons _ _ ih=>simp[ih]
theorem Reps.append (r:Reps (Rep K H) ds vs L) (b:Reps (Rep K H) ds' vs' L'):Reps (Rep K H) (ds++ds') (vs++vs') (L++L'):=by
 induction r with
 | nil=>exact b
 | cons a _ ih=>rw[List.append_assoc];exact .cons a ih
theorem Reps.nil_iff (r:Reps (Rep K H) ds vs L):ds=[] ↔ vs=[]:=by cases r <;> simp
def nN (K:FG):R2:=λx y H Q=>∃ a b ys,x=.ref a/\y=.ref b/\SqT K H a []/\SqT K H b ys/\Q (.ref b) H
theorem xv:OpR X (binaryOp .Add) (nN X.K):=by
 intro pins s U H x y v u Q I r o h
 obtain ⟨a,b,ys,rfl,rfl,ha,m,q⟩:=h
 cases r
 cases o
 obtain ⟨its,w,p,_⟩:=I.tuple ha
 obtain ⟨l,z,p2,_⟩:=I.tuple m
 have e:its=[]:=w.nil_iff.mpr rfl
 subst e
 obtain ⟨⟨cls,dd,data,sl⟩,i,j,n,hd⟩:=id p
 obtain ⟨⟨k,f,data2,g⟩,d,c,t,hd2⟩:=id p2
 simp only at j hd c hd2
 subst j hd c hd2
 exact concat_meets #[_,i,rfl] #[_,d,rfl] noFill_tuple_add seq_tuple_add PySem.F.slot_tuple_add PySem.F.entry_tuple_add (PySem.F.args_tuple_add_2 _ _)
   (PyProof.Rows.tuple_addW0 a b _ _ n t dd f sl g (by simp)) #[i,d,#[.ref b,H,I,rfl,q]]
set_option tactic.hygienic true in
theorem od_catT:OpD K (λx y H Q=>sT K x y H Q\/nN K x y H Q) E2:=λa b H Q p ra rb e q=>by
 obtain ⟨da,w,k,r⟩:=a
 obtain ⟨db,v,j,o⟩:=b
 obtain ⟨ra,s⟩:=ra
 obtain ⟨rb,ob⟩:=rb
 dsimp only at ra rb
 cases da <;> try (exact nsE e)
 rename_i xs
 obtain ⟨g,vs,rfl,ha,rs⟩:=ra.view
 cases db <;> try (exact nsE e)
 rename_i ys
 obtain ⟨f,ws,rfl,i,d⟩:=rb.view
 have e:(if xs.length+ys.length<=16777216 then some (D.tup (xs++ys),Fl.z) else none)=some p:=e
 split at e
 .rename_i hl
  cases e
  by_cases l:vs=[]
  .have n:=rs.nil_iff.mpr l
   subst l n
   refine .inr #[g,f,ws,rfl,rfl,SqT.of ha,SqT.of i,?_]
   exact q #[.tup ys,.ref f,j,.z] H (pZ (.tup i d) (jP (y:=#[.tup ys,.ref f,j,o]) (Ff _ (FT.mpr rfl)) #[.tup i d,ob] rfl)) rfl rfl
  .refine .inl #[g,f,vs,ws,rfl,rfl,SqT.of ha,SqT.of i,l,by rw[<- rs.len,<- d.len,<- szl];exact hl,λhw=>?_,λhw p t=>?_]
   .have m:=d.nil_iff.mpr hw
    subst m
    refine q #[.tup (xs++[]),.ref g,k,.z] H (pZ (by rw[List.append_nil];exact .tup ha rs) (jP (y:=#[.tup xs,.ref g,k,r]) Fe #[.tup ha rs,s] rfl)) rfl rfl
   .refine q #[.tup (xs++ys),.ref p,k++j,.z] _ (xD t (rs.append d) λc u=>?_) rfl rfl
    rcases Fq.mp u with h | h
    .exact jP (y:=#[.tup xs,.ref g,k,r]) Fe #[.tup ha rs,s] rfl c h
    .exact jP (y:=#[.tup ys,.ref f,j,o]) (Ff _ (FT.mpr rfl)) #[.tup i d,ob] rfl c h
 .exact nsE e
set_option tactic.hygienic true in
theorem AS:OpD K Am E3:=λa b H Q p ra rb e q=>by
 obtain ⟨da,t,f,o⟩:=a
 obtain ⟨db,s,j,l⟩:=b
 obtain ⟨ra,r⟩:=ra
 obtain ⟨rb,ob⟩:=rb
 dsimp only at ra rb
 cases da <;> try (exact nsE e)
 rename_i xs
 obtain ⟨i,vs,f,rfl,rfl,ha,rs⟩:=ra.view
 cases db <;> try (exact nsE e)
 rename_i ys
 obtain ⟨g,ws,j,rfl,rfl,k,d⟩:=rb.view
 have e:(if xs.length+ys.length<=16777216 then some (D.lst (xs++ys),Fl.u) else none)=some p:=e
 split at e
 .rename_i hl
  cases e
  refine #[i,g,vs,ws,rfl,rfl,ha,k,by rw[<- rs.len,<- d.len,<- szl];exact hl,λp m=>?_]
  refine q #[.lst (xs++ys),.ref p,p::(f++j),.u] _ (uP m (rs.append d) λc n=>?_) rfl rfl
  rcases Fq.mp n with h | h
  .exact ol (y:=#[.lst xs,.ref i,i::f,o]) Fe #[.lst ha rs,r] rfl rfl c h
  .exact ol (y:=#[.lst ys,.ref g,g::j,l]) (Ff _ (FT.mpr rfl)) #[.lst k d,ob] rfl rfl c h
 .exact nsE e
set_option tactic.hygienic true in
theorem od_catS:OpD K (λx y H Q=>∃ i j,x=.str i/\y=.str j/\i.length+j.length<=sizeLine/\Q (.str (i++j)) H) Bt:=λa b H Q p ra rb e q=>by
 obtain ⟨da,l,d,h⟩:=a
 obtain ⟨db,f,g,c⟩:=b
 obtain ⟨ra,k⟩:=ra
 obtain ⟨rb,ob⟩:=rb
 dsimp only at ra rb
 cases da <;> try (exact nsE e)
 rename_i i
 obtain ⟨rfl,rfl⟩:=ra.view
 cases db <;> try (exact nsE e)
 rename_i j
 obtain ⟨rfl,rfl⟩:=rb.view
 have e:(if i.length+j.length<=16777216 then some (D.str (i++j),Fl.z) else none)=some p:=e
 split at e
 .rename_i hl
  cases e
  exact #[i,j,rfl,rfl,by rw[<- szl];exact hl,q #[.str (i++j),.str (i++j),[],.z] H (bI (.str _)) rfl rfl]
 .exact nsE e
abbrev aH:=orD addI (orD Bt (orD E2 E3))
theorem Ef:OpD K (λx y H Q=>rI0 (λi j=>.int (i+j)) x y H Q\/((∃ i j,x=.str i/\y=.str j/\i.length+j.length<=sizeLine/\Q (.str (i++j)) H)\/((sT K x y H Q\/nN K x y H Q)\/Am x y H Q))) aH:=od_addI.or (od_catS.or (od_catT.or AS))
theorem AF:OpR X (binaryOp .Add) (λx y H Q=>rI0 (λi j=>.int (i+j)) x y H Q\/((∃ i j,x=.str i/\y=.str j/\i.length+j.length<=sizeLine/\Q (.str (i++j)) H)\/((sT X.K x y H Q\/nN X.K x y H Q)\/Am x y H Q))):=op_add.or (op_add_str.or ((op_catT.or xv).or Ea))
def eqS:D->D->Option Bool
 | .non,.non=>some true | .non,.int _=>some false | .int _,.non=>some false | .non,.bl _=>some false | .bl _,.non=>some false | .non,.str _=>some false | .str _,.non=>some false
 | .int i,.int j=>some (decide (i=j)) | .bl i,.bl j=>some (decide (i=j)) | .str i,.str j=>some (decide (i=j))
 | .int _,.str _=>some false | .str _,.int _=>some false | .bl _,.str _=>some false | .str _,.bl _=>some false
 | _,_=>none
theorem yD (ra:Rep K H a u L) (rb:Rep K H b v L') (e:eqS a b=some k):CY u v=true/\k=decide (u=v):=by
 cases a <;> cases b <;> first | exact nsE e | (obtain ⟨rfl,rfl⟩:=ra.view;obtain ⟨rfl,rfl⟩:=rb.view;cases e;exact #[rfl,by simp])
def iK:D->Bool
 | .non=>true
 | _=>false
def isN:D->D->Option (D×Fl)
 | a,.non=>#v[.bl (iK a)]
 | _,_=>none
def xB:D->D->Option (D×Fl)
 | a,.non=>#v[.bl (!iK a)]
 | _,_=>none
theorem Rep.non_iff (ra:Rep K H a u L):iK a=decide (u=.non):=by cases ra <;> simp[iK]
theorem xy:OpD K (λx y H Q=>y=.non/\Q (.bl (decide (x=.non))) H) isN:=λa b H Q p ra rb e q=>by
 obtain ⟨db,d,f,c⟩:=b
 obtain ⟨rb,ob⟩:=rb
 dsimp only at rb
 cases db <;> try (exact nsE e)
 obtain ⟨rfl,rfl⟩:=rb.view
 unfold isN at e
 cases e
 refine #[rfl,?_]
 rw[<- ra.rep.non_iff]
 exact q #[_,_,[],.z] H (bI (.bl _)) rfl rfl
theorem AL:OpD K (λx y H Q=>y=.non/\Q (.bl (!decide (x=.non))) H) xB:=λa b H Q p ra rb e q=>by
 obtain ⟨db,d,f,c⟩:=b
 obtain ⟨rb,ob⟩:=rb
 dsimp only at rb
 cases db <;> try (exact nsE e)
 obtain ⟨rfl,rfl⟩:=rb.view
 unfold xB at e
 cases e
 refine #[rfl,?_]
 rw[<- ra.rep.non_iff]
 exact q #[_,_,[],.z] H (bI (.bl _)) rfl rfl
def fN:D->Option (D×Fl)
 | .int i=>#v[.int (-i)]
 | _=>none
theorem Cm:UnD K (rU λi=>.int (-i)) fN:=λa H Q p ra e q=>by
 obtain ⟨da,f,b,c⟩:=a
 obtain ⟨ra,d⟩:=ra
 dsimp only at ra
 cases da <;> try (exact nsE e)
 obtain ⟨rfl,rfl⟩:=ra.view
 cases e
 exact #[_,rfl,q #[_,_,[],.z] H (bI (.int _)) rfl rfl]
theorem Reps.at:∀ {ds:List D} {vs:List V} {L:List Addr} {i:Nat} {d:D},Reps (Rep K H) ds vs L->ds[i]?=some d->∃ v L',vs[i]?=some v/\Rep K H d v L'/\∀ c∈L',c∈L
 | _,_,_,_,_,.nil,h=>by simp at h
 | _,_,_,0,_,.cons r _,h=>by simp at h;subst h;exact #[_,_,rfl,r,λc j=>Fi _ j]
 | _,_,_,i+1,_,.cons _ t,h=>by
  obtain ⟨v,L',h1,h2,h3⟩:=Reps.at (i:=i) t (by simpa using h)
  exact #[v,L',by simpa using h1,h2,λc j=>Fj _ (h3 c j)]
theorem Reps.atI {i:Int} (r:Reps (Rep K H) ds vs L) (h:atI ds i=some d):∃ v L',atI vs i=some v/\Rep K H d v L'/\∀ c∈L',c∈L:=by
 unfold L2.atI at h ⊢
 rw[<- r.len]
 cases e:ixN ds.length i with
 | none=>rw[e] at h;exact nsE h
 | some j=>rw[e] at h;exact r.at h
def ixD:D->D->Option (D×Fl)
 | .lst xs,.int i=>(atI xs i).map λd=>(d,.z)
 | .fls xs,.int i=>(atI xs i).map λd=>(d,.z)
 | .tup xs,.int i=>(atI xs i).map λd=>(d,.z)
 | _,_=>none
set_option tactic.hygienic true in
theorem od_ix:OpD K (λx y H Q=>wX K x y H Q\/wW K x y H Q) ixD:=λa b H Q p ra rb e q=>by
 obtain ⟨da,o,j,k⟩:=a
 obtain ⟨db,m,n,l⟩:=b
 obtain ⟨rb,ob⟩:=rb
 have g:=ra
 obtain ⟨ra,r⟩:=ra
 dsimp only at ra rb
 cases da <;> try (exact nsE e)
 all_goals (cases db <;> try (exact nsE e))
 all_goals (rename_i xs i;obtain ⟨rfl,rfl⟩:=rb.view)
 .obtain ⟨f,vs,rfl,ha,rs⟩:=ra.view
  obtain ⟨d,h1,h2⟩:=Fh.mp (show (atI xs i).map (λd=>(d,Fl.z))=some p from e)
  subst h2
  obtain ⟨v,L',g1,g2,g3⟩:=rs.atI h1
  refine .inr #[f,vs,i,v,rfl,rfl,SqT.of ha,g1,q #[d,v,L',.z] H (pZ g2 λc h=>?_) rfl rfl]
  exact jP (y:=#[.tup xs,.ref f,j,k]) Fe g rfl c (g3 c h)
 .obtain ⟨f,vs,j,rfl,rfl,ha,rs⟩:=ra.view
  obtain ⟨d,h1,h2⟩:=Fh.mp (show (atI xs i).map (λd=>(d,Fl.z))=some p from e)
  subst h2
  obtain ⟨v,L',g1,g2,g3⟩:=rs.atI h1
  refine .inl #[f,vs,i,v,rfl,rfl,SqL.of ha,g1,q #[d,v,L',.z] H (pZ g2 λc h=>?_) rfl rfl]
  exact ol (y:=#[.lst xs,.ref f,f::j,k]) Fe g rfl rfl c (g3 c h)
 .obtain ⟨f,vs,rfl,ha,rs⟩:=ra.view
  obtain ⟨d,h1,h2⟩:=Fh.mp (show (atI xs i).map (λd=>(d,Fl.z))=some p from e)
  subst h2
  obtain ⟨v,L',g1,g2,g3⟩:=rs.atI h1
  refine .inl #[f,vs,i,v,rfl,rfl,ha.sq,g1,q #[d,v,L',.z] H (pZ g2 λc h=>?_) rfl rfl]
  exact jP (y:=#[.fls xs,.ref f,j,k]) Fe g rfl c (g3 c h)
theorem ix_ok:IxR X (λx y H Q=>wX X.K x y H Q\/wW X.K x y H Q):=ix_list.or Ez
end
section
variable {K:FG} {H:Hp} {Ks:Addr->Prop} {d:D} {v:V} {L:List Addr} {X:Cx}
def c1 (f:D->Option (D×Fl)):List D->Option (D×Fl)
 | [d]=>f d
 | _=>none
def c2 (f:D->D->Option (D×Fl)):List D->Option (D×Fl)
 | [d,d']=>f d d'
 | _=>none
theorem eF {ys:List It3} (e:c1 f (ys.map (·.d))=some p):∃ y,ys=[y]/\f y.d=some p:=by
 match ys,e with
 | [],e=>exact nsE e
 | [y],e=>exact #[y,rfl,e]
 | _::_::_,e=>exact nsE e
theorem lE {ys:List It3} (e:c2 f (ys.map (·.d))=some p):∃ y z,ys=[y,z]/\f y.d z.d=some p:=by
 match ys,e with
 | [],e=>exact nsE e
 | [_],e=>exact nsE e
 | [y,z],e=>exact #[y,z,rfl,e]
 | _::_::_::_,e=>exact nsE e
def Eo:D->Option (D×Fl)
 | .lst xs=>#v[.int xs.length]
 | .fls xs=>#v[.int xs.length]
 | .tup xs=>#v[.int xs.length]
 | _=>none
abbrev bL:=c1 Eo
set_option tactic.hygienic true in
theorem EW:b8 K (λxs H Q=>∃ p ys,xs=[.ref p]/\(SqL K H p ys\/SqT K H p ys)/\Q (.int ys.length) H) bL:=λys H Q p ra e q=>by
 obtain ⟨y,rfl,c⟩:=eF e
 clear e
 have e:=c
 clear c
 have b:=(ra y Fe).rep
 obtain ⟨da,g,d,f⟩:=y
 dsimp only at b e
 cases da <;> try (exact nsE e)
 .rename_i xs
  obtain ⟨a,vs,rfl,ha,rs⟩:=b.view
  cases e
  exact #[a,vs,rfl,.inr (SqT.of ha),by rw[<- rs.len];exact q #[_,_,[],.z] H (bI (.int _)) rfl rfl]
 .rename_i xs
  obtain ⟨a,vs,d,rfl,rfl,ha,rs⟩:=b.view
  cases e
  exact #[a,vs,rfl,.inl (SqL.of ha),by rw[<- rs.len];exact q #[_,_,[],.z] H (bI (.int _)) rfl rfl]
 .rename_i xs
  obtain ⟨a,vs,rfl,ha,rs⟩:=b.view
  cases e
  exact #[a,vs,rfl,.inl ha.sq,by rw[<- rs.len];exact q #[_,_,[],.z] H (bI (.int _)) rfl rfl]
def tupQ:D->Option (D×Fl)
 | .lst xs=>#v[.tup xs]
 | .tup xs=>#v[.tup xs]
 | _=>none
abbrev lJ:=c1 tupQ
set_option tactic.hygienic true in
theorem EU:b8 K (λxs H Q=>∃ p ys,xs=[.ref p]/\((SqL K H p ys/\∀ l,H l=none->Q (.ref l) (upd H l (.tup ys)))\/(SqT K H p ys/\Q (.ref p) H))) lJ:=λys H Q p ra e q=>by
 obtain ⟨y,rfl,f⟩:=eF e
 clear e
 have e:=f
 clear f
 have c:=ra y Fe
 have d:=c.rep
 obtain ⟨da,h,b,g⟩:=y
 dsimp only at d e
 cases da <;> try (exact nsE e)
 .rename_i xs
  obtain ⟨a,vs,rfl,ha,rs⟩:=d.view
  cases e
  exact #[a,vs,rfl,.inr #[SqT.of ha,q #[.tup xs,.ref a,b,.z] H (pZ (.tup ha rs) (jP (y:=#[.tup xs,.ref a,b,g]) Fe c rfl)) rfl rfl]]
 .rename_i xs
  obtain ⟨a,vs,b,rfl,rfl,ha,rs⟩:=d.view
  cases e
  exact #[a,vs,rfl,.inl #[SqL.of ha,λl hl=>q #[.tup xs,.ref l,b,.z] _ (xD hl rs (ol (y:=#[.lst xs,.ref a,a::b,g]) Fe c rfl rfl)) rfl rfl]]
def lstQ:D->Option (D×Fl)
 | .lst xs=>some (.lst xs,.u)
 | .tup xs=>some (.lst xs,.u)
 | _=>none
abbrev A3:=c1 lstQ
set_option tactic.hygienic true in
theorem EV:b8 K (λxs H Q=>∃ p ys,xs=[.ref p]/\(SqL K H p ys\/SqT K H p ys)/\∀ l,H l=none->Q (.ref l) (upd H l (.lst ys))) A3:=λys H Q p ra e q=>by
 obtain ⟨y,rfl,f⟩:=eF e
 clear e
 have e:=f
 clear f
 have c:=ra y Fe
 have d:=c.rep
 obtain ⟨da,h,b,g⟩:=y
 dsimp only at d e
 cases da <;> try (exact nsE e)
 .rename_i xs
  obtain ⟨a,vs,rfl,ha,rs⟩:=d.view
  cases e
  exact #[a,vs,rfl,.inr (SqT.of ha),λl hl=>q #[.lst xs,.ref l,l::b,.u] _ (uP hl rs (jP (y:=#[.tup xs,.ref a,b,g]) Fe c rfl)) rfl rfl]
 .rename_i xs
  obtain ⟨a,vs,b,rfl,rfl,ha,rs⟩:=d.view
  cases e
  exact #[a,vs,rfl,.inl (SqL.of ha),λl hl=>q #[.lst xs,.ref l,l::b,.u] _ (uP hl rs (ol (y:=#[.lst xs,.ref a,a::b,g]) Fe c rfl rfl)) rfl rfl]
def absQ:D->Option (D×Fl)
 | .int i=>#v[.int (if i < 0 then -i else i)]
 | _=>none
abbrev absD:=c1 absQ
theorem Rep.int_inv {i:Int} (r:Rep K H (.int i) v L):v=.int i:=by cases r;rfl
theorem EZ:b8 K (λxs H Q=>∃ i,xs=[.int i]/\Q (.int (if i < 0 then -i else i)) H) absD:=λys H Q p ra e q=>by
 obtain ⟨y,rfl,a⟩:=eF e
 clear e
 have e:=a
 clear a
 have b:=(ra y Fe).rep
 obtain ⟨da,f,c,d⟩:=y
 dsimp only at b e
 cases b <;> try (exact nsE e)
 cases e
 exact #[_,rfl,q #[_,_,[],.z] H (bI (.int _)) rfl rfl]
def qm (C:Int->Int->Bool) (g:Int->Int->D):D->D->Option (D×Fl)
 | .int i,.int j=>if C i j then #v[g i j] else none
 | _,_=>none
set_option tactic.hygienic true in
theorem jR (e:qm C g a b=some p):∃ i j,a=.int i/\b=.int j/\C i j=true/\p=(g i j,.z):=by
 cases a <;> cases b <;> try (exact nsE e)
 rename_i i j
 have e:(if C i j then some (g i j,Fl.z) else none)=some p:=e
 split at e
 .rename_i h;cases e;exact #[i,j,rfl,rfl,h,rfl]
 .exact nsE e
abbrev BY:=c2 (qm qJ λi j=>.int (if j > i then j else i))
abbrev BW:=c2 (qm qJ λi j=>.int (if j < i then j else i))
abbrev yF:=c2 (qm (λ_ j=>decide (0 < j/\j < 1073741824)) λi j=>.tup [.int (i / j),.int (i % j)])
theorem Bo:b8 K (λxs H Q=>∃ i j,xs=[.int i,.int j]/\Q (.int (if j > i then j else i)) H) BY:=λys H Q p ra e q=>by
 obtain ⟨y,z,rfl,c⟩:=lE e
 clear e
 have e:=c
 clear c
 obtain ⟨i,j,d,f,_,rfl⟩:=jR e
 have b:=(ra y Fe).rep
 have a:=(ra z (Ff _ Fe)).rep
 rw[d] at b
 rw[f] at a
 refine #[i,j,?_,q #[_,_,[],.z] H (bI (.int _)) rfl rfl]
 show [y.v,z.v]=_
 rw[b.int_inv,a.int_inv]
theorem Bm:b8 K (λxs H Q=>∃ i j,xs=[.int i,.int j]/\Q (.int (if j < i then j else i)) H) BW:=λys H Q p ra e q=>by
 obtain ⟨y,z,rfl,c⟩:=lE e
 clear e
 have e:=c
 clear c
 obtain ⟨i,j,d,f,_,rfl⟩:=jR e
 have b:=(ra y Fe).rep
 have a:=(ra z (Ff _ Fe)).rep
 rw[d] at b
 rw[f] at a
 refine #[i,j,?_,q #[_,_,[],.z] H (bI (.int _)) rfl rfl]
 show [y.v,z.v]=_
 rw[b.int_inv,a.int_inv]
theorem vn:b8 K (λxs H Q=>∃ i j,xs=[.int i,.int j]/\vM i j/\∀ p,H p=none->Q (.ref p) (upd H p (.tup [.int (i / j),.int (i % j)]))) yF:=λys H Q p ra e q=>by
 obtain ⟨y,z,rfl,f⟩:=lE e
 clear e
 have e:=f
 clear f
 obtain ⟨i,j,k,h,a,rfl⟩:=jR e
 have d:=(ra y Fe).rep
 have b:=(ra z (Ff _ Fe)).rep
 rw[k] at d
 rw[h] at b
 refine #[i,j,?_,by simpa[vM] using a,λp g=>q #[_,.ref p,[],.z] _ (xD g (L:=[]) (.cons (L:=[]) (.int _) (.cons (L:=[]) (.int _) .nil)) λc a=>by cases a) rfl rfl]
 show [y.v,z.v]=_
 rw[d.int_inv,b.int_inv]
def fK:List D->Option (List Bool)
 | []=>some []
 | .bl b::ds=>(fK ds).map (b::·)
 | _=>none
set_option tactic.hygienic true in
theorem jy:∀ {ds:List D} {bs:List Bool},fK ds=some bs->ds=bs.map D.bl
 | [],bs,e=>by cases e;rfl
 | d::ds,bs,e=>by
  cases d <;> try (exact nsE e)
  rename_i b
  obtain ⟨r,h1,h2⟩:=Fh.mp (show (fK ds).map (b::·)=some bs from e)
  subst h2
  rw[jy h1];rfl
theorem Reps.bls:∀ {bs:List Bool} {vs:List V} {L:List Addr},Reps (Rep K H) (bs.map D.bl) vs L->vs=bs.map V.bl
 | [],_,_,.nil=>rfl
 | b::bs,_,_,.cons r rs=>by
  rw[Reps.bls rs]
  cases r;rfl
def allQ:D->Option (D×Fl)
 | .lst xs=>(fK xs).map λbs=>(.bl (bs.all id),.z)
 | _=>none
abbrev vI:=c1 allQ
set_option tactic.hygienic true in
theorem EY:b8 K (λxs H Q=>∃ (a:Addr) (bs:List Bool),xs=[.ref a]/\SqL K H a (bs.map V.bl)/\Q (.bl (bs.all id)) H) vI:=λys H Q p ra e q=>by
 obtain ⟨y,rfl,b⟩:=eF e
 clear e
 have e:=b
 clear b
 have c:=(ra y Fe).rep
 obtain ⟨da,h,d,g⟩:=y
 dsimp only at c e
 cases da <;> try (exact nsE e)
 rename_i xs
 obtain ⟨f,vs,d,rfl,rfl,ha,rs⟩:=c.view
 obtain ⟨bs,h1,h2⟩:=Fh.mp (show (fK xs).map (λbs=>(D.bl (bs.all id),Fl.z))=some p from e)
 subst h2
 have:=jy h1
 subst this
 have:=rs.bls
 subst this
 exact #[f,bs,rfl,SqL.of ha,q #[_,_,[],.z] H (bI (.bl _)) rfl rfl]
def eE (xs:List D) (lo hi:Option Int):List D:=(xs.drop (HT.sIx xs.length 0 lo)).take (HT.sIx xs.length xs.length hi - HT.sIx xs.length 0 lo)
end
def BL:D->Option (List D)
 | .lst xs=>some xs
 | .fls xs=>some xs
 | .tup xs=>some xs
 | _=>none
def d8 (m:EM):IM:=ai m λr=>ai (der r) λd=>bc ((BL d).map λds=>([r],ds))
def iSeq (K:FG) (tl:TE):TI:=λU H R=>tl U H λx H1=>(∃ a,x=.ref a/\(∃ xs,SqL K H1 a xs)/\R (Itl K a) H1)\/∃ a,x=.ref a/\(∃ xs,SqT K H1 a xs)/\R (Itt K a) H1
theorem DJ (hl:PE X l tl):PI X tg l (iSeq X.K tl):=by
 intro pins s U H R I h
 exact thn (hl pins s U H _ I h) λv s1 #[x,H1,c,g,j]=>by
   rcases j with ⟨a,e,⟨xs,f⟩,q⟩ | ⟨a,e,⟨xs,f⟩,q⟩
   .subst e
    cases g
    obtain ⟨its,i,p,hz⟩:=c.list f
    refine wpAny_pyIter_list p.isList ?_
    refine #[s1.heap.objs.size,[s1.heap.objs.size],_,_,H1,rfl,c.kept (t':=s1.toks) λb o e=>Fg _ e,ul a _,#[_,Fs _ rfl,rfl,rfl],λb d=>?_,q]
    have e:b=s1.heap.objs.size:=by simpa using d
    subst e
    exact c.fpOk (FA _) (c.hok.fresh (FA _))
   .subst e
    cases g
    obtain ⟨its,i,p,hz⟩:=c.tuple f
    refine wpAny_pyIter_tuple (show s1.heap.IsTuple a its.toArray from p) ?_
    refine #[s1.heap.objs.size,[s1.heap.objs.size],_,_,H1,rfl,c.kept (t':=s1.toks) λb o e=>Fg _ e,qL a _,#[_,Fs _ rfl,rfl,rfl],λb d=>?_,q]
    have e:b=s1.heap.objs.size:=by simpa using d
    subst e
    exact c.fpOk (FA _) (c.hok.fresh (FA _))
section
variable {K:FG} {G G0:Gm} {W W0:D->Sto->Prop} {H H':Hp} {U:St} {Z Z':Sto} {T T':List It3} {g:Nat->Option It3} {x y z:It3} {α β:Type} {X:Cx}
theorem Ar.item2 (w:Wf K G H U Z (Ts++T) g) (a:Ar U r v Ts) (e:der r Z=some (.ok d,Z)):∃ y,y.d=d/\y.v=v/\((∃ i,i∈pls [r]/\g i=some y)\/y∈Ts):=by
 cases a with
 | @pl i v h =>
  have j:der (.pl i) Z=((Z[i]?).join).map λp=>(.ok p.1,Z):=rfl
  rw[j] at e
  cases q:(Z[i]?).join with
  | none=>rw[q] at e;exact nsE e
  | some p =>
   rw[q] at e
   obtain ⟨y,e1,k,l,b⟩:=w.slot (d:=p.1) (f:=p.2) q
   have c:p.1=d:=by cases e;rfl
   rw[h] at b
   injection b with b
   injection b with b
   exact #[y,k.trans c,b.symm,.inl #[i,Fe,e1]]
 | val x=>cases e;exact #[x,rfl,rfl,.inr (by simp)]
theorem nh (h:Reps (Rep K H1) ds vs I) (t:∀ c∈I,dE [y] c) (n:∀ c∈I,c∈y.L) (g:∀ (M:Addr->Prop) (H':Hp),(∀ b,M b->MutAt H1 b)->(∀ b o,H1 b=some o->¬ M b->H' b=some o)->(∀ b∈y.L,¬ M b)->(∀ (i:Nat) (v:V),vs[i]?=some v->J.go i H'/\∀ x j,J.yld i H' x j->j=H'/\x=v)/\J.stop vs.length H'):Walk K J H1 [y] ds:=by
 obtain ⟨ws,h1,h2,h3⟩:=Reps.split h
 refine #[ws,λx e=>#[(h3 x e).1,(h3 x e).2.1,λc f=>t c ((h3 x e).2.2 c f)],λM H' hm a l=>?_]
 obtain ⟨go,stop⟩:=g M H' hm a (l y Fe)
 refine #[λi d hd=>?_,by rw[h.len];exact stop]
 have hi:∃ u,ws[i]?=some u/\u.d=d:=by
  grind
 obtain ⟨u,k,r⟩:=hi
 have s:vs[i]?=some u.v:=by rw[<- h2,Fz,k];rfl
 obtain ⟨g1,g2⟩:=go i u.v s
 refine #[g1,λx j p=>?_]
 obtain ⟨e1,q⟩:=g2 x j p
 subst e1 q
 have hu:=Fv k
 refine #[u,#[Same.refl _,(h3 u hu).2.1.keep a hm λb m=>l y Fe b (n b ((h3 u hu).2.2 b m)),λc f=>.inr #[u,hu,f],λhf=>absurd (h3 u hu).1 hf],r,(h3 u hu).1,rfl]
theorem l6 {y:It3} {a:Addr} {ds:List D} {vs:List V} (h:∀ H',SqL K H' a vs->True) (d:∀ (M:Addr->Prop) (H':Hp),(∀ b,M b->MutAt H b)->(∀ b o,H b=some o->¬ M b->H' b=some o)->(∀ b∈y.L,¬ M b)->SqL K H' a vs) :
  ∀ (M:Addr->Prop) (H':Hp),(∀ b,M b->MutAt H b)->(∀ b o,H b=some o->¬ M b->H' b=some o)->(∀ b∈y.L,¬ M b)->(∀ (i:Nat) (v:V),vs[i]?=some v->(Itl K a).go i H'/\∀ x j,(Itl K a).yld i H' x j->j=H'/\x=v)/\(Itl K a).stop vs.length H':=λM H' hm g f=>by
 have sq:SqL K H' a vs:=d M H' hm g f
 refine #[λi v c=>#[#[vs,v,sq,c],λx j #[e1,e]=>#[e1,?_]],#[vs,sq,FA _]]
 have:=e vs sq
 rw[c] at this
 injection this with this
 exact this.symm
theorem CF (h:tI K G0 W0 (d8 m) U H R):iSeq K (tE K G0 W0 m) U H R:=by
 obtain ⟨G,W,le,Z,T,g,o,Z',w,e,q⟩:=h
 have k:∀ x,o=.error x->W x Z':=λx I=>by subst I;exact q
 refine tE.seq le w e k λra Z1 e1 v H1 #[Ts,g1,u,a1]=>?_
 obtain ⟨d,d1,r⟩:=aP e1
 obtain ⟨p,E,rfl,rfl⟩:=bN r
 obtain ⟨ds,j,L⟩:=Fh.mp E
 subst L
 obtain ⟨y,P,O,C⟩:=a1.item2 u d1
 have Q:Itm (Ts++T) g1 y:=by
  rcases C with ⟨i,_,N⟩ | h
  .exact .inl #[i,N]
  .exact .inr (Fi _ h)
 have F:=(u.itm Q).arg
 have t:∀ J,Walk K J H1 [y] ds->R J H1:=λJ hw=>q J H1 [v] Ts g1 [y] u (by simpa using Ars.cons a1 .nil) (λz hz=>by rw[FT.mp hz];exact C) hw
 clear e1 r E q
 subst P O
 have b:=F
 obtain ⟨da,σ,n,A⟩:=y
 obtain ⟨s,V⟩:=F
 dsimp only at s j
 cases da with
 | tup xs =>
  obtain ⟨a,vs,rfl,ha,rs⟩:=s.view
  cases j
  refine .inr #[a,rfl,#[_,SqT.of ha],t _ (nh rs (jP (y:=#[.tup ds,.ref a,n,A]) Fe b rfl) (λc f=>f) λM H' hm l B=>?_)]
  have sq:SqT K H' a vs:=SqT.of (l a _ ha λz=>(hm a z).notup ha)
  refine #[λi v D=>#[#[vs,v,sq,D],λx S #[e1,r]=>#[e1,?_]],#[vs,sq,FA _]]
  have:=r vs sq
  rw[D] at this
  injection this with this
  exact this.symm
 | lst xs =>
  obtain ⟨a,vs,n,rfl,rfl,ha,rs⟩:=s.view
  cases j
  refine .inl #[a,rfl,#[_,SqL.of ha],t _ (nh rs (ol (y:=#[.lst ds,.ref a,a::n,A]) Fe b rfl rfl) (λc f=>Ff _ f) (l6 (ds:=ds) (λ_ _=>trivial) λM H' hm l B=>SqL.of (l a _ ha (B a Fe))))]
 | fls xs =>
  obtain ⟨a,vs,rfl,ha,rs⟩:=s.view
  cases j
  refine .inl #[a,rfl,#[_,ha.sq],t _ (nh rs (jP (y:=#[.fls ds,.ref a,n,A]) Fe b rfl) (λc f=>f) (l6 (ds:=ds) (λ_ _=>trivial) λM H' hm l B=>(ha.keep l hm).sq))]
 | _=>exact nsE j
theorem Dg (h:RE X G0 W0 l m):RI X G0 W0 tg l (d8 m):=#[PI.imp (DJ h.h) λ_ _ _ h=>CF h]
def bo (lo:Int) (n:Nat):List D:=(List.range n).map λ(k:Nat)=>D.int (lo+(k:Int))
theorem pg {lo:Int} {n:Nat}:Walk K (Itr lo n) H1 ys (bo lo n):=by
 refine #[[],λx f=>(by cases f),λM H' _ _ _=>#[λi d hd=>?_,?_]]
 .unfold bo at hd
  rw[Fz] at hd
  obtain ⟨k,a,b⟩:=Fh.mp hd
  obtain ⟨c,e⟩:=Fu.mp a
  rw[List.getElem_range] at e
  subst e
  rw[List.length_range] at c
  refine #[c,λx g #[e1,h]=>?_]
  subst e1
  exact #[#[d,x,[],.z],bI (by rw[<- b,h];exact .int _),rfl,rfl,rfl]
 .show n<=(bo lo n).length
  unfold bo
  simp
def fH (j:Int):Bool:=decide (-(2 ^ 62)<=j/\j < 2 ^ 62)
def fL:List D->Option (List D)
 | [.int j]=>if fH j then some (bo 0 j.toNat) else none
 | _=>none
def iP:List D->Option (List D)
 | [.int i,.int j]=>if fH i && fH j then some (bo i (j - i).toNat) else none
 | _=>none
def bY (f:List D->Option (List D)) (ms:M3 (List R3)):IM:=ai ms λrs=>ai (dw rs) λds=>bc ((f ds).map λxs=>([],xs))
set_option tactic.hygienic true in
theorem zA (h:tI K G0 W0 (bY fL ms) U H R):B6 (tA K G0 W0 ms) U H R:=by
 obtain ⟨G,W,le,Z,T,g,o,Z',w,e,q⟩:=h
 have b:∀ x,o=.error x->W x Z':=λx f=>by subst f;exact q
 refine tA.seq le w e b λrs Z1 e1 vs H1 Ts g1 i a1=>?_
 obtain ⟨ds,d1,n⟩:=bU e1
 obtain ⟨p,s,rfl,rfl⟩:=bN n
 obtain ⟨xs,a,m⟩:=Fh.mp s
 subst m
 obtain ⟨ys,k,f1,f2⟩:=a1.items i (λx f=>Fi _ f) d1
 subst f1 f2
 match ys,a,k,a1 with
 | [],a,_,_=>exact nsE a
 | y::z::r,a,_,_=>cases hd:y.d <;> (rw[FF,FF,hd] at a;exact nsE a)
 | [y],a,k,a1 =>
  have l:=(i.itm (k y Fe)).rep
  cases hd:y.d <;> (rw[FF,hd] at a;try (exact nsE a))
  rename_i j
  rw[hd] at l
  have a:(if fH j then some (bo 0 j.toNat) else none)=some xs:=a
  split at a
  .rename_i c
   cases a
   have c:=of_decide_eq_true c
   refine #[j,by show [y.v]=_;rw[l.int_inv],c.1,c.2,?_]
   exact q _ H1 [] [] g1 [] (i.sub (Fw Ts T)) .nil (λ_ h=>by cases h) pg
  .exact nsE a
set_option tactic.hygienic true in
theorem zy (h:tI K G0 W0 (bY iP ms) U H R):B5 (tA K G0 W0 ms) U H R:=by
 obtain ⟨G,W,le,Z,T,g,o,Z',w,e,q⟩:=h
 have b:∀ x,o=.error x->W x Z':=λx l=>by subst l;exact q
 refine tA.seq le w e b λrs Z1 e1 vs H1 Ts g1 f a1=>?_
 obtain ⟨ds,d1,B⟩:=bU e1
 obtain ⟨p,C,rfl,rfl⟩:=bN B
 obtain ⟨xs,A,t⟩:=Fh.mp C
 subst t
 obtain ⟨ys,k,f1,f2⟩:=a1.items f (λx l=>Fi _ l) d1
 subst f1 f2
 have inv:∀ {ds:List D},iP ds=some xs->∃ i j,ds=[.int i,.int j]/\fH i=true/\fH j=true/\xs=bo i (j - i).toNat:=λ{ds} h=>by
  unfold iP at h
  split at h
  .rename_i i j
   split at h
   .rename_i m
    cases h
    simp only[Bool.and_eq_true] at m
    exact #[i,j,rfl,m.1,m.2,rfl]
   .exact nsE h
  .exact nsE h
 obtain ⟨i,j,a,hi,c,rfl⟩:=inv A
 match ys,a,k,a1 with
 | [],a,_,_=>cases a
 | [y],a,_,_=>exact absurd (congrArg List.length a) (by simp)
 | y::z::u::r,a,_,_=>exact absurd (congrArg List.length a) (by simp)
 | [y,z],a,k,a1 =>
  have s:=(f.itm (k y Fe)).rep
  have n:=(f.itm (k z (Ff _ Fe))).rep
  have h1:y.d=.int i:=by injection a
  have h2:z.d=.int j:=by injection a with _ h;injection h
  rw[h1] at s
  rw[h2] at n
  have hi:=of_decide_eq_true hi
  have c:=of_decide_eq_true c
  refine #[i,j,by show [y.v,z.v]=_;rw[s.int_inv,n.int_inv],#[hi.1,hi.2,c.1,c.2],?_]
  exact q _ H1 [] [] g1 [] (f.sub (Fw Ts T)) .nil (λ_ h=>by cases h) pg
theorem Ae (b:Gl X "range") (hm:X.mg "range"=none) (ha:RA X G0 W0 [a] ms) (c:starEach [a] X.env=[(false,eval a X.env)]):RI X G0 W0 tg (.Call (.Name "range" p) [a] [] pos) (bY fL ms):=#[PI.imp (uJ b hm ha.h c) λ_ _ _ h=>zA h]
theorem Ad (d:Gl X "range") (hm:X.mg "range"=none) (ha:RA X G0 W0 [a,b] ms) (e:starEach [a,b] X.env=[(false,eval a X.env),(false,eval b X.env)]) (c:starEach [b] X.env=[(false,eval b X.env)]):RI X G0 W0 tg (.Call (.Name "range" p) [a,b] [] pos) (bY iP ms):=#[PI.imp (uI d hm ha.h e c) λ_ _ _ h=>zy h]
end
section
variable {K:FG} {G G0:Gm} {W W0:D->Sto->Prop} {H H':Hp} {U:St} {Z Z':Sto} {T T':List It3} {g:Nat->Option It3} {x y z:It3} {α β:Type} {X:Cx} {L:List Addr}
def lP (bnd:D->Sto->Option Sto) (m:EM):SM:=ai m λr=>ai (eI r) λp=>λZ=>(bnd p.1 Z).map λZ1=>(.ok .nx,Z1)
theorem CC (c:Bnd K G0.pr tg bnd) (h:tS K G0 W0 (lP bnd m) E U H):ut (tE K G0 W0 m) tg E U H:=by
 refine h.use λG W le Z T g r Z' w e q=>?_
 refine tE.seq le w e q.err λra Z1 e1 v H1 #[Ts,g1,j,a1]=>?_
 obtain ⟨p,Z2,g2,x,i,f,f1,_,_,a⟩:=a1.take j e1
 have b:=Wf.lowT (Ts:=[x]) f
 obtain ⟨Z3,n,l⟩:=Fh.mp i
 cases l
 rw[<- a]
 exact c G H1 U Z2 _ T g2 (cq x) _ le.pr rfl b (by show bnd x.d Z2=_;rw[f1];exact n) λU2 g3 k=>q _ _ _ k
theorem De (c:RG X G0.pr tg bnd) (he:RE X G0 W0 e m) (d:swapsWithSole [tg] e pos.line X.env=pure false) (hw:swappedStores [tg] e X.env=pure none) (h1:(assignEach [tg] X.env).map (·.2)=[assign tg X.env]):RS X G0 W0 (.Assign [tg] e pos) (lP bnd m):=by
 obtain ⟨g,a,b⟩:=c.h
 exact #[PS.imp (rf he.h a d hw h1) λ_ _ _ h=>CC b h]
theorem qW {i:Nat} {y:Str} (l:X.N.Nodup) (e:X.N[i]?=some y) (d:Loc X.env.scope y) (NY:List Str) (ix:List (Option Nat)) (g:X.calm=true) (hi:RI X G0 W0 tg iter im) (m:∀ s H C fp,PTs (aS X NY scope s H C fp) ifs (tT X.K (bp ix) noX cm)) (he:∀ s H C fp,RE (aS X NY scope s H C fp) (bp ix) noX elt em) (k:gq scope X.N X.env.scope NY ix=true) (a:Inj ix) (c:swapsWith (.ListComp elt [#[tg,iter,ifs,0]] scope pos) (some (.Name y py)) spos.line X.env=pure true) (hf:X.fn y=true\/X.env.scope.names.lookup y=some .local) (n:∀ x,foldedSetIterable iter X.env x=pure x) (f:G0.pr i=false) (b:∃ j,Bnd X.K (bp ix).pr j bnd/\∀ s H C fp,PG (aS X NY scope s H C fp) tg j):RS X G0 W0 (.Assign [.Name y py] (.ListComp elt [#[tg,iter,ifs,0]] scope pos) spos) (aJ i (cE im bnd cm em ix)):=by
 obtain ⟨j,b1,b2⟩:=b
 exact #[PS.imp (re l e d NY ix g hi.h b2 m (λs H C fp=>(he s H C fp).h) k c hf n) λ_ _ _ h=>qO szl a b1 f h]
def isL:D->Bool
 | .lst _=>true
 | _=>false
theorem oA:∀ d v L H,isL d=true->Rep K H d v L->tyV K "list" v H:=λd v L H h r=>by
 cases r with
 | lst ha _=>exact .inl #[rfl,_,SqL.of ha]
 | _=>cases h
def l5:D->List D->Option (D×D)
 | .lst xs,[d]=>if xs.length < 16777216 then some (.lst (xs++[d]),.non) else none
 | _,_=>none
set_option tactic.hygienic true in
theorem Ek:MutD K sU l5:=λa d j as H Q p r m na ra i e q=>by
 cases d with
 | lst xs =>
  obtain ⟨_,vs,_,e1,l,ha,rs⟩:=r.view
  cases e1
  cases l
  match as,e,ra,i with
  | [],e,_,_=>exact nsE e
  | _::_::_,e,_,_=>exact nsE e
  | [y],e,ra,i =>
   have e:(if xs.length < 16777216 then some (D.lst (xs++[y.d]),D.non) else none)=some p:=e
   split at e
   .rename_i hl
    cases e
    refine #[a,vs,y.v,rfl,rfl,ha,by rw[<- rs.len,<- szl];exact hl,?_]
    have k:=ra y Fe
    have s:=i y Fe
    have ma:MutAt H a:=.inl #[_,ha]
    have keep:∀ {d v L},Rep K H d v L->a ∉ L->Rep K (upd H a (.lst (vs++[y.v]))) d v L:=λ{d v L} r n=>r.keep (M:=λb=>b=a) (λb o f h=>by rw[av h];exact f) (λb e=>by rw[e];exact ma) λb f e=>n (by rw[<- e];exact f)
    have keeps:Reps (Rep K (upd H a (.lst (vs++[y.v])))) xs vs j:=rs.keep (M:=λb=>b=a) (λb o f h=>by rw[av h];exact f) (λb e=>by rw[e];exact ma) λb f e=>na (by rw[<- e];exact f)
    exact q (.lst (vs++[y.v])) (j++(y.L++[])) #[.non,.non,[],.z] (.lst aI (keeps.append (.cons (keep k s) .nil))) rfl (λc g=>by
     rcases Fq.mp g with h | h
     .exact .inl h
     .rw[List.append_nil] at h;exact .inr #[y,Fe,h]) rfl rfl .non λc g=>by cases g
   .exact nsE e
 | _=>exact nsE e
def yB:D->List D->Option (D×D)
 | .lst xs,[.lst ys]=>if xs.length+ys.length<=16777216 then some (.lst (xs++ys),.non) else none
 | _,_=>none
theorem ext2 (a:D):yB (.lst xs) (a::b::r)=none:=by cases a <;> rfl
set_option tactic.hygienic true in
theorem Ej:MutD K sR yB:=λa d u as H Q p r m na ra k e q=>by
 cases d with
 | lst xs =>
  obtain ⟨_,vs,_,e1,v,ha,rs⟩:=r.view
  cases e1
  cases v
  match as,e,ra,k with
  | [],e,_,_=>exact nsE e
  | y::_::_,e,_,_=>exact nsE ((ext2 y.d).symm.trans e)
  | [y],e,ra,k =>
   have l:=ra y Fe
   have s:=k y Fe
   obtain ⟨w,x,A,B⟩:=y
   dsimp only at l s e
   cases w with
   | lst ys =>
    obtain ⟨b,ws,t,rfl,rfl,g,i⟩:=l.view
    have e:(if xs.length+ys.length<=16777216 then some (D.lst (xs++ys),D.non) else none)=some p:=e
    split at e
    .rename_i hl
     cases e
     refine #[a,b,vs,ws,rfl,rfl,ha,g,by rw[<- rs.len,<- i.len,<- szl];exact hl,?_]
     have ma:MutAt H a:=.inl #[_,ha]
     have keeps:∀ {ds f L},Reps (Rep K H) ds f L->a ∉ L->Reps (Rep K (upd H a (.lst (vs++ws)))) ds f L:=λ{ds f L} r n=>r.keep (M:=λb=>b=a) (λb o g h=>by rw[av h];exact g) (λb e=>by rw[e];exact ma) λb g e=>n (by rw[<- e];exact g)
     exact q (.lst (vs++ws)) (u++t) #[.non,.non,[],.z] (.lst aI ((keeps rs na).append (keeps i λh=>s (Ff _ h)))) rfl (λc j=>by
      rcases Fq.mp j with h | h
      .exact .inl h
      .exact .inr #[_,Fe,Ff _ h]) rfl rfl .non λc j=>by cases j
    .exact nsE e
   | _=>exact nsE e
 | _=>exact nsE e
def uw:D->List D->Option (D×D)
 | .lst xs,[.int i,d]=>(ixN xs.length i).map λj=>(.lst (xs.set j d),.non)
 | _,_=>none
theorem Reps.set:∀ {ds:List D} {vs:List V} {L L':List Addr} {d:D} {v:V} (j:Nat),Reps (Rep K H) ds vs L->Rep K H d v L'->∃ L2,Reps (Rep K H) (ds.set j d) (vs.set j v) L2/\∀ c∈L2,c∈L\/c∈L'
 | _,_,_,_,_,_,j,.nil,_=>#[[],.nil,λc I=>by cases I]
 | _,_,_,L',_,_,0,.cons (L:=L1) (L':=L1') r rs,r'=>⟨L'++L1',.cons r' rs,λc I=>by
  rcases Fq.mp I with h | h
  .exact .inr h
  .exact .inl (Fj _ h)⟩
 | _,_,_,L',_,_,j+1,.cons (L:=L1) (L':=L1') r rs,r'=>by
  obtain ⟨L2,h1,h2⟩:=Reps.set j rs r'
  refine #[L1++L2,.cons r h1,λc I=>?_]
  rcases Fq.mp I with h | h
  .exact .inl (Fi _ h)
  .rcases h2 c h with h | h
   .exact .inl (Fj _ h)
   .exact .inr h
theorem set1 (a:D):uw (.lst xs) [a]=none:=by cases a <;> rfl
theorem set3' (a:D):uw (.lst xs) (a::b::c::r)=none:=by cases a <;> rfl
theorem AW:MutD K (f9 sP) uw:=λa d u as H Q p r m na ra l e q=>by
 cases d with
 | lst xs =>
  obtain ⟨_,vs,_,e1,x,ha,rs⟩:=r.view
  cases e1
  cases x
  match as,e,ra,l with
  | [],e,_,_=>exact nsE e
  | [y],e,_,_=>exact nsE ((set1 y.d).symm.trans e)
  | y::_::_::_,e,_,_=>exact nsE ((set3' y.d).symm.trans e)
  | [k,y],e,ra,l =>
   have s:=ra k Fe
   have t:=ra y (Ff _ Fe)
   have A:=l y (Ff _ Fe)
   obtain ⟨kd,B,C,E⟩:=k
   dsimp only at s
   cases kd with
   | int i =>
    obtain ⟨rfl,rfl⟩:=s.view
    obtain ⟨j,h1,h2⟩:=Fh.mp (show (ixN xs.length i).map (λj=>(D.lst (xs.set j y.d),D.non))=some p from e)
    subst h2
    refine #[.int i,y.v,rfl,a,vs,i,j,rfl,rfl,ha,by rw[<- rs.len];exact h1,?_]
    have ma:MutAt H a:=.inl #[_,ha]
    have n:Rep K (upd H a (.lst (vs.set j y.v))) y.d y.v y.L:=t.keep (M:=λb=>b=a) (λb o f h=>by rw[av h];exact f) (λb e=>by rw[e];exact ma) λb f e=>A (by rw[<- e];exact f)
    have keeps:Reps (Rep K (upd H a (.lst (vs.set j y.v)))) xs vs u:=rs.keep (M:=λb=>b=a) (λb o f h=>by rw[av h];exact f) (λb e=>by rw[e];exact ma) λb f e=>na (by rw[<- e];exact f)
    obtain ⟨L2,h3,w⟩:=keeps.set j n
    exact q (.lst (vs.set j y.v)) L2 #[.non,.non,[],.z] (.lst aI h3) rfl (λc g=>(w c g).imp id λh=>#[y,Ff _ Fe,h]) rfl rfl .non λc g=>by cases g
   | _=>exact nsE e
 | _=>exact nsE e
theorem sN {i:Nat} {x:Str} {id:String} (l:PlainAttrs Ty) (slot:Slot Ty nm id) (j:typeOf (.builtin id)=pure (.type "method_descriptor")) (hm:MtR X id r) (k:MutD X.K r f) (hok:∀ d v L H,ok d=true->Rep X.K H d v L->tyV X.K Ty v H) (m:PE X (.Name x pn) (iC i)) (ha:RA X G0 W0 (e::es) ms) (c:attributeBase (.Name x pn) nm X.env (eval (.Name x pn) X.env)=eval (.Name x pn) X.env) (g:((backTo cpos (starEach (e::es) X.env)).all (λx=>!x.1) && (backToKw cpos (keywordEach [] X.env)).all (λx=>x.1.isSome) && decide ((e::es).length+([]:List Keyword).length+(if ([]:List Keyword).isEmpty then 0 else 1) < 30))=true) (b:(apos.endLine == cpos.line)=true) (n:starEach (e::es) X.env=(false,eval e X.env)::starEach es X.env) (a:(backTo cpos (starEach es X.env)).any (·.1)=false):RE X G0 W0 (.Call (.Attribute (.Name x pn) nm apos) (e::es) [] cpos) (lV ok f i ms) :=
 #[PE.imp (BP l slot j hm m ha.h c g b n a) λ_ _ _ h=>CJ k hok h]
theorem Da {i:Nat} {x:Str} (g:vK X t) (a:MutD X.K (f9 t) f) (b:PE X (.Name x pn) (iC i)) (d:RE X G0 W0 k mk) (c:RE X G0 W0 e mv) (ha:∀ v,assign (.Subscript (.Name x pn) k p2) X.env v=(do
   let ov <- holding [v] (eval (.Name x pn) X.env)
   let j <- holding [v,ov] (eval k X.env)
   standAt p2
   holding [v,ov,j] (setItem ov j v)
   release [v,ov,j] [])) (h1:swapsWithSole [.Subscript (.Name x pn) k p2] e pos.line X.env=pure false) (h2:swappedStores [.Subscript (.Name x pn) k p2] e X.env=pure none) (h3:(assignEach [.Subscript (.Name x pn) k p2] X.env).map (·.2)=[assign (.Subscript (.Name x pn) k p2) X.env]):RS X G0 W0 (.Assign [.Subscript (.Name x pn) k p2] e pos) (wy f i mk mv) :=
 #[PS.imp (rf c.h (rl b d.h g ha) h1 h2 h3) λ_ _ _ h=>Ct a h]
end
section
variable {K:FG} {G G0:Gm} {W W0:D->Sto->Prop} {H H':Hp} {U:St} {Z Z':Sto} {T T':List It3} {g:Nat->Option It3} {x y z:It3} {α β:Type} {X:Cx} {L:List Addr}
theorem wL:PTs τ [] (tT K (bp ix) noX fw):=λpins s U H Q I h=>Ap pins s U H Q I (Cq h)
theorem wK (h:RT τ (bp ix) noX c m):PTs τ [c] (tT τ.K (bp ix) noX m):=Ao h.h
theorem rM (h:(ix.filterMap id).Nodup):Inj ix:=by
 intro j k i a b
 induction ix generalizing j k with
 | nil=>simp at a
 | cons o ix ih =>
  cases o with
  | none =>
   have h':(ix.filterMap id).Nodup:=by simpa using h
   cases j with
   | zero=>simp at a
   | succ j =>
    cases k with
    | zero=>simp at b
    | succ k=>rw[ih h' j k (by simpa using a) (by simpa using b)]
  | some d =>
   have h':(d::ix.filterMap id).Nodup:=by simpa using h
   obtain ⟨n,c⟩:=List.nodup_cons.mp h'
   have mem:∀ m:Nat,ix[m]?=some (some d)->False:=λm e=>n (List.mem_filterMap.mpr #[some d,Fv e,rfl])
   cases j with
   | zero =>
    simp at a
    cases k with
    | zero=>rfl
    | succ k=>subst a;exact (mem k (by simpa using b)).elim
   | succ j =>
    cases k with
    | zero=>simp at b;subst b;exact (mem j (by simpa using a)).elim
    | succ k=>rw[ih c j k (by simpa using a) (by simpa using b)]
theorem wd (ho:OpD K r f) (t:OpD K r' f') (h:tE K G0 W0 (iV f f' ma mb mc) U H Q):qP r r' (tE K G0 W0 ma) (tE K G0 W0 mb) (tE K G0 W0 mc) U H Q:=by
 refine h.use λG W le Z T g o Z' w e q=>?_
 refine tE.seq le w e q.err λra Z1 e1 va H1 #[Ts,g1,w1,a1]=>?_
 refine tE.seq le w1 e1 q.err λrb Z2 e2 vb H2 #[Us,g2,j,a2]=>?_
 obtain ⟨da,d1,e3⟩:=aP e2
 obtain ⟨db,d2,e4⟩:=aP e3
 obtain ⟨k,ρ,v⟩:=jN e4
 obtain ⟨R,N,f1,f2⟩:=a1.item j (λx b=>Fj _ (Fi _ b)) d1
 obtain ⟨M,F,X,f4⟩:=a2.item j (λx b=>Fi _ b) d2
 obtain ⟨p,V,e8⟩:=FR.mp ρ
 have hp:=za e8
 subst f1 f2 f4
 rw[<- X] at V
 refine ho R M H2 _ p (j.itm N).arg (j.itm F).arg V λu H3 E ud uf=>?_
 have w3:=j.push E λc h=>j.kids (ys:=[R,M]) (λy i=>by
  rcases Fm.mp i with h | i
  .rw[h];exact N
  .rw[FT.mp i];exact F) h
 have σ:=E.rep
 rw[ud,hp] at σ
 refine #[k,σ.bl_eq.1,?_]
 have O:=w3.sub (List.sublist_cons_self u _)
 cases k with
 | false =>
  cases v
  have d:=O.sub (T':=T) ((Fw Ts T).trans (Fw Us _))
  exact q _ _ (d.const (.bl false))
 | true =>
  simp only[if_true] at v ⊢
  refine tE.seq le O v q.err λrc Z5 e9 vc H5 #[m,I,d,τ]=>?_
  obtain ⟨n,d3,z⟩:=aP e9
  obtain ⟨dc,d4,B⟩:=aP z
  obtain ⟨p',a,rfl,rfl⟩:=bN B
  obtain ⟨l,S,f5,f6⟩:=a2.item d (λx b=>Fj _ (Fi _ b)) d3
  obtain ⟨L,J,f7,f8⟩:=τ.item d (λx b=>Fi _ b) d4
  cases C:f' n dc with
  | none=>rw[C] at a;exact nsE a
  | some s =>
   rw[C] at a
   cases a
   have P:=d
   rw[show m++(Us++(Ts++T))=(m++(Us++Ts))++T by simp] at P
   have A:Itm ((m++(Us++Ts))++T) I l:=by simpa using S
   have D:Itm ((m++(Us++Ts))++T) I L:=by simpa using J
   rw[<- f6,<- f8]
   refine t l L H5 Q s (d.itm S).arg (d.itm J).arg (by rw[f5,f7];exact C) (mR P (λy i=>?_) q)
   rcases Fm.mp i with h | i
   .rw[h];exact A
   .rw[FT.mp i];exact D
theorem wQ (j:OpR X (compareOp op) r) (hd:OpD X.K r f) (e:OpR X (compareOp op') r') (d:OpD X.K r' f') (ha:RE X G0 W0 a ma) (g:RE X G0 W0 b mb) (i:RE X G0 W0 c mc) (h:PE X a (tE X.K G0 W0 ma)->PE X b (tE X.K G0 W0 mb)->PE X c (tE X.K G0 W0 mc)->PE X (.Compare a [op,op'] [b,c] pos) (qP r r' (tE X.K G0 W0 ma) (tE X.K G0 W0 mb) (tE X.K G0 W0 mc))):RE X G0 W0 (.Compare a [op,op'] [b,c] pos) (iV f f' ma mb mc):=#[PE.imp (h ha.h g.h i.h) λ_ _ _ h=>wd hd d h]
theorem fY (d:OpR X (compareOp op) r) (hd:OpD X.K r f) (ha:RE X G0 W0 a ma) (c:RE X G0 W0 b mb) (hm:behindInMarks op b=false):RT X G0 W0 (.Compare a [op] [b] pos) (cB (af f ma mb)):=#[PT.imp (As d ha.h c.h hm) λ_ _ _ h=>nk hd (tT_b h)]
def dX (n:Nat):List D->List D
 | []=>[]
 | d::ds=>.tup [.int n,d]::dX (n+1) ds
theorem jV:∀ {ds:List D} {n i:Nat},(dX n ds)[i]?=(ds[i]?).map λd=>.tup [.int ((n+i:Nat):Int),d]
 | [],n,i=>by simp[dX]
 | d::ds,n,0=>by simp[dX]
 | d::ds,n,i+1=>by
  show (dX (n+1) ds)[i]?=_
  rw[jV]
  simp only[List.getElem?_cons_succ]
  rw[show n+1+i=n+(i+1) by lia]
theorem jU:∀ {ds:List D} {n:Nat},(dX n ds).length=ds.length
 | [],_=>rfl
 | d::ds,n=>by simp[dX,jU]
def iX (ms:M3 (List R3)):IM:=ai ms λrs=>ai (dw rs) λds=>bc (match ds with
 | [.lst xs]=>some (rs,dX 0 xs)
 | _=>none)
theorem zB (h:tI K G0 W0 (iX ms) U H R):B7 K (tA K G0 W0 ms) U H R:=by
 obtain ⟨G,W,le,Z,T,g,o,Z',w,e,q⟩:=h
 have n:∀ x,o=.error x->W x Z':=λx j=>by subst j;exact q
 refine tA.seq le w e n λrs Z1 e1 vs H1 Ts g1 t a1=>?_
 obtain ⟨ds,d1,A⟩:=bU e1
 obtain ⟨p,l,rfl,rfl⟩:=bN A
 have inv:∃ xs,ds=[.lst xs]/\p=(rs,dX 0 xs):=by
  split at l
  .cases l;exact #[_,rfl,rfl]
  .exact nsE l
 obtain ⟨xs,rfl,rfl⟩:=inv
 match rs,d1,a1,q with
 | [],d1,_,_=>cases d1
 | r::r'::rs,d1,_,_ =>
  obtain ⟨_,_,f⟩:=aP (k:=λd=>ai (dw (r'::rs)) λds=>bb (d::ds)) d1
  obtain ⟨ax,ρ,e7⟩:=bU f
  obtain ⟨_,_,e8⟩:=aP (k:=λd=>ai (dw rs) λds=>bb (d::ds)) ρ
  obtain ⟨τ,_,e9⟩:=bU e8
  cases e9
  cases e7
 | [r],d1,a1,q =>
  obtain ⟨d,s,f⟩:=aP (k:=λd=>ai (dw []) λds=>bb (d::ds)) d1
  have hd:d=.lst xs:=by
   have f:some ((.ok [d],Z'):Except D (List D)×Sto)=some (.ok [.lst xs],Z'):=f
   cases f;rfl
  subst hd
  cases a1 with
  | @cons _ v Ts1 _ vs1 Us1 a as =>
   cases as with
   | nil =>
    obtain ⟨y,S,y2,Q⟩:=Ar.item2 (T:=T) (by simpa using t) a s
    have hy:Itm (([]++Ts1)++T) g1 y:=by
     rcases Q with ⟨i,_,V⟩ | h
     .exact .inl #[i,V]
     .exact .inr (by simpa using Fi T h)
    have N:=(t.itm hy).arg
    have qq:∀ J,Walk K J H1 [y] (dX 0 xs)->R J H1:=λJ hw=>q J H1 [v] ([]++Ts1) g1 [y] t (.cons a .nil) (λz hz=>by
     rw[FT.mp hz]
     rcases Q with h | h
     .exact .inl h
     .exact .inr (by simpa using h)) hw
    clear q
    subst y2
    have C:=N
    obtain ⟨yd,X,yL,yf⟩:=y
    obtain ⟨O,oo⟩:=N
    dsimp only at O S
    subst S
    cases O with
    | @lst _ pa vs La ha rs =>
     refine #[pa,rfl,#[_,SqL.of ha],qq _ ?_]
     obtain ⟨ws,h1,h2,h3⟩:=Reps.split rs
     refine #[ws,λx j=>#[(h3 x j).1,(h3 x j).2.1,λc B=>ol (y:=#[.lst xs,.ref pa,pa::La,yf]) Fe C rfl rfl c ((h3 x j).2.2 c B)],λM H' hm P I=>?_]
     have sq:SqL K H' pa vs:=SqL.of (P pa _ ha (I _ Fe pa Fe))
     refine #[λi d hd=>?_,by rw[jU];exact #[vs,sq,by rw[<- rs.len];exact FA _]]
     rw[jV] at hd
     obtain ⟨E,m,rfl⟩:=Fh.mp hd
     have hw:∃ u,ws[i]?=some u/\u.d=E:=by
      rw[<- h1,Fz] at m
      obtain ⟨u,a,b⟩:=Fh.mp m
      exact #[u,a,b]
     obtain ⟨u,F,ud⟩:=hw
     have σ:vs[i]?=some u.v:=by rw[<- h2,Fz,F];rfl
     have hu:=Fv F
     refine #[#[vs,u.v,sq,σ],λx ae #[Tt,X,e1,A,l,s]=>?_]
     have f:=s vs sq
     rw[σ] at f
     cases f
     subst e1 l
     have ru:Rep K H' u.d u.v u.L:=(h3 u hu).2.1.keep P hm λb hb=>I _ Fe b (Ff _ ((h3 u hu).2.2 b hb))
     refine #[#[.tup [.int ((0+i:Nat):Int),E],.ref Tt,[]++(u.L++[]),.z],xD A (.cons (L:=[]) (by rw[FK];exact .int _) (.cons (by rw[<- ud];exact ru) .nil)) (λc B=>#[u,hu,by simpa using B]),rfl,rfl,rfl]
theorem Af {k:Nat} (b:Gl X "enumerate") (hm:X.mg "enumerate"=none) (ha:RA X G0 W0 [a] ms) (c:starEach [a] X.env=[(false,eval a X.env)]):RI X G0 W0 (.Tuple elts k tp) (.Call (.Name "enumerate" p) [a] [] pos) (iX ms):=#[PI.imp (Ay b hm ha.h c) λ_ _ _ h=>zB h]
end
end L3
namespace L3
theorem Av {i:Nat} (h:mask.length<=i):prM mask i=false:=by
 unfold prM
 rw[List.getElem?_eq_none h]
end L3
end
section
namespace L3
open PySem L2
structure Bl (mg:Str->Option Value):Prop where
 len:mg "len"=none
 range:mg "range"=none
 abs:mg "abs"=none
 divmod:mg "divmod"=none
 enumerate:mg "enumerate"=none
 tuple:mg "tuple"=none
 isinstance:mg "isinstance"=none
 int:mg "int"=none
 bool:mg "bool"=none
 all:mg "all"=none
 str:mg "str"=none
 max:mg "max"=none
 min:mg "min"=none
 list:mg "list"=none
 dict:mg "dict"=none
 repr:mg "repr"=none
 sorted:mg "sorted"=none
 set:mg "set"=none
 zip:mg "zip"=none
 reversed:mg "reversed"=none
 sum:mg "sum"=none
theorem Ch:bootBuiltins "len"=some (.builtin "len"):=by decide +kernel
theorem b_abs:bootBuiltins "abs"=some (.builtin "abs"):=by decide +kernel
theorem y7:bootBuiltins "divmod"=some (.builtin "divmod"):=by decide +kernel
theorem ub:bootBuiltins "tuple"=some (.type "tuple"):=by decide +kernel
theorem jz:bootBuiltins "isinstance"=some (.builtin "isinstance"):=by decide +kernel
theorem y6:bootBuiltins "int"=some (.type "int"):=by decide +kernel
theorem E8:bootBuiltins "bool"=some (.type "bool"):=by decide +kernel
theorem b_all:bootBuiltins "all"=some (.builtin "all"):=by decide +kernel
theorem Cg:bootBuiltins "str"=some (.type "str"):=by decide +kernel
theorem b_max:bootBuiltins "max"=some (.builtin "max"):=by decide +kernel
theorem b_min:bootBuiltins "min"=some (.builtin "min"):=by decide +kernel
theorem E7:bootBuiltins "list"=some (.type "list"):=by decide +kernel
theorem E6:bootBuiltins "repr"=some (.builtin "repr"):=by decide +kernel
section
variable {K:FG} {G G0:Gm} {W W0:D->Sto->Prop} {H H':Hp} {U:St} {Z Z':Sto} {T T':List It3} {g:Nat->Option It3} {x y z:It3} {α β:Type} {X:Cx} {L:List Addr}
theorem sH (h:tE K G0 W0 m U H Q) (f:∀ v H,Q v H->Q' v H):tE K G0 W0 m U H Q':=by
 refine h.use λG W le Z T g o Z' w e q=>?_
 refine tE.mk le w e ?_
 cases o with
 | ok r=>exact λv H' g=>f v H' (q v H' g)
 | error x=>exact q
def B1:D->Option String
 | .non=>some "NoneType" | .bl _=>some "bool" | .int _=>some "int" | .str _=>some "str"
 | .tup _=>some "tuple" | .lst _=>some "list" | .fls _=>some "list" | .dk _=>some "dict" | .dt _=>some "dict" | .exc _ _=>none | .desk _ _=>none
def eP (t:String) (d:D):Option (D×Fl):=(B1 d).map λk=>(.bl (ot k t),.z)
theorem Rep.kind (r:Rep K H d v L) (e:B1 d=some k):KindOf K H v k:=by
 cases r with
 | non=>cases e;exact .non
 | bl b=>cases e;exact .bool b
 | int i=>cases e;exact .int i
 | str s=>cases e;exact .str s
 | tup h _=>cases e;exact .tuple (SqT.of h)
 | lst h _=>cases e;exact .list (SqL.of h)
 | lstF h _=>cases e;exact .list h.sq
 | dK h _ _=>cases e;exact .dK h
 | dT h _ _=>cases e;exact .dT h
 | exc _ _=>cases e
 | excV _ _ _ _ _ _ _ _=>cases e
 | desk _ _ _ _=>cases e
theorem nM (f:b7 X (.builtin "isinstance") (λxs H Q=>∃ x k,xs=[x,.ty t]/\KindOf X.K H x k/\Q (.bl (ot k t)) H)) (i:Gl X "isinstance") (hm:X.mg "isinstance"=none) (g:PE X (.Name tn pT) (tC (.ty t))) (ha:RE X G0 W0 a ma) (b:starEach [a,.Name tn pT] X.env=(false,eval a X.env)::starEach [.Name tn pT] X.env) (d:starEach [.Name tn pT] X.env=(false,eval (.Name tn pT) X.env)::starEach [] X.env) (c:(backTo pos (starEach [.Name tn pT] X.env)).any (·.1)=false):RE X G0 W0 (.Call (.Name "isinstance" p) [a,.Name tn pT] [] pos) (mUn (eP t) ma) :=
 ⟨PE.imp (kZ f i hm jz (ie ha.h (ie g nV d) b) (by decide) (by decide) b c) λU H Q h=>by
  have h:=sG (r:=λx H Q=>∃ k,KindOf X.K H x k/\Q (.bl (ot k t)) H) (λa H Q p ra e q=>by
   obtain ⟨k,h1,h2⟩:=Fh.mp e
   subst h2
   exact #[k,ra.rep.kind h1,q #[.bl (ot k t),.bl (ot k t),[],.z] H (bI (.bl _)) rfl rfl]) h
  refine sH h λx H1 #[k,j,q]=>?_
  exact ⟨x,k,rfl,j,q⟩⟩
def yg:D->Option Key
 | .int i=>some (.inl i)
 | .str s=>some (.inr s)
 | _=>none
def eD:List D->Option (List Key)
 | []=>some []
 | d::ds=>match yg d,eD ds with
  | some k,some ks=>some (k::ks)
  | _,_=>none
theorem uY (r:Rep K H d v L) (e:yg d=some k):v=kV k:=by
 cases r <;> cases e <;> rfl
theorem gj:∀ {ds:List D} {vs:List V} {L:List Addr} {a:List Key},Reps (Rep K H) ds vs L->eD ds=some a->vs=a.map kV
 | _,_,_,a,.nil,e=>by cases e;rfl
 | _,_,_,a,.cons (d:=d) (ds:=ds) r rs,e=>by
  unfold eD at e
  cases h1:yg d with
  | none=>rw[h1] at e;exact nsE e
  | some k =>
   cases h2:eD ds with
   | none=>rw[h1,h2] at e;exact nsE e
   | some ks' =>
    rw[h1,h2] at e
    cases e
    rw[uY r h1,gj rs h2];rfl
def yx (kvs:List (List Key×D)) (k:List Key):Option D:=(kvs.find? λa=>decide (a.1=k)).map (·.2)
def xc (kvs:List (List Key×D)) (k:List Key) (v:D):List (List Key×D) :=
 if (kvs.any λa=>decide (a.1=k))=true then kvs.map (λa=>if a.1=k then (a.1,v) else a) else kvs++[(k,v)]
theorem qp:∀ {kvs:List (List Key×D)} {ps:List (List Key×V)} {L:List Addr} {k:List Key} {d:D},kvs.map (·.1)=ps.map (·.1)->Reps (Rep K H) (kvs.map (·.2)) (ps.map (·.2)) L->yx kvs k=some d->∃ v L',ke ps k=some v/\Rep K H d v L'/\∀ c∈L',c∈L
 | [],ps,L,k,d,hk,r,e=>by cases e
 | I::kvs,[],L,k,d,hk,r,e=>by cases hk
 | I::kvs,p::ps,L,k,d,hk,r,e=>by
  have j:I.1=p.1/\kvs.map (·.1)=ps.map (·.1):=by simpa using hk
  generalize f:(I::kvs).map (·.2)=xs at r
  generalize g:(p::ps).map (·.2)=ys at r
  cases r with
  | nil=>cases f
  | cons a as =>
   cases f
   cases g
   unfold yx at e
   rw[List.find?_cons] at e
   by_cases h:I.1=k
   .rw[FH h] at e
    cases e
    exact #[_,_,i6 (j.1.symm.trans h),a,λc b=>Fi _ b]
   .rw[FI h] at e
    obtain ⟨v,L',h1,h2,h3⟩:=qp j.2 as e
    exact #[v,L',by rw[i7 (λz=>h (j.1.trans z))];exact h1,h2,λc b=>Fj _ (h3 c b)]
def tM:D->D->Option (D×Fl)
 | .dt kvs,.tup ks=>match eD ks with
  | some k=>(yx kvs k).map λd=>(d,.z)
  | none=>none
 | _,_=>none
def sS:R2:=λx y H Q=>∃ a v,x=.ref a/\DGet H a y (some v)/\Q v H
theorem AQ:OpD K sS tM:=λa b H Q p ra rb e q=>by
 obtain ⟨da,x,A,l⟩:=a
 obtain ⟨db,u,w,r⟩:=b
 have g:=ra
 obtain ⟨ra,B⟩:=ra
 obtain ⟨rb,ob⟩:=rb
 dsimp only at ra rb e
 cases da with
 | dt kvs =>
  obtain ⟨f,ps,m,rfl,rfl,⟨n,ha⟩,o,rs⟩:=ra.view
  cases db with
  | tup ks =>
   obtain ⟨s,ws,rfl,i,h⟩:=rb.view
   have e:(match eD ks with | some k=>(yx kvs k).map λd=>(d,Fl.z) | none=>none)=some p:=e
   cases h1:eD ks with
   | none=>rw[h1] at e;exact nsE e
   | some k =>
    rw[h1] at e
    obtain ⟨d,h2,h3⟩:=Fh.mp (show (yx kvs k).map (λd=>(d,Fl.z))=some p from e)
    subst h3
    have hw:=gj h h1
    subst hw
    obtain ⟨v,L',g1,g2,g3⟩:=qp o rs h2
    refine #[f,v,rfl,by rw[<- g1];exact DGet.t ha i,q #[d,v,L',.z] H (pZ g2 λc j=>?_) rfl rfl]
    exact ol (y:=#[.dt kvs,.ref f,f::m,l]) Fe g rfl rfl c (g3 c j)
  | _=>exact nsE e
 | _=>exact nsE e
open PySem.Spec PyProof.Rows in
theorem A6 (hu:X.A.units+1 < cLine):IxR X sS:=by
 intro value slice pins s U H x y v u Q I e i h d
 obtain ⟨a,w,rfl,g,q⟩:=h
 cases e
 have c:=qy I g
 unfold subscriptTail
 refine Fb ?_
 rw[getitemInPython_of_ne c.not_modules]
 refine Fb (wpAny_specialOf c PySem.F.slot_dict_getitem.lookup ?_)
 have fin:wpAny (model X.prog X.w) X.A (subscripted slice false (.ref a) u) (λr f=>wpAny (model X.prog X.w) X.A (letTemporaryGo value (.ref a) r >>= λ_=>pure r) (EP X pins U Q) X.xe f) X.xe s:=by
  rw[d]
  exact wpAny_operating (vi hu I g i λk s3 j b=>Fb (wpAny_letTemporaryGo (Fc #[w,H,j,b,q])))
 first
  | exact Fc (Fb fin)
  | exact Fb (Fc (Fb fin))
  | exact Fb fin
abbrev aw:=orD ixD tM
theorem Ec:OpD K (λx y H Q=>(wX K x y H Q\/wW K x y H Q)\/sS x y H Q) aw:=od_ix.or AQ
theorem EB (hu:X.A.units+1 < cLine):IxR X (λx y H Q=>(wX X.K x y H Q\/wW X.K x y H Q)\/sS x y H Q):=ix_ok.or (A6 hu)
def pO:D->List D->Option (D×D)
 | .dt kvs,[.tup ks,v]=>match eD ks with
  | some k=>if kvs.length < 16777216 then some (.dt (xc kvs k v),.non) else none
  | none=>none
 | _,_=>none
def sQ:vJ:=λo i v H Q=>∃ a H',o=.ref a/\DPut H a i v H'/\Q H'
theorem ww (hu:X.A.units+1 < cLine):vK X sQ:=by
 intro pins s U H o i v ov f u Q I e d b h
 obtain ⟨a,H',rfl,g,q⟩:=h
 cases e
 exact vh hu I g d b λs' c=>#[H',c,q]
theorem pN:∀ {kvs:List (List Key×D)} {ps:List (List Key×V)} {L L':List Addr} {k:List Key} {d:D} {v:V},kvs.map (·.1)=ps.map (·.1)->Reps (Rep K H) (kvs.map (·.2)) (ps.map (·.2)) L->Rep K H d v L' ->
  ∃ L2,Reps (Rep K H) ((kvs.map λj=>if j.1=k then (j.1,d) else j).map (·.2)) ((ps.map λj=>if j.1=k then (j.1,v) else j).map (·.2)) L2/\(∀ c∈L2,c∈L\/c∈L')
 | [],[],L,L',k,d,v,hk,r,rd=>#[[],.nil,λc J=>by cases J]
 | [],_::_,_,_,_,_,_,hk,_,_=>by cases hk
 | _::_,[],_,_,_,_,_,hk,_,_=>by cases hk
 | j::kvs,p::ps,L,L',k,d,v,hk,r,rd=>by
  have I:j.1=p.1/\kvs.map (·.1)=ps.map (·.1):=by simpa using hk
  generalize b:(j::kvs).map (·.2)=xs at r
  generalize e:(p::ps).map (·.2)=ys at r
  cases r with
  | nil=>cases b
  | @cons _ _ L1 _ _ L1' a as =>
   cases b
   cases e
   obtain ⟨L2,h1,h2⟩:=pN (k:=k) I.2 as rd
   by_cases h:j.1=k
   .refine #[L'++L2,?_,λc J=>?_]
    .simp only[FF,if_pos h,if_pos (I.1.symm.trans h)]
     exact .cons rd h1
    .rcases Fq.mp J with z | z
     .exact .inr z
     .rcases h2 c z with y | y
      .exact .inl (Fj _ y)
      .exact .inr y
   .refine #[L1++L2,?_,λc J=>?_]
    .simp only[FF,if_neg h,if_neg (λz=>h (I.1.trans z))]
     exact .cons a h1
    .rcases Fq.mp J with z | z
     .exact .inl (Fi _ z)
     .rcases h2 c z with y | y
      .exact .inl (Fj _ y)
      .exact .inr y
theorem zc {kvs:List (List Key×D)} {ps:List (List Key×V)} (a:kvs.map (·.1)=ps.map (·.1)):(kvs.any λj=>decide (j.1=k))=ps.any λj=>decide (j.1=k):=by
 have h1:(kvs.any λj=>decide (j.1=k))=(kvs.map (·.1)).any λx=>decide (x=k):=by rw[List.any_map];rfl
 have h2:(ps.any λj=>decide (j.1=k))=(ps.map (·.1)).any λx=>decide (x=k):=by rw[List.any_map];rfl
 rw[h1,h2,a]
theorem qd {kvs:List (List Key×α)} {d:α}:(kvs.map λj=>if j.1=k then (j.1,d) else j).map (·.1)=kvs.map (·.1):=by
 rw[F7]
 refine List.map_congr_left λj _=>?_
 show (if j.1=k then (j.1,d) else j).1=j.1
 split <;> rfl
theorem put1 (a:D):pO (.dt kvs) [a]=none:=by cases a <;> rfl
theorem put3' (a:D):pO (.dt kvs) (a::b::c::r)=none:=by cases a <;> rfl
set_option tactic.hygienic true in
theorem AX:MutD K (f9 sQ) pO:=λa d u as H Q p r m na ra s e q=>by
 cases d with
 | dt kvs =>
  obtain ⟨_,ps,_,e1,C,⟨n,ha⟩,j,rs⟩:=r.view
  cases e1
  cases C
  match as,e,ra,s with
  | [],e,_,_=>exact nsE e
  | [y],e,_,_=>exact nsE ((put1 y.d).symm.trans e)
  | y::_::_::_,e,_,_=>exact nsE ((put3' y.d).symm.trans e)
  | [k,y],e,ra,s =>
   have x:=ra k Fe
   have B:=ra y (Ff _ Fe)
   have E:=s y (Ff _ Fe)
   obtain ⟨kd,F,G,I⟩:=k
   dsimp only at x
   cases kd with
   | tup ks =>
    obtain ⟨A,ws,rfl,f,w⟩:=x.view
    have e:(match eD ks with | some k=>if kvs.length < 16777216 then some (D.dt (xc kvs k y.d),D.non) else none | none=>none)=some p:=e
    cases h1:eD ks with
    | none=>rw[h1] at e;exact nsE e
    | some key =>
     rw[h1] at e
     dsimp only at e
     split at e
     .rename_i hl
      cases e
      have hw:=gj w h1
      subst hw
      have hlen:kvs.length=ps.length:=by have:=congrArg List.length j;simpa using this
      refine #[.ref A,y.v,rfl,a,_,rfl,DPut.t ha f (by rw[<- hlen,<- szl];exact hl),?_]
      have ma:MutAt H a:=.inr (.inr (.inl #[_,_,ha]))
      have g:Rep K (upd H a (.dT (ff ps key y.v) n)) y.d y.v y.L:=B.keep (M:=λb=>b=a) (λb o f h=>by rw[av h];exact f) (λb e=>by rw[e];exact ma) λb f e=>E (by rw[<- e];exact f)
      have keeps:Reps (Rep K (upd H a (.dT (ff ps key y.v) n))) (kvs.map (·.2)) (ps.map (·.2)) u:=rs.keep (M:=λb=>b=a) (λb o f h=>by rw[av h];exact f) (λb e=>by rw[e];exact ma) λb f e=>na (by rw[<- e];exact f)
      have fin:∃ l,Reps (Rep K (upd H a (.dT (ff ps key y.v) n))) ((xc kvs key y.d).map (·.2)) ((ff ps key y.v).map (·.2)) l/\(∀ c∈l,c∈u\/c∈y.L)/\(xc kvs key y.d).map (·.1)=(ff ps key y.v).map (·.1):=by
       generalize upd H a (HO.dT (ff ps key y.v) n)=H2 at keeps g ⊢
       unfold xc ff
       rw[zc j]
       split
       .obtain ⟨L2,g1,g2⟩:=pN (k:=key) j keeps g
        exact #[L2,g1,g2,by rw[qd,qd];exact j]
       .refine #[u++(y.L++[]),?_,λc i=>?_,by rw[List.map_append,List.map_append,j];rfl]
        .rw[List.map_append,List.map_append]
         exact keeps.append (.cons g .nil)
        .rcases Fq.mp i with z | z
         .exact .inl z
         .rw[List.append_nil] at z;exact .inr z
      obtain ⟨l,g1,g2,g3⟩:=fin
      exact q (.dT (ff ps key y.v) n) l #[.non,.non,[],.z] (.dT aI g3 g1) rfl (λc i=>(g2 c i).imp id λh=>#[y,Ff _ Fe,h]) rfl rfl .non λc i=>by cases i
     .exact nsE e
   | _=>exact nsE e
 | _=>exact nsE e
def xp (f g:D->List D->Option (D×D)) (a:D) (b:List D):Option (D×D):=match f a b with
 | some p=>some p
 | none=>g a b
theorem MutD.or {f g:D->List D->Option (D×D)} (h:MutD K r f) (h':MutD K r' g):MutD K (λx y H Q=>r x y H Q\/r' x y H Q) (xp f g):=λa d i as H Q p r m na ra c e q=>by
 unfold xp at e
 cases b:f d (as.map (·.d)) with
 | some p'=>rw[b] at e;cases e;exact .inl (h a d i as H Q _ r m na ra c b q)
 | none=>rw[b] at e;exact .inr (h' a d i as H Q p r m na ra c e q)
abbrev kR:=xp uw pO
theorem xM:MutD K (f9 λo i v H Q=>sP o i v H Q\/sQ o i v H Q) kR:=λa d c as H Q p r m na ra b e q=>by
 rcases MutD.or AW AX a d c as H Q p r m na ra b e q with ⟨k,v,h1,h2⟩ | ⟨k,v,h1,h2⟩
 .exact #[k,v,h1,.inl h2]
 .exact #[k,v,h1,.inr h2]
theorem sJ (hu:X.A.units+1 < cLine):vK X (λo i v H Q=>sP o i v H Q\/sQ o i v H Q):=by
 intro pins s U H o i v ov a u Q I d c b h
 rcases h with h | h
 .exact wv pins s U H o i v ov a u Q I d c b h
 .exact ww hu pins s U H o i v ov a u Q I d c b h
end
section
open PySem.Spec PyProof.Rows HT
variable {prog:Program} {w:World} {A:Around} {E:Value->Shared->Prop} {s:Shared}
theorem iF {lo hi:Option Int} (a:IsTup s.heap t items) (e:s.heap.IsSliceOf sl vl vu .none) (pl:IsPart vl lo) (pu:IsPart vu hi) (hw:sIx items.size 0 lo=0/\sIx items.size items.size hi=items.size) (h:Q (.ref t) s) (hsz:items.size<=sizeLine):wpAny (model prog w) A (getItem (.ref t) (.ref sl)) Q E s:=by
 obtain ⟨os,c,b,f⟩:=id e
 have d:s.TypeIs (.ref sl) "slice":=#[os,c,b]
 unfold getItem
 try with_reducible refine Fd ?_
 first | refine Fb (Fc ?_) | skip
 refine Fb (wpAny_sequenceKey a.typeIs (by decide) ?_)
 refine Fb (wpAny_callSpecial?_slot (name:=Str.ofString "__getitem__") a.typeIs PyProof.Rows.slot_tuple_getitem
  (wpAny_call_entry PyProof.Rows.slot_tuple_getitem a.typeIs entry_tuple_getitem ?_ (args_tuple_getitem _ _)))
 show wpAny _ _ (Builtin.Tuple.tupleItemsOf (.ref t) >>= _) _ _ s
 refine Fb (tupleItemsOf_ a ?_)
 refine Fb (wpAny_typeOf d ?_)
 rw[if_pos (by decide)]
 refine Fb (eK e pl pu ?_)
 show wpAny _ _ (if (((sIx items.size 0 lo:Nat):Int) == 0 && (1:Int) == 1 && (sIx items.size items.size hi - sIx items.size 0 lo) == items.size)=true then _ else _) _ _ s
 rw[if_pos (by simp[hw.1,hw.2])]
 refine Fb ?_
 unfold Builtin.Tuple.tupleIsExact
 refine Fb (wpAny_typeOf a.typeIs ?_)
 refine Fc ?_
 rw[if_pos (by decide)]
 exact Fb (wpAny_rule (Fc #[_,rfl,Fc h]))
end
section
variable {K:FG} {G G0:Gm} {W W0:D->Sto->Prop} {H H':Hp} {U:St} {Z Z':Sto} {T T':List It3} {g:Nat->Option It3} {x y z:It3} {α β:Type} {X:Cx} {L:List Addr}
def wU (K:FG):V->Option Int->Option Int->Hp->VK->Prop:=λx lo hi H Q=>∃ a xs,x=.ref a/\SqT K H a xs/\(HT.sIx xs.length 0 lo=0/\HT.sIx xs.length xs.length hi=xs.length)/\Q (.ref a) H
theorem zJ:SlR X (wU X.K):=by
 intro pins s U H x v g f lo hi sl Q I d e pl pu h
 obtain ⟨a,xs,rfl,c,hw,q⟩:=h
 cases d
 obtain ⟨its,r,b,hz⟩:=I.tuple c
 have hlen:its.toArray.size=xs.length:=by rw[FE];exact r.length.symm
 refine #["tuple",_,PyProof.Rows.slot_tuple_getitem.lookup,b.typeIs,?_]
 exact iF b e pl pu (by rw[hlen];exact hw) #[.ref a,H,I,rfl,q] (by rw[hlen];exact hz)
def asI:D->Option Int
 | .int i=>some i
 | _=>none
def aZ:M3 (Option Int):=bb none
def aY (m:EM):M3 (Option Int):=ai m λr=>ai (der r) λd=>bc ((asI d).map some)
def EndP (K:FG) (G:Gm) (W:D->Sto->Prop) (U:St) (T:List It3) (Z':Sto) (Q:Option Int->Hp->Prop):Except D (Option Int)->Prop
 | .ok b=>∀ H' g',Wf K G H' U Z' T g'->Q b H'
 | .error e=>W e Z'
def tP (K:FG) (G0:Gm) (W0:D->Sto->Prop) (m:M3 (Option Int)):TO:=λU H Q=>∃ G W,Le K G W G0 W0/\∃ Z T g r Z',Wf K G H U Z T g/\m Z=some (r,Z')/\EndP K G W U T Z' Q r
structure RP (X:Cx) (G0:Gm) (W0:D->Sto->Prop) (e:Option Expr) (m:M3 (Option Int)):Prop where
 h:PO X e (tP X.K G0 W0 m)
theorem PO.imp (h:PO X e t) (f:∀ U H Q,t' U H Q->t U H Q):PO X e t':=λpins s U H Q I q=>h pins s U H Q I (f U H Q q)
theorem Aa:RP X G0 W0 none aZ:=⟨PO.imp Ax λU H Q h=>by
 obtain ⟨G,W,le,Z,T,g,r,Z',w,e,q⟩:=h
 cases e
 exact q _ _ w⟩
theorem z9 (h:RE X G0 W0 e m):RP X G0 W0 (some e) (aY m):=⟨PO.imp (Aw h.h) λU H Q h=>by
 obtain ⟨G,W,le,Z,T,g,r,Z',w,e,q⟩:=h
 have a:∀ x,r=.error x->W x Z':=λx b=>by subst b;exact q
 refine tE.seq le w e a λra Z1 e1 v H1 #[Ts,g1,c,a1]=>?_
 obtain ⟨d,d1,l⟩:=aP e1
 obtain ⟨o,p,rfl,rfl⟩:=bN l
 obtain ⟨i,k,j⟩:=Fh.mp p
 subst j
 obtain ⟨y,n,f1,f2⟩:=a1.item c (λx b=>Fi _ b) d1
 have f:=(c.itm n).rep
 rw[f1] at f
 have hd:d=.int i:=by cases d <;> cases k;rfl
 rw[hd] at f
 refine ⟨i,by rw[<- f2];exact f.int_inv,q _ _ (c.sub (Fw Ts T))⟩⟩
def mSl (f:D->Option Int->Option Int->Option (D×Fl)) (ma:EM) (pl pu:M3 (Option Int)):EM:=ai ma λra=>ai pl λlo=>ai pu λhi=>ai (der ra) λd=>bc ((f d lo hi).map λp=>R3.val p.1 p.2)
def SlD (K:FG) (r:V->Option Int->Option Int->Hp->VK->Prop) (f:D->Option Int->Option Int->Option (D×Fl)):Prop:=∀ (a:It3) (lo hi:Option Int) (H:Hp) (Q:VK) (p:D×Fl),Arg K H a->f a.d lo hi=some p ->
 (∀ w H',New K H H' (dE [a]) w->w.d=p.1->w.f=p.2->Q w.v H')->r a.v lo hi H Q
theorem tP.seq (le:Le K G W G0 W0) (w:Wf K G H U Z T g) (e:ai ma k Z=some (r,Z')) (he:∀ x,r=.error x->W x Z') (h:∀ b Z1,k b Z1=some (r,Z')->∀ H1 g1,Wf K G H1 U Z1 T g1->P b H1):tP K G0 W0 ma U H P:=by
 unfold ai at e
 cases q:ma Z with
 | none=>rw[q] at e;exact nsE e
 | some p =>
  obtain ⟨o,Z1⟩:=p
  rw[q] at e
  cases o with
  | error x=>cases e;exact #[G,W,le,Z,T,g,.error x,Z',w,q,he x rfl]
  | ok ra=>exact #[G,W,le,Z,T,g,.ok ra,Z1,w,q,h ra Z1 e]
theorem BF (hd:SlD K r f) (h:tE K G0 W0 (mSl f ma pl pu) U H Q):tSl r (tE K G0 W0 ma) (tP K G0 W0 pl) (tP K G0 W0 pu) U H Q:=by
 refine h.use λG W le Z T g o Z' w e q=>?_
 refine tE.seq le w e q.err λra Z1 e1 v H1 #[Ts,g1,m,a1]=>?_
 refine tP.seq le m e1 q.err λlo Z2 t H2 g2 l=>?_
 refine tP.seq le l t q.err λhi Z3 u j g3 b=>?_
 obtain ⟨d,d1,n⟩:=aP u
 obtain ⟨p,a,rfl,rfl⟩:=bN n
 obtain ⟨y,i,f1,f2⟩:=a1.item b (λx k=>Fi _ k) d1
 subst f1 f2
 cases c:f y.d lo hi with
 | none=>rw[c] at a;exact nsE a
 | some s =>
  rw[c] at a
  cases a
  exact hd y lo hi j Q s (b.itm i).arg c (mR b (λz hz=>by rw[FT.mp hz];exact i) q)
theorem Reps.take:∀ {ds:List D} {vs:List V} {L:List Addr} (n:Nat),Reps (Rep K H) ds vs L->∃ L',Reps (Rep K H) (ds.take n) (vs.take n) L'/\∀ c∈L',c∈L
 | _,_,_,0,_=>#[[],by simpa using Reps.nil,λc j=>by cases j]
 | _,_,_,n+1,.nil=>#[[],by simpa using Reps.nil,λc j=>by cases j]
 | _,_,_,n+1,.cons (L:=L1) r rs=>by
  obtain ⟨L',h1,h2⟩:=Reps.take n rs
  exact ⟨L1++L',by simpa using Reps.cons r h1,λc j=>by
   rcases Fq.mp j with h | h
   .exact Fi _ h
   .exact Fj _ (h2 c h)⟩
theorem Reps.drop:∀ {ds:List D} {vs:List V} {L:List Addr} (n:Nat),Reps (Rep K H) ds vs L->∃ L',Reps (Rep K H) (ds.drop n) (vs.drop n) L'/\∀ c∈L',c∈L
 | _,_,L,0,r=>#[L,by simpa using r,λc j=>j]
 | _,_,_,n+1,.nil=>#[[],by simpa using Reps.nil,λc j=>by cases j]
 | _,_,_,n+1,.cons r rs=>by
  obtain ⟨L',h1,h2⟩:=Reps.drop n rs
  exact #[L',by simpa using h1,λc j=>Fj _ (h2 c j)]
theorem Reps.cut (lo hi:Option Int) (r:Reps (Rep K H) ds vs L):∃ L',Reps (Rep K H) (eE ds lo hi) (qA vs lo hi) L'/\∀ c∈L',c∈L:=by
 unfold eE qA
 rw[<- r.len]
 obtain ⟨d,h1,h2⟩:=r.drop (HT.sIx ds.length 0 lo)
 obtain ⟨L2,h3,a⟩:=h1.take (HT.sIx ds.length ds.length hi - HT.sIx ds.length 0 lo)
 exact #[L2,h3,λc b=>h2 c (a c b)]
def slD:D->Option Int->Option Int->Option (D×Fl)
 | .lst xs,lo,hi=>some (.lst (eE xs lo hi),.u)
 | .fls xs,lo,hi=>some (.lst (eE xs lo hi),.u)
 | .tup xs,lo,hi=>#v[.tup (eE xs lo hi)]
 | _,_,_=>none
theorem sd_sl:SlD K (λx lo hi H Q=>Dx K x lo hi H Q\/(Dw K x lo hi H Q\/wU K x lo hi H Q)) slD:=λa lo hi H Q p ra e q=>by
 obtain ⟨da,l,h,i⟩:=a
 have d:=ra
 obtain ⟨ra,k⟩:=ra
 dsimp only at ra e
 cases da with
 | lst xs =>
  obtain ⟨b,vs,j,rfl,rfl,ha,rs⟩:=ra.view
  cases e
  obtain ⟨L',h1,h2⟩:=rs.cut lo hi
  exact .inl #[b,vs,rfl,SqL.of ha,λp g=>q #[_,.ref p,p::L',.u] _ (uP g h1 λc f=>ol (y:=#[.lst xs,.ref b,b::j,i]) Fe d rfl rfl c (h2 c f)) rfl rfl]
 | fls xs =>
  obtain ⟨b,vs,rfl,ha,rs⟩:=ra.view
  cases e
  obtain ⟨L',h1,h2⟩:=rs.cut lo hi
  exact .inl #[b,vs,rfl,ha.sq,λp g=>q #[_,.ref p,p::L',.u] _ (uP g h1 λc f=>jP (y:=#[.fls xs,.ref b,h,i]) Fe d rfl c (h2 c f)) rfl rfl]
 | tup xs =>
  obtain ⟨b,vs,rfl,ha,rs⟩:=ra.view
  cases e
  by_cases hw:HT.sIx vs.length 0 lo=0/\HT.sIx vs.length vs.length hi=vs.length
  .have f:eE xs lo hi=xs:=by
    unfold eE
    rw[rs.len,hw.1,hw.2,<- rs.len]
    simp
   rw[f] at q
   exact .inr (.inr #[b,vs,rfl,SqT.of ha,hw,q #[.tup xs,.ref b,h,.z] H (pZ (.tup ha rs) (jP (y:=#[.tup xs,.ref b,h,i]) Fe d rfl)) rfl rfl])
  .obtain ⟨L',h1,h2⟩:=rs.cut lo hi
   exact .inr (.inl #[b,vs,rfl,SqT.of ha,hw,λp g=>q #[_,.ref p,L',.z] _ (xD g h1 λc f=>jP (y:=#[.tup xs,.ref b,h,i]) Fe d rfl c (h2 c f)) rfl rfl])
 | _=>exact nsE e
theorem CS:SlR X (λx lo hi H Q=>Dx X.K x lo hi H Q\/(Dw X.K x lo hi H Q\/wU X.K x lo hi H Q)):=sl_list.or (sl_tup.or zJ)
theorem wP (he:RE X G0 W0 e m) (hl:RP X G0 W0 lo pl) (hu:RP X G0 W0 hi pu):RE X G0 W0 (.Subscript e (.Slice lo hi none p2) pos) (mSl slD m pl pu):=#[PE.imp (pQ CS he.h hl.h hu.h) λ_ _ _ h=>BF sd_sl h]
end
mutual
def pyD:D->Option PyData
 | .non=>some .none
 | .bl b=>some (.bool b)
 | .int i=>some (.int i)
 | .str x=>some (.str x)
 | .tup xs=>(fM xs).map .tuple
 | .lst xs=>(fM xs).map .list
 | .fls xs=>(fM xs).map .list
 | .dk _=>none
 | .dt _=>none
 | .exc _ _=>none
 | .desk _ _=>none
def fM:List D->Option (List PyData)
 | []=>some []
 | d::ds=>match pyD d,fM ds with
  | some p,some ps=>some (p::ps)
  | _,_=>none
end
section
variable {K:FG} {H:Hp} {Ks:Addr->Prop} {d:D} {v:V} {L:List Addr} {X:Cx}
set_option tactic.hygienic true in
theorem Rep.dv (r:Rep K H d v L):∀ p,pyD d=some p->DV K H v p:=by
 refine Rep.rec (motive_1:=λd v _ _=>∀ p,pyD d=some p->DV K H v p) (motive_2:=λds vs _ _=>∀ ps,fM ds=some ps->DVs K H vs ps) ?_ ?_ ?_ ?_ ?_ ?_ ?_ ?_ ?_ ?_ ?_ ?_ ?_ ?_ r
 .intro p e;unfold pyD at e;cases e;exact .non
 .intro _ p e;unfold pyD at e;cases e;exact .bl _
 .intro _ p e;unfold pyD at e;cases e;exact .int _
 .intro _ p e;unfold pyD at e;cases e;exact .str _
 .intro xs a vs L h _ b p e
  unfold pyD at e
  obtain ⟨ps,e1,rfl⟩:=Fh.mp e
  exact .tup (SqT.of h) (b ps e1)
 .intro xs a vs L h _ b p e
  unfold pyD at e
  obtain ⟨ps,e1,rfl⟩:=Fh.mp e
  exact .lst (SqL.of h) (b ps e1)
 .intro xs a vs L h _ b p e
  unfold pyD at e
  obtain ⟨ps,e1,rfl⟩:=Fh.mp e
  exact .lst h.sq (b ps e1)
 .intro _ _ _ _ _ _ _ _ p e;unfold pyD at e;exact nsE e
 .intro _ _ _ _ _ _ _ _ _ p e;unfold pyD at e;exact nsE e
 .intros;rename_i e;unfold pyD at e;exact nsE e
 .intros;rename_i e;unfold pyD at e;exact nsE e
 .intros;rename_i e;unfold pyD at e;exact nsE e
 .intro ps e;unfold fM at e;cases e;exact .nil
 .intro d v L ds vs L' _ _ f c ps e
  unfold fM at e
  cases h1:pyD d with
  | none=>rw[h1] at e;exact nsE e
  | some p =>
   cases h2:fM ds with
   | none=>rw[h1,h2] at e;exact nsE e
   | some qs=>rw[h1,h2] at e;cases e;exact .cons (f p h1) (c qs h2)
def eqP (a b:D):Option Bool:=match pyD a,pyD b with
 | some p,some q=>if p.canLay0 && q.canLay0 && decide (min p.depth q.depth<=30) then some (PyData.eqv p q) else none
 | _,_=>none
def eqA (a b:D):Option Bool:=match eqS a b with
 | some k=>some k
 | none=>eqP a b
abbrev eqX (a b:D):Option (D×Fl):=(eqA a b).map λk=>(.bl k,.z)
abbrev neX (a b:D):Option (D×Fl):=(eqA a b).map λk=>(.bl (!k),.z)
def rEqP:R2:=λx y H Q=>∃ p q,DV X.K H x p/\DV X.K H y q/\p.canLay0=true/\q.canLay0=true/\min p.depth q.depth<=30/\Q (.bl (PyData.eqv p q)) H
def rNeP:R2:=λx y H Q=>∃ p q,DV X.K H x p/\DV X.K H y q/\p.canLay0=true/\q.canLay0=true/\min p.depth q.depth<=30/\Q (.bl (!PyData.eqv p q)) H
theorem xu (hu:X.A.units+64 < cLine):OpR X (compareOp .Eq) (λx y H Q=>rEq x y H Q\/rEqP (X:=X) x y H Q):=by
 intro pins s U H x y v u Q I a b h
 rcases h with h | ⟨p,q,h1,h2,h3,c,e,d⟩
 .exact op_eq pins s U H x y v u Q I a b h
 .obtain ⟨as,ra⟩:=DV.reads I h1 a
  obtain ⟨bs,rb⟩:=DV.reads I h2 b
  exact PySem.SeqAt.compareEq_reads ra rb h3 c (by lia) #[.bl _,H,I,rfl,d]
theorem DY (hu:X.A.units+64 < cLine):OpR X (compareOp .NotEq) (λx y H Q=>rNe x y H Q\/rNeP (X:=X) x y H Q):=by
 intro pins s U H x y v u Q I a b h
 rcases h with h | ⟨p,q,h1,h2,h3,c,e,d⟩
 .exact op_ne pins s U H x y v u Q I a b h
 .obtain ⟨as,ra⟩:=DV.reads I h1 a
  obtain ⟨bs,rb⟩:=DV.reads I h2 b
  exact PySem.SeqAt.compareNe_reads ra rb h3 c (by lia) #[.bl _,H,I,rfl,d]
set_option tactic.hygienic true in
theorem tR (e:eqP a b=some k):∃ p q,pyD a=some p/\pyD b=some q/\p.canLay0=true/\q.canLay0=true/\min p.depth q.depth<=30/\k=PyData.eqv p q:=by
 unfold eqP at e
 cases h1:pyD a with
 | none=>rw[h1] at e;exact nsE e
 | some p =>
  cases h2:pyD b with
  | none=>rw[h1,h2] at e;exact nsE e
  | some q =>
   rw[h1,h2] at e
   dsimp only at e
   split at e
   .rename_i h
    cases e
    simp only[Bool.and_eq_true,decide_eq_true_eq] at h
    exact #[p,q,rfl,rfl,h.1.1,h.1.2,h.2,rfl]
   .exact nsE e
theorem xA:OpD X.K (λx y H Q=>rEq x y H Q\/rEqP (X:=X) x y H Q) eqX:=λa b H Q p ra rb e q=>by
 obtain ⟨k,h1,h2⟩:=Fh.mp e
 subst h2
 unfold eqA at h1
 cases c:eqS a.d b.d with
 | some k' =>
  rw[c] at h1
  cases h1
  obtain ⟨s,l⟩:=yD ra.rep rb.rep c
  exact .inl #[s,by rw[<- l];exact q #[.bl k,.bl k,[],.z] H (bI (.bl k)) rfl rfl]
 | none =>
  rw[c] at h1
  obtain ⟨p,f,e1,i,h,j,g,rfl⟩:=tR h1
  exact .inr #[p,f,ra.rep.dv p e1,rb.rep.dv f i,h,j,g,q #[.bl _,.bl _,[],.z] H (bI (.bl _)) rfl rfl]
theorem Ed:OpD X.K (λx y H Q=>rNe x y H Q\/rNeP (X:=X) x y H Q) neX:=λa b H Q p ra rb e q=>by
 obtain ⟨k,h1,h2⟩:=Fh.mp e
 subst h2
 unfold eqA at h1
 cases c:eqS a.d b.d with
 | some k' =>
  rw[c] at h1
  cases h1
  obtain ⟨s,l⟩:=yD ra.rep rb.rep c
  exact .inl #[s,by rw[<- l];exact q #[.bl (!k),.bl (!k),[],.z] H (bI (.bl _)) rfl rfl]
 | none =>
  rw[c] at h1
  obtain ⟨p,f,e1,i,h,j,g,rfl⟩:=tR h1
  exact .inr #[p,f,ra.rep.dv p e1,rb.rep.dv f i,h,j,g,q #[.bl _,.bl _,[],.z] H (bI (.bl _)) rfl rfl]
def intQ1:D->Option (D×Fl)
 | .int i=>#v[.int i]
 | .bl k=>#v[.int (if k then 1 else 0)]
 | _=>none
abbrev lh:=c1 intQ1
set_option tactic.hygienic true in
theorem Bs:b8 K (λxs H Q=>(∃ i,xs=[.int i]/\Q (.int i) H)\/∃ k,xs=[.bl k]/\Q (.int (if k then 1 else 0)) H) lh:=λys H Q p ra e q=>by
 obtain ⟨y,rfl,a⟩:=eF e
 clear e
 have e:=a
 clear a
 have c:=(ra y Fe).rep
 obtain ⟨da,g,d,f⟩:=y
 dsimp only at c e
 cases c <;> try (exact nsE e)
 .rename_i b
  cases e
  exact .inr #[b,rfl,q #[_,_,[],.z] H (bI (.int _)) rfl rfl]
 .rename_i i
  cases e
  exact .inl #[i,rfl,q #[_,_,[],.z] H (bI (.int _)) rfl rfl]
end
theorem EK {k:Nat} {nn:Nat} (F:Fun K x x st f fd) (S:FnScope N ps (ah st)) (c:mask.length=ps.length) (b:N.length=nn) (body:∀ (a:Value) (A:Around) (outer:List Env) (s:Shared) (H:Hp) (E:XK) (f:Addr) (G:Gm),Room k (A.deeper (PyProof.Rows.envOfC x (ah st) s.heap.objs.size f a))->G.pr=prM mask->RSs (dD CX0 P w K mg base N x (ah st) f a A outer s H E).nox G noX (aG st) m) :
  FnOk P w K mg base CX0 (k+1) f fd ps (qR K (fnM mask nn m)):=by
 refine F.ok S (λvs H Q E h=>?_) λa A outer s H vs Q E e h=>?_
 .obtain ⟨j,p,fs,rfl,_,_,d,_⟩:=h
  unfold fnM at d
  grind
 .have hle:mask.length<=nn:=by
   rw[c,<- b]
   have:=congrArg List.length S.pre
   rw[FP] at this
   omega
  obtain ⟨G,g,i⟩:=oH hle h
  subst b
  exact #[_,(body a A outer s H E f G e g).h,i]
def wk (K:FG):Sp:=λvs H Q _=>∃ (a:Addr) (ns:List Int),vs=[.ref a]/\SqL K H a (ns.map V.int)/\BB H/\ns.length<=63/\∀ H',Q (.bl true) H'
theorem my:∀ ns:List Int,Reps (Rep K H) (ns.map D.int) (ns.map V.int) []
 | []=>.nil
 | n::ns=>.cons (L:=[]) (.int n) (my ns)
theorem A5 (b:∀ ns:List Int,ns.length<=63->∃ fs,F [(.fls (ns.map .int),.z)]=some (.ok (.bl true,.z),fs)) (h:wk K vs H Q E):qR K F vs H Q E:=by
 obtain ⟨a,ns,rfl,f,i,d,q⟩:=h
 obtain ⟨fs,e⟩:=b ns d
 have g:FzL K H a (ns.map V.int):=by
  rcases f with (h | h) | h
  .rcases i a with z | ⟨o,xs,z⟩
   .rw[h] at z;cases z
   .rw[h] at z;cases z
  .exact .inl h
  .exact .inr h
 refine #[[#[.fls (ns.map .int),.ref a,[],.z]],(.bl true,.z),fs,rfl,λp c=>?_,.cons (λ_ h=>by cases h) .nil,e,λx qs H' B x1 j _=>?_]
 .rw[FT.mp c]
  exact #[.lstF g (my ns),λh=>absurd rfl h]
 .have r:=B.rep
  rw[x1] at r
  have inv:∀ {v:V} {L:List Addr},Rep K H' (.bl true) v L->v=.bl true:=λr=>by cases r;rfl
  rw[inv r]
  exact q H'
def bR (ok:D->Bool) (f:List D->Option (D×Fl)) (b:EM) (ms:M3 (List R3)):EM:=ai b λa=>ai (der a) λc=>if ok c then ai ms λrs=>ai (dw (a::rs)) λds=>bc ((f ds).map λp=>R3.val p.1 p.2) else λ_=>none
section
variable {K:FG} {G G0:Gm} {W W0:D->Sto->Prop} {H H':Hp} {U:St} {Z Z':Sto} {T T':List It3} {g:Nat->Option It3} {x y z:It3} {α β:Type} {X:Cx} {v:V} {d:D} {L:List Addr}
theorem zD (B:b8 K (λxs H Q=>∃ x vs,xs=x::vs/\r x vs H Q) f) (hok:∀ d v L H,ok d=true->Rep K H d v L->tyV K Ty v H) (h:tE K G0 W0 (bR ok f mo ms) U H Q) :
  tBM K Ty r (tE K G0 W0 mo) (tA K G0 W0 ms) U H Q:=by
 refine h.use λG W le Z T g o Z' w e q=>?_
 refine tE.seq le w e q.err λI Z1 e1 u H1 #[Ts,g1,j,a1]=>?_
 obtain ⟨m,d1,c⟩:=aP e1
 cases l:ok m with
 | false=>rw[l] at c;exact nsE c
 | true =>
  rw[l] at c
  obtain ⟨y0,D,f0,f1⟩:=a1.item j (λx i=>Fi _ i) d1
  refine #[hok m u _ H1 l (by rw[<- f0,<- f1];exact (j.itm D).rep),?_]
  refine tA.seq le j c q.err λrs Z2 F vs H2 Us g2 b a2=>?_
  obtain ⟨ds,E,z⟩:=bU F
  obtain ⟨p,a,rfl,rfl⟩:=bN z
  rw[<- List.append_assoc] at b
  obtain ⟨ys,n,f2,t⟩:=(Ars.cons a1 a2).items b (λx i=>Fi _ i) E
  subst f2
  cases k:f (ys.map (·.d)) with
  | none=>rw[k] at a;exact nsE a
  | some s =>
   rw[k] at a
   cases a
   obtain ⟨J,A,h1,h2⟩:=B ys H2 Q s (λy C=>(b.itm (n y C)).arg) k (mR b n q)
   rw[t] at h1
   cases h1
   exact h2
theorem ji {id:String} (k:PlainAttrs Ty) (slot:Slot Ty nm id) (i:typeOf (.builtin id)=pure (.type "method_descriptor")) (hm:MtR X id r) (j:b8 X.K (λxs H Q=>∃ x vs,xs=x::vs/\r x vs H Q) f) (hok:∀ d v L H,ok d=true->Rep X.K H d v L->tyV X.K Ty v H) (l:RE X G0 W0 o mo) (ha:RA X G0 W0 (e::es) ms) (c:attributeBase o nm X.env (eval o X.env)=eval o X.env) (g:((backTo cpos (starEach (e::es) X.env)).all (λx=>!x.1) && (backToKw cpos (keywordEach [] X.env)).all (λx=>x.1.isSome) && decide ((e::es).length+([]:List Keyword).length+(if ([]:List Keyword).isEmpty then 0 else 1) < 30))=true) (b:(apos.endLine == cpos.line)=true) (m:starEach (e::es) X.env=(false,eval e X.env)::starEach es X.env) (a:(backTo cpos (starEach es X.env)).any (·.1)=false):RE X G0 W0 (.Call (.Attribute o nm apos) (e::es) [] cpos) (bR ok f mo ms) :=
 #[PE.imp (BP k slot i hm l.h ha.h c g b m a) λ_ _ _ h=>zD j hok h]
end
section
variable {K:FG} {G G0:Gm} {W W0:D->Sto->Prop} {H H':Hp} {U:St} {Z Z':Sto} {T T':List It3} {g:Nat->Option It3} {x y z:It3} {α β:Type} {X:Cx} {v:V} {d:D} {L:List Addr}
theorem Reps.rep (r:Reps (Rep K H) ds vs L):∀ n:Nat,∃ L',Reps (Rep K H) (List.replicate n ds).flatten (List.replicate n vs).flatten L'/\∀ c∈L',c∈L
 | 0=>#[[],.nil,λ_ h=>by cases h]
 | n+1=>by
  obtain ⟨L',h1,h2⟩:=Reps.rep r n
  refine #[L++L',?_,λc a=>?_]
  .rw[List.replicate_succ,List.replicate_succ,List.flatten_cons,List.flatten_cons];exact r.append h1
  .rcases Fq.mp a with h | h
   .exact h
   .exact h2 c h
def zk (i j:Int):Prop:=0 < j/\j < 1267650600228229401496703205376
theorem xt:OpR X (binaryOp .FloorDiv) (rI zk λi j=>.int (i / j)):=opI λi j _ _ _ _ _ a q=>by
 have h1:(0:Int) < j:=a.1
 have h2:j < 1267650600228229401496703205376:=a.2
 refine PyProof.Rows.floordiv_int (by lia) (by rw[Int.fdiv_eq_ediv_of_nonneg i (by lia)];exact q) (.inl (PyProof.noPylong_of_log2 ?_))
 have h3:j.natAbs < 2 ^ 100:=by lia
 exact Nat.lt_trans ((Nat.log2_lt (by lia)).mpr h3) (by decide)
abbrev vg:=dZ (λ_ j=>decide (0 < j/\j < 1267650600228229401496703205376)) λi j=>.int (i / j)
theorem AR:OpD K (rI zk λi j=>.int (i / j)) vg:=ir (λi j h=>by simpa[zk] using h) λi j _=>.int _
end
section
variable {K:FG} {G G0:Gm} {W W0:D->Sto->Prop} {H H':Hp} {U:St} {Z Z':Sto} {T T':List It3} {g:Nat->Option It3} {x y z:It3} {α β:Type} {X:Cx} {v:V} {d:D} {L:List Addr}
def nG (i j:Nat) (ms:M3 (List R3)):SM:=ai ms λrs=>ai (gives rs) λds=>λZ=>match ds with
 | [a,b]=>if i < Z.length/\j < Z.length then some (.ok .nx,(Z.set i #v[a]).set j #v[b]) else none
 | _=>none
theorem Wf.again (w:Wf K G H U Z T g) (a:Itm T g y) (hz:y.f=.z):Wf K G H U Z (y::T) g :=
 w.push (Ks:=dE [y]) #[Same.refl _,(w.itm a).rep,λc b=>.inr #[y,Fe,b,λh=>absurd hz h],λh=>absurd hz h] λc h=>w.kids (λu hu=>by rw[FT.mp hu];exact a) h
set_option tactic.hygienic true in
theorem Cy {i j:Nat} (hi:G0.pr i=false) (x:G0.pr j=false) (h:tS K G0 W0 (nG i j ms) E U H):tPar i j (tA K G0 W0 ms) E U H:=by
 refine h.use λG W le Z T g r Z' w e q=>?_
 refine tA.seq le w e q.err λrs Z1 e1 vs H1 Ts g1 y a1=>?_
 obtain ⟨ds,Z2,g2,c,_,u,_,ys,m,f1,f2⟩:=a1.gives y e1
 match ds,c,ys,f1,m,f2 with
 | [],c,_,_,_,_=>exact nsE c
 | [_],c,_,_,_,_=>exact nsE c
 | _::_::_::_,c,_,_,_,_=>exact nsE c
 | [a,b],c,[],f1,_,_=>cases f1
 | [a,b],c,[_],f1,_,_=>cases f1
 | [a,b],c,_::_::_::_,f1,_,_=>cases f1
 | [a,b],c,[y1,l],f1,m,f2 =>
  have c:(if i < Z2.length/\j < Z2.length then some (Except.ok Flw.nx,(Z2.set i (some (a,Fl.z))).set j (some (b,Fl.z))) else none)=some (r,Z'):=c
  split at c
  .rename_i hl
   cases c
   obtain ⟨D,C⟩:=m y1 Fe
   obtain ⟨s,F⟩:=m l (Ff _ Fe)
   have B:=u.again s F
   have n:Itm (l::(Ts.map cq++T)) g2 y1:=D.imp id λh=>Ff _ h
   have I:=B.again n C
   have A:=I.store (f:=.z) hl.1 (by rw[le.pr];exact hi) (.inr rfl) (by intro h;cases h)
   have t:=A.store (f:=.z) (i:=j) (by rw[List.length_set];exact hl.2) (by rw[le.pr];exact x) (.inr rfl) (by intro h;cases h)
   have o:=t.sub (Fw (Ts.map cq) T)
   have k:y1.d=a/\l.d=b:=by injection f1 with p q;injection q with q _;exact #[p,q]
   rw[k.1,k.2] at o
   exact #[y1.v,l.v,f2.symm,q _ _ _ o]
  .exact nsE c
theorem Dd (i j:Nat) {x y:Str} (m:X.calm=true) (g:X.N.Nodup) (hi:X.N[i]?=some x) (d:X.N[j]?=some y) (c:i≠j) (e:X.env.scope.names.lookup x=some .local) (l:X.env.scope.names.lookup y=some .local) (ha:RA X G0 W0 [a,b] ms) (hw:swappedStores [.Tuple [.Name x px,.Name y py] kt pt] (.Tuple [a,b] k2 pt2) X.env=pure (some [x,y])) (f:swapsWithSole [.Tuple [.Name x px,.Name y py] kt pt] (.Tuple [a,b] k2 pt2) pos.line X.env=pure false) (pi:G0.pr i=false) (k:G0.pr j=false) :
  RS X G0 W0 (.Assign [.Tuple [.Name x px,.Name y py] kt pt] (.Tuple [a,b] k2 pt2) pos) (nG i j ms):=#[PS.imp (DG m g hi d c e l ha.h hw f) λ_ _ _ h=>Cy pi k h]
end
end L3
theorem L2.Room.hu {k:Nat} (a:L2.Room k A):A.units+1 < PySem.cLine:=L2.hu_of a
end
section
namespace L3
open PySem L2
section
variable {K:FG} {G G0:Gm} {W W0:D->Sto->Prop} {H H':Hp} {U:St} {Z Z':Sto} {T T':List It3} {g:Nat->Option It3} {x y z:It3} {α β:Type} {X:Cx} {v:V} {d:D} {L:List Addr}
def popF:D->List D->Option (D×D)
 | .lst xs,[]=>match xs.getLast? with
  | some (.int i)=>some (.lst xs.dropLast,.int i)
  | _=>none
 | _,_=>none
def idxQ:D->D->Option (D×Fl)
 | .lst xs,.bl true=>(fK xs).bind λbs=>if bs.findIdx id < bs.length then #v[.int (bs.findIdx id:Nat)] else none
 | _,_=>none
abbrev idxD:=c2 idxQ
set_option tactic.hygienic true in
theorem yT:b8 K (λxs H Q=>∃ x vs,xs=x::vs/\∃ (a:Addr) (xs:List V) (k:V) (j:Nat),x=.ref a/\vs=[k]/\SqL K H a xs/\fJ k=true/\xs.all fJ=true/\(∃ y,xs[j]?=some y/\eqV y k=true)/\(∀ (i:Nat) (y:V),i < j->xs[i]?=some y->eqV y k=false)/\Q (.int j) H) idxD:=λys H Q p ra e q=>by
 obtain ⟨y,z,rfl,c⟩:=lE e
 clear e
 have h:=(ra y Fe).rep
 have l:=(ra z (Ff _ Fe)).rep
 obtain ⟨da,v,A,t⟩:=y
 obtain ⟨db,r,s,o⟩:=z
 dsimp only at h l c
 cases da with
 | lst xs =>
  obtain ⟨f,vs,u,rfl,rfl,ha,rs⟩:=h.view
  cases l with
  | bl b =>
   cases b with
   | false=>exact nsE c
   | true =>
    obtain ⟨bs,h1,h2⟩:=FR.mp (show ((fK xs).bind λbs=>if bs.findIdx id < bs.length then some ((.int (bs.findIdx id:Nat),.z):D×Fl) else none)=some p from c)
    split at h2
    .rename_i hl
     cases h2
     have n:=jy h1
     subst n
     have m:=rs.bls
     subst m
     refine #[.ref f,[.bl true],rfl,f,bs.map V.bl,.bl true,bs.findIdx id,rfl,rfl,SqL.of ha,rfl,by simp[fJ],#[.bl (bs[bs.findIdx id]),by rw[Fz,Fo hl];rfl,?_],λi w hi hw=>?_,q #[.int _,.int _,[],.z] H (bI (.int _)) rfl rfl]
     .have:=List.findIdx_getElem (p:=id) (w:=hl)
      show (bs[bs.findIdx id] == true)=true
      simpa using this
     .rw[Fz] at hw
      obtain ⟨b,g,rfl⟩:=Fh.mp hw
      have d:i < bs.length:=by lia
      have:=List.not_of_lt_findIdx (p:=id) hi
      rw[Fo d] at g
      cases g
      show (bs[i] == true)=false
      simpa using this
    .exact nsE h2
  | _=>exact nsE c
 | _=>exact nsE c
end
def XA (K:FG):D->Value->Option Addr->Hp->Prop:=λe cls da H=>∃ c C fs,e=.exc c fs/\cls=.ref C/\XName K c C/\PayX K H da fs
abbrev BC (P:Program) (w:World) (K:FG) (mg:Str->Option Value) (base:Heap) (x:Str) (k:Nat) (ps:List Str) (F:Fn):Prop:=CalleeX P w K mg base x k ps (spF (XA K) K F)
abbrev vL (P:Program) (w:World) (K:FG) (mg:Str->Option Value) (base:Heap) (x:Str) (k:Nat) (ps:List Str) (F:Fn):Prop:=CalleeN P w K mg base x k ps (qR K F)
structure Pas (X:Cx) (G0:Gm) (W0:D->Sto->Prop):Prop where
 fly:∀ (pins:List (Addr×Obj)) (U:St) (H:Hp) (s:Shared) (e:Value) (s':Shared),Inv X pins U H s->CXe X.prog X.w X.stack H s (EX (XA X.K) X.K G0 W0 U) e s'->X.xe e s'
structure Mak (X:Cx) (G0:Gm) (W0:D->Sto->Prop):Prop where
 made:∀ (pins:List (Addr×Obj)) (U:St) (H:Hp) (s s':Shared) (a C:Addr) (vs:List Value),Inv X pins U H s->EX (XA X.K) X.K G0 W0 U (.ref C) none H->Heap.MadeExcOf s.heap s'.heap a (.ref C) vs->s'.os=s.os->s'.gens=s.gens->X.xe (.ref a) s'
 madeV:∀ (pins:List (Addr×Obj)) (U:St) (H:Hp) (s:Shared) (a t d C:Addr),Inv X pins U H s->EX (XA X.K) X.K G0 W0 U (.ref C) (some d) H->s.heap.get? a=some (EO C t (some d))->X.s₀.heap.get? a=none->H a=none->X.xe (.ref a) s
section
variable {X:Cx} {G G0:Gm} {W W0:D->Sto->Prop} {K:FG} {H H':Hp} {U:St} {Z Z':Sto} {T T':List It3} {g:Nat->Option It3} {m:SM} {ms:M3 (List R3)} {st:Stmt} {sts:List Stmt} {x:Str} {p pos:Pos} {e:Expr} {es:List Expr} {k:Nat} {ps:List Str} {F:Fn}
theorem wR (c:BC X.prog X.w X.K X.mg X.base x k ps F) (d:Room k X.A) (f:Pas X G0 W0) (ha:RA X G0 W0 (e::es) ms) (g:Gl X x) (a:(x == ("__debug__":Str))=false)
  (he:starEach (e::es) X.env=(false,eval e X.env)::starEach es X.env) (b:(backTo pos (starEach es X.env)).any (·.1)=false):RE X G0 W0 (.Call (.Name x p) (e::es) [] pos) (lc F ms) :=
 #[PE.imp (DO c d f.fly ha.h g a he b) λ_ _ _ h=>zF h]
theorem wS (c:vL X.prog X.w X.K X.mg X.base x k ps F) (d:RoomN k X.A) (g:Hd X) (ha:RA X G0 W0 (e::es) ms) (f:Gl X x) (b:(x == ("__debug__":Str))=false)
  (he:starEach (e::es) X.env=(false,eval e X.env)::starEach es X.env) (a:(backTo pos (starEach es X.env)).any (·.1)=false):RE X G0 W0 (.Call (.Name x p) (e::es) [] pos) (ay F ms) :=
 #[PE.imp (DP c d g ha.h f b he a) λ_ _ _ h=>pv h]
def tS1 (K:FG) (G:Gm) (W:D->Sto->Prop) (m:SM):TS:=λE U H=>∃ Z g r Z',Wf K G H U Z [] g/\m Z=some (r,Z')/\EndS K G W [] Z' E r
theorem tS1.all (h:tS1 K G W m E U H):tS K G W m E U H:=by
 obtain ⟨Z,g,r,Z',w,e,q⟩:=h
 exact tS.mk (Le.refl K _ _) w e q
structure RS1 (X:Cx) (G0:Gm) (W0:D->Sto->Prop) (s:Stmt) (m:SM):Prop where
 h:PS X s (tS1 X.K G0 W0 m)
structure RSs1 (X:Cx) (G0:Gm) (W0:D->Sto->Prop) (s:List Stmt) (m:SM):Prop where
 h:PSs X s (tS1 X.K G0 W0 m)
theorem wH (h:RS1 X G0 W0 st m):RSs1 X G0 W0 [st] m:=#[sZ h.h]
end
set_option tactic.hygienic true in
theorem qu {n:Nat} {E:XK} {ps:List It3} (hn:mask.length<=n) (ha:∀ p∈ps,Arg K H p) (hp:ps.Pairwise Apart3) (q:match o with
   | .ok p=>∀ x qs H',Behind K H H' ps qs x->x.d=p.1->x.f=p.2->qs.map (λq=>(q.d,q.f))=fs->Q x.v H'
   | .error e=>∀ qs H' cls da,BehindX K H H' ps qs->qs.map (λq=>(q.d,q.f))=fs->XA K e cls da H'->E cls da H') (l:fnM mask n m (ps.map λp=>(p.d,p.f))=some (o,fs)) :
  ∃ (G:Gm) (W:D->Sto->Prop),G.pr=prM mask/\(∀ e Z,W e Z->∃ e',o=.error e')/\(∀ U cls da H',EX (XA K) K G W U cls da H'->E cls da H')/\tS1 K G W m { nx:=λ_ H'=>Q .non H',rt:=Q } ((ps.map (·.v)).map some++List.replicate (n - (ps.map (·.v)).length) none) H:=by
 unfold fnM at l
 rw[Ft] at l
 split at l
 .rename_i hl
  rw[<- jL] at l
  generalize y:List.zipWith cF mask ps=g at l
  have ar:g.length=ps.length:=by rw[<- y,List.length_zipWith];lia
  have T:g.map (·.v)=ps.map (·.v):=by
   refine List.ext_getElem? λi=>?_
   rw[Fz,Fz]
   cases e:ps[i]? with
   | none=>rw[List.getElem?_eq_none (by have:=List.getElem?_eq_none_iff.mp e;lia)]
   | some u =>
    obtain ⟨b,_,t⟩:=jr (mask:=mask) hl e
    rw[y] at t
    rw[t]
    show some (cF b u).v=some u.v
    rw[(bx b u).2.1]
  have up:∀ (i:Nat) (u:It3),g[i]?=some u->∃ b s,mask[i]?=some b/\ps[i]?=some s/\u=cF b s:=λi u e=>by rw[<- y] at e;exact mH e
  have I:∀ u∈g,∃ b s,s∈ps/\u=cF b s:=λu hu=>by
   obtain ⟨i,hi,e⟩:=List.mem_iff_getElem.mp hu
   obtain ⟨b,s,_,t,A⟩:=up i u (by rw[Fo hi,e])
   exact #[b,s,Fv t,A]
  have C:∀ u∈g,Arg K H u:=λu hu=>by
   obtain ⟨b,s,h0,rfl⟩:=I u hu
   obtain ⟨e1,t,A,e4⟩:=bx b s
   refine #[by rw[e1,t,A];exact (ha s h0).rep,λhf=>?_]
   rw[e1,t,A]
   refine (ha s h0).own λz=>hf ?_
   rcases e4 with f | f
   .rw[f];exact z
   .exact f
  have J:g.Pairwise Apart3:=by
   rw[List.pairwise_iff_getElem]
   intro i j hi hj lt
   obtain ⟨b,s,_,t,A⟩:=up i _ (Fo hi)
   obtain ⟨M,V,_,ae,ax⟩:=up j _ (Fo hj)
   have ap:=cA hp (λ_ _=>Apart3.symm) (FD lt) t ae
   rw[A,ax]
   obtain ⟨_,a2,σ,a4⟩:=bx b s
   obtain ⟨_,b2,b3,b4⟩:=bx M V
   exact #[ap.1.low a2 a4 b3,ap.2.low b2 b4 σ]
  have F:∀ (i:Nat) (u:It3),g[i]?=some u->u.f≠.z->prM mask i=true:=λi u e hf=>by
   obtain ⟨b,s,e1,t,A⟩:=up i u e
   unfold prM
   rw[e1]
   cases b with
   | false=>rfl
   | true=>rw[A] at hf;exact absurd rfl hf
  have alls:∀ c,cY g c->cY ps c:=λc #[u,hu,P]=>by
   obtain ⟨b,s,h0,rfl⟩:=I u hu
   exact #[s,h0,by rw[<- (bx b s).2.2.1];exact P]
  have lift:∀ {H':Hp} {qs:List It3},BehindX K H H' g qs->BehindX K H H' ps qs:=λ{H' qs} B=>by
   refine #[λb o hb hn=>B.frame b o hb λu hu hf T=>?_,Paired.ofGet ?_ λk u v eu ev=>?_,B.apart]
   .obtain ⟨M,s,h0,rfl⟩:=I u hu
    obtain ⟨_,t,_,e4⟩:=bx M s
    rcases e4 with f | f
    .exact hn s h0 (by rw[<- f];exact hf) (by rw[<- t];exact T)
    .rw[f] at hf;cases hf
   .rw[<- ar];exact Paired.length B.back
   .obtain ⟨b,_,t⟩:=jr (mask:=mask) hl eu
    rw[y] at t
    have b1:=Paired.at B.back t ev
    obtain ⟨a1,a2,σ,a4⟩:=bx b u
    refine #[λhz=>?_,by rw[b1.v,a2],?_,b1.arg,λc P=>(b1.src c P).imp id (alls c),λhf M N=>?_]
    .have:cF b u=u:=by
      cases b
      .rfl
      .obtain ⟨d,v,L,f⟩:=u
       have hz:f=.z:=hz
       subst hz;rfl
     rw[<- this]
     exact b1.z (by rw[this];exact hz)
    .rcases b1.f with h | h
     .rcases a4 with f | f
      .exact .inl (h.trans f)
      .exact .inr (h.trans f)
     .exact .inr h
    .rcases a4 with f | f
     .exact b1.there (by rw[f];exact hf) M (by rw[a2];exact N)
     .-- lowered: as it was
      obtain ⟨_,a,L',v1,v2,_⟩:=(ha u (Fv eu)).own (by rw[hf];intro q;cases q)
      rw[N] at v1;cases v1
      have R:=b1.z f
      have r:=b1.arg.rep
      rw[R,a1,a2,σ] at r
      exact (r.inH M (by rw[v2];exact Fe)).ex
  have X:g.length<=n:=by lia
  have wf:=pd (K:=K) (H:=H) (n:=n) (pr:=prM mask) X C J F
  rw[T] at wf
  have h0:∀ (i:Nat) (u:It3),g[i]?=some u->((ps.map (·.v)).map some++List.replicate (n - (ps.map (·.v)).length) none)[i]?=some (some u.v):=λi u e=>jE (by rw[<- T];exact tq e)
  unfold fn0 at l
  cases e:m (entry n (g.map λp=>(p.d,p.f))) with
  | none=>rw[e] at l;exact nsE l
  | some rr =>
   obtain ⟨r,Z2⟩:=rr
   rw[e] at l
   refine #[gOf H (prM mask) ((ps.map (·.v)).map some++List.replicate (n - (ps.map (·.v)).length) none) g,λS Z=>r=.error S/\Z=Z2,rfl,λS Z hw=>?_,λU' cls da H' hx=>?_,entry n (g.map λp=>(p.d,p.f)),_,r,Z2,wf,e,?_]
   .obtain ⟨rfl,_⟩:=hw
    dsimp only at l
    cases w:dM Z2 0 (g.map λp=>(p.d,p.f)) with
    | none=>rw[w] at l;exact nsE l
    | some fs'=>rw[w] at l;cases l;exact #[S,rfl]
   .obtain ⟨S,Z',T',g',w',xa,rfl,rfl⟩:=hx
    dsimp only at l
    cases w:dM Z' 0 (g.map λp=>(p.d,p.f)) with
    | none=>rw[w] at l;exact nsE l
    | some fs' =>
     rw[w] at l
     cases l
     obtain ⟨qs,τ,R,_⟩:=kc (n:=n) C J F h0 w' w
     exact q qs H' cls da (lift τ) R xa
   have fin:∀ {x:It3} {U':St} {H':Hp} {g':Nat->Option It3} {d:D} {f:Fl},Wf K (gOf H (prM mask) ((ps.map (·.v)).map some++List.replicate (n - (ps.map (·.v)).length) none) g) H' U' Z2 [x] g'->x.d=d->x.f=f ->
     ((dM Z2 0 (g.map λp=>(p.d,p.f))).map λfs=>((.ok (d,f),fs):Except D (D×Fl)×List (D×Fl)))=some (o,fs)->Q x.v H':=λ{x U' H' g' d f} O xd xf l=>by
    cases w:dM Z2 0 (g.map λp=>(p.d,p.f)) with
    | none=>rw[w] at l;exact nsE l
    | some fs' =>
     rw[w] at l
     cases l
     obtain ⟨qs,B,R⟩:=lG (n:=n) C J F h0 O w
     have τ:=lift B.toBehindX
     exact q x qs H' #[τ,B.rep,B.own,λc P=>(B.src c P).imp id (alls c),B.apx] xd xf R
   cases r with
   | error S=>exact #[rfl,rfl]
   | ok fl =>
    cases fl with
    | nx =>
     intro U' H' g' O
     obtain ⟨Ts,g2,w2,a2⟩:=O.const .non
     obtain ⟨x,rfl,x1,ρ,x3⟩:=a2.val_inv
     have:=fin w2 x1 ρ l
     rw[x3] at this
     exact this
    | br=>exact nsE l
    | ct=>exact nsE l
    | rt d f =>
     intro x U' H' g' O x1 ρ
     exact fin O x1 ρ l
 .exact nsE l
theorem oI {n:Nat} {ps:List It3} (h:fnM mask n m (ps.map λp=>(p.d,p.f))=some r):ps.length=mask.length:=by
 unfold fnM at h
 rw[Ft] at h
 rcases Decidable.em (ps.length=mask.length) with q | q
 .exact q
 .rw[if_neg q] at h;exact nsE h
section
variable {P:Program} {w:World} {K:FG} {mg:Str->Option Value} {base:Heap} {x:Str} {st:Stmt} {k:Nat} {N ps:List Str} {mask:List Bool} {m:SM} {nn:Nat}
theorem nZ (S:FnScope N ps (ah st)) (b:mask.length=ps.length) (a:N.length=nn):mask.length<=nn:=by
 rw[b,<- a]
 have:=congrArg List.length S.pre
 rw[FP] at this
 lia
theorem Bf (D:Def K mg x st) (S:FnScope N ps (ah st)) (g:mask.length=ps.length) (c:N.length=nn) (r:∀ (kV doc pm:Value) (an:Option Addr) (b ct:Value) (us:List Value),us.length=ps.length->bindArgs (PySem.W.fnOf x x (aK st) (aG st) (ah st) .none kV doc pm an b ct) #[us,[]]=pure (ps.zip us))
  (body:∀ (b:Value) (A:Around) (outer:List Env) (s:Shared) (H:Hp) (E:XK) (f:Addr) (G:Gm) (W:L3.D->Sto->Prop),Room k (A.deeper (PyProof.Rows.envOfC x (ah st) s.heap.objs.size f b))->G.pr=prM mask->Pas (dD (CXe P w) P w K mg base N x (ah st) f b A outer s H E) G W->Mak (dD (CXe P w) P w K mg base N x (ah st) f b A outer s H E) G W->RSs (dD (CXe P w) P w K mg base N x (ah st) f b A outer s H E) G W (aG st) m) :
  BC P w K mg base x (k+1) ps (fnM mask nn m):=by
 refine D.calleeX r λf fd F=>F.okX S (λvs H Q E h=>?_) λb A outer s H vs Q E z h=>?_
 .obtain ⟨j,o,fs,rfl,_,_,l,_⟩:=h
  rw[Ft,oI l,g]
 .obtain ⟨j,o,fs,rfl,ha,p,l,q⟩:=h
  obtain ⟨G,W,u,_,i,y⟩:=qu (E:=E) (nZ S g c) ha p q l
  subst c
  refine #[_,(body b A outer s H E f G W z u #[λpins U H1 s1 e s' I hf=>Cj I hf λcls da H'=>i U cls da H'] #[λpins U H1 s1 s' a C vs I he hm h1 h2=>zo I hm h1 h2 (i U _ none _ he),λpins U H1 s1 a t d C I he n B v=>vN I n rfl rfl rfl rfl B v (i U _ _ _ he)]).h,y.all]
theorem Bg (D:Def K mg x st) (S:FnScope N ps (ah st)) (c:mask.length=ps.length) (b:N.length=nn) (o:∀ (kV doc pm:Value) (an:Option Addr) (a ct:Value) (us:List Value),us.length=ps.length->bindArgs (PySem.W.fnOf x x (aK st) (aG st) (ah st) .none kV doc pm an a ct) #[us,[]]=pure (ps.zip us))
  (body:∀ (a:Value) (A:Around) (outer:List Env) (s:Shared) (H:Hp) (E:XK) (f:Addr) (G:Gm),Room k (A.deeper (PyProof.Rows.envOfC x (ah st) s.heap.objs.size f a))->G.pr=prM mask->RSs1 (dD CX0 P w K mg base N x (ah st) f a A outer s H E).nox G noX (aG st) m) :
  bf P w K mg base x (k+1) ps (fnM mask nn m):=by
 refine D.callee o λf fd F=>F.ok S (λvs H Q E h=>?_) λa A outer s H vs Q E v h=>?_
 .obtain ⟨d,p,fs,rfl,_,_,i,_⟩:=h
  rw[Ft,oI i,c]
 .obtain ⟨d,p,fs,rfl,ha,n,i,q⟩:=h
  obtain ⟨G,W,t,u,y,Z,g,r,Z',l,e,j⟩:=qu (E:=E0) (nZ S c b) ha n q i
  subst b
  refine #[_,(body a A outer s H E f G v t).h,Z,g,r,Z',l,e,?_]
  cases r with
  | error er=>obtain ⟨_,z⟩:=u _ _ j;cases z
  | ok fl=>cases fl <;> exact j
theorem tQ (D:Def K mg x st) (S:FnScope N ps (ah st)) (c:mask.length=ps.length) (b:N.length=nn) (d:∀ (kV doc pm:Value) (an:Option Addr) (a ct:Value) (us:List Value),us.length=ps.length->bindArgs (PySem.W.fnOf x x (aK st) (aG st) (ah st) .none kV doc pm an a ct) #[us,[]]=pure (ps.zip us))
  (body:∀ (a:Value) (A:Around) (outer:List Env) (s:Shared) (H:Hp) (f:Addr) (G:Gm),RoomN k (A.deeper (PyProof.Rows.envOfC x (ah st) s.heap.objs.size f a))->Hd ((dD CX0 P w K mg base N x (ah st) f a A outer s H E0).loud.wish λ_ _=>False)->G.pr=prM mask->RSs ((dD CX0 P w K mg base N x (ah st) f a A outer s H E0).loud.wish λ_ _=>False) G noX (aG st) m) :
  vL P w K mg base x (k+1) ps (fnM mask nn m):=by
 refine D.calleeN d λf fd F=>F.okN S (λvs H Q E h=>?_) λa A outer s H vs Q l n h=>?_
 .obtain ⟨i,p,fs,rfl,_,_,j,_⟩:=h
  rw[Ft,oI j,c]
 .obtain ⟨G,e,g⟩:=oH (nZ S c b) h
  subst b
  exact #[_,(body a A outer s H f G l n e).h,g]
end
abbrev Cx.tried (X:Cx) (E:Value->Shared->Prop) (pn:List (Addr×Obj)):Cx:={ X with xe:=E,pn:=pn }
section
variable {X:Cx} {pins pins' pn:List (Addr×Obj)} {U:St} {H H':Hp} {s:Shared} {E:Value->Shared->Prop}
theorem u5 (I:Inv X pins U H s) (E:Value->Shared->Prop):Inv (Cx.tried X E (X.pn++pins)) [] U H s :=
 #[#[I.ok.mod,I.ok.kind,I.ok.glob,I.ok.blt,I.ok.above,I.ok.inj,I.ok.has,I.ok.cab,I.ok.hd,I.ok.frames,I.ok.stk,I.ok.exf,I.ok.bs,I.ok.bsz,I.ok.noex,I.ok.exfs,I.ok.funs,I.ok.frf],I.os,I.bare,I.base,I.loc,I.cell,I.free,I.freeC,(λp a=>I.pin p (by rw[List.append_nil] at a;exact a)),I.hok,I.len]
theorem gk (I:Inv (Cx.tried X E (X.pn++pins)) pins' U H s):Inv X pins U H s :=
 #[#[I.ok.mod,I.ok.kind,I.ok.glob,I.ok.blt,I.ok.above,I.ok.inj,I.ok.has,I.ok.cab,I.ok.hd,I.ok.frames,I.ok.stk,I.ok.exf,I.ok.bs,I.ok.bsz,I.ok.noex,I.ok.exfs,I.ok.funs,I.ok.frf],I.os,I.bare,I.base,I.loc,I.cell,I.free,I.freeC,(λp a=>I.pin p (Fi _ a)),I.hok,I.len]
end
theorem EH {X:Cx} {a:Addr} {ob:Obj} {cls:Value} (h:Hd (X.caught a ob cls)):PySem.W.notCls ob=true:=by
 obtain ⟨c,b,u,h1,h2,vs,h3,_⟩:=h
 cases (show some (Value.ref a)=some (Value.ref c) from h1)
 cases (show upd X.H₀ a (dW ob a cls) a=some (.frz b u) from h2).symm.trans aI
 unfold PySem.W.notCls
 rw[h3]
def nF (cs:List String) (i:Nat) (mb mh:SM):SM:=λZ=>match mb Z with
 | some (.error (.exc c fs),Z1)=>if c∈cs then (match mh (Z1.set i #v[.exc c fs]) with
  | some (.ok (.rt d f),Z2)=>some (.ok (.rt d f),Z2)
  | _=>none) else none
 | some (.ok (.rt d f),Z1)=>some (.ok (.rt d f),Z1)
 | some (.ok .nx,Z1)=>some (.ok .nx,Z1)
 | _=>none
section
variable {X:Cx} {G0:Gm} {W0:D->Sto->Prop} {cs:List String} {i:Nat} {mb mh:SM} {cx n:Str} {CB:Addr} {cp hpos pos:Pos} {b0:Stmt} {body suite:List Stmt}
set_option tactic.hygienic true in
theorem C9 (L:X.stack=X.env::X.outer) (G:X.env.frame=some X.env.locals) (hex:X.ex=[]) (ρ:X.N.Nodup) (hg:Gl X cx) (hd:(cx == ("__debug__":Str))=false) (hm:X.mg cx=some (.ref CB))
  (Q:∀ c∈cs,∀ C,XName X.K c C->PySem.W.exmOne X.K (.ref C) (.ref CB)=some true) (hi:X.N[i]?=some n) (hl:X.env.scope.names.lookup n=some .local\/(X.env.scope.names.lookup n=some .cell/\X.fn n=true)) (hp:G0.pr i=false)
  (hb:∀ (E:Value->Shared->Prop) (pn:List (Addr×Obj)) (W:D->Sto->Prop),Pas (Cx.tried X E pn) G0 W->RSs (Cx.tried X E pn) G0 W body mb) (hh:∀ a ob cls,Hd (X.caught a ob cls)->RSs (X.caught a ob cls) G0 noX (b0::suite) mh) :
  RS1 X G0 W0 (.Try body [.ExceptHandler (some (.Name cx cp)) (some n) (b0::suite) hpos] [] [] pos) (nF cs i mb mh):=by
 refine #[λpins s U H D I h=>?_]
 obtain ⟨Z,g,r,Z',w,e,q⟩:=h
 refine wpAny_Try_except ?_
 have R:i < X.N.length:=(Fu.mp hi).1
 have B:Pas (Cx.tried X (λe τ=>wpAny (model X.prog X.w) X.A (noteFrame e X.env) (λ_ s₂=>wpAny (model X.prog X.w) X.A (setFlight e none) (λ_ s₃=>wpAny (model X.prog X.w) X.A (handleBy e X.env [.ExceptHandler (some (.Name cx cp)) (some n) (b0::suite) hpos]) (SP X pins D) X.xe s₃) X.xe s₂) X.xe τ) (X.pn++pins)) G0 (λt Z1=>mb Z=some (.error t,Z1)):=by
  refine #[λpins' U' H1 s1 e' s' σ hf=>?_]
  obtain ⟨a,cls,da,H2,rfl,F,t,Z1,T',g',T,⟨c,C,fs,rfl,rfl,nm,S⟩,O⟩:=hf
  have J:=gk σ
  unfold nF at e
  rw[O] at e
  dsimp only at e
  rcases Decidable.em (c∈cs) with y | y
  .rw[if_pos y] at e
   cases M:mh (Z1.set i #v[.exc c fs]) with
   | none=>rw[M] at e;exact nsE e
   | some z =>
    obtain ⟨o,Z2⟩:=z
    rw[M] at e
    cases o with
    | error _=>exact nsE e
    | ok fl =>
     cases fl with
     | nx=>exact nsE e
     | br=>exact nsE e
     | ct=>exact nsE e
     | rt d f =>
      cases e
      have hρ:i < Z1.length:=by rw[<- T.len,σ.len];exact R
      have nw:∀ ob,ob.dict=da->Hd (X.caught a ob (.ref C))->New X.K H2 (upd H2 a (dW ob a (.ref C))) (λ_=>False) #[.exc c fs,.ref a,[],.z]:=λob b k=>#[bH F.free,.excP nm aI (b ▸ S.same (bH F.free)) (EH k),λ_ h=>(by cases h),λh=>absurd rfl h]
      have w2:=λob (b:ob.dict=da) (k:Hd (X.caught a ob (.ref C)))=>(T.push (nw ob b k) λ_ h=>h.elim).store (f:=.z) hρ hp (.inr rfl) (by intro h;cases h)
      refine rP (X:=X) (I:=J) F L G hex ρ hg hd hm (Q c y C nm) hi hl λs5 ob b k J5=>?_
      refine wpAny_mono ((hh a ob _ k).h pins s5 _ _ { nx:=λ_ _=>False,rt:=D.rt } J5 (tS.mk (Le.refl _ _ _) (w2 ob b k) M λx U3 V g3 w3 xd xf=>q x U3 V g3 (w3.sub (List.Sublist.cons_cons x (List.nil_sublist _))) xd xf)) (λf s6 h6=>?_) λ_ _ z=>z.elim
      cases f with
      | ret u=>obtain ⟨v,U6,l,p,P,m⟩:=h6;exact #[v,u,U6,l,rfl,p,P,m]
      | next=>obtain ⟨_,_,_,z⟩:=h6;exact z.elim
      | brk=>obtain ⟨_,_,_,z⟩:=h6;exact z.elim
      | cont=>obtain ⟨_,_,_,z⟩:=h6;exact z.elim
  .rw[if_neg y] at e;exact nsE e
 have j:∀ (o:Except L3.D Flw) (Z1:Sto),mb Z=some (o,Z1)->EndS X.K G0 (λt Z1=>mb Z=some (.error t,Z1)) [] Z1 { nx:=D.nx,rt:=D.rt } o:=λo Z1 em=>by
  unfold nF at e
  rw[em] at e
  cases o with
  | error t=>exact em
  | ok fl =>
   cases fl with
   | nx=>cases e;exact q
   | br=>exact nsE e
   | ct=>exact nsE e
   | rt d f=>cases e;exact q
 cases em:mb Z with
 | none=>unfold nF at e;rw[em] at e;exact nsE e
 | some z =>
  obtain ⟨o,Z1⟩:=z
  refine wpAny_mono ((hb _ _ _ B).h [] s U H { nx:=D.nx,rt:=D.rt } (u5 I _) (tS.mk (Le.refl _ _ _) w em (j o Z1 em))) (λf s1 h1=>?_) λ_ _ z=>z
  cases f with
  | ret u=>obtain ⟨v,U6,l,p,P,m⟩:=h1;exact #[v,U6,l,gk p,P,m]
  | next=>obtain ⟨U6,l,p,m⟩:=h1;refine wpAny_of_eq (show execs [] X.env=pure .next from by simp only[execs]) ?_;exact #[U6,l,gk p,m]
  | brk=>obtain ⟨_,_,_,z⟩:=h1;exact z.elim
  | cont=>obtain ⟨_,_,_,z⟩:=h1;exact z.elim
end
theorem vA (f:∀ u,RelV t u->u=cv):b7 X (.builtin "isinstance") (λxs H Q=>∃ a c C b ob,xs=[.ref a,t]/\H a=some (dW ob a (.ref C))/\XName X.K c C/\PySem.W.kitOne X.K (.ref C) cv=some b/\Q (.bl b) H):=by
 intro pins s U H xs us Q I r h
 obtain ⟨a,c,C,b,ob,rfl,ha,nm,g,q⟩:=h
 obtain ⟨u,v,rfl,i,e⟩:=j0 r
 cases (show u=Value.ref a from i)
 cases f v e
 have d:=(I.hok a _ ha).2.1
 exact PySem.W.kia_one (ye (x:=a) nm.ex) I.kIn #[d] g (by intro z;cases z) λtk=>#[.bl b,H,I.tok _,rfl,q]
def jt (cs:List (String×Bool)):D->Option (D×Fl)
 | .exc c _=>(cs.lookup c).map λb=>(.bl b,.z)
 | _=>none
section
variable {X:Cx} {G0:Gm} {W0:D->Sto->Prop}
theorem sO (f:∀ u,RelV t u->u=cv) (hf:∀ c b,cs.lookup c=some b->∀ C,XName X.K c C->PySem.W.kitOne X.K (.ref C) cv=some b) (n:Gl X "isinstance") (hm:X.mg "isinstance"=none) (m:PE X (.Name tn pT) (tC t)) (ha:RE X G0 W0 a ma) (d:starEach [a,.Name tn pT] X.env=(false,eval a X.env)::starEach [.Name tn pT] X.env) (g:starEach [.Name tn pT] X.env=(false,eval (.Name tn pT) X.env)::starEach [] X.env) (i:(backTo pos (starEach [.Name tn pT] X.env)).any (·.1)=false):RE X G0 W0 (.Call (.Name "isinstance" p) [a,.Name tn pT] [] pos) (mUn (jt cs) ma) :=
 ⟨PE.imp (kZ (vA f) n hm jz (ie ha.h (ie m nV g) d) (by decide) (by decide) d i) λU H Q h=>by
  have h:=sG (r:=λx H Q=>∃ a c C b ob,x=.ref a/\H a=some (dW ob a (.ref C))/\XName X.K c C/\PySem.W.kitOne X.K (.ref C) cv=some b/\Q (.bl b) H) (λa H Q p ra e q=>by
   obtain ⟨da,s,v,o⟩:=a
   have ra:=ra.rep
   dsimp only at ra
   cases da with
   | exc c fs =>
    obtain ⟨rfl,k,C,ob,rfl,nm,l,_,_⟩:=ra.view
    obtain ⟨b,h1,h2⟩:=Fh.mp (show (cs.lookup c).map (λb=>((.bl b,.z):D×Fl))=some p from e)
    subst h2
    exact #[k,c,C,b,ob,rfl,l,nm,hf c b h1 C nm,q #[.bl b,.bl b,[],.z] H (bI (.bl _)) rfl rfl]
   | _=>exact nsE e) h
  refine sH h λx H1 #[a,c,C,b,ob,j,h1,h2,h3,q]=>?_
  exact ⟨a,c,C,b,ob,by rw[j],h1,h2,h3,q⟩⟩
end
def cntBQ:D->D->Option (D×Fl)
 | .lst xs,.bl k=>(fK xs).map λbs=>(.int (bs.count k:Nat),.z)
 | _,_=>none
abbrev Cf:=c2 cntBQ
theorem vq:b8 K (λxs H Q=>∃ x vs,xs=x::vs/\∃ (a:Addr) (bs:List Bool) (k:Bool),x=.ref a/\vs=[.bl k]/\SqL K H a (bs.map V.bl)/\Q (.int (bs.count k:Nat)) H) Cf:=λys H Q p ra e q=>by
 obtain ⟨y,z,rfl,b⟩:=lE e
 clear e
 have c:=(ra y Fe).rep
 have d:=(ra z (Ff _ Fe)).rep
 obtain ⟨da,r,j,n⟩:=y
 obtain ⟨db,l,m,i⟩:=z
 dsimp only at c d b
 cases da with
 | lst xs =>
  cases db with
  | bl k =>
   obtain ⟨f,vs,o,rfl,rfl,ha,rs⟩:=c.view
   obtain ⟨rfl,rfl⟩:=d.view
   obtain ⟨bs,h1,h2⟩:=Fh.mp (show (fK xs).map (λbs=>((.int (bs.count k:Nat),.z):D×Fl))=some p from b)
   subst h2
   have h:=jy h1
   subst h
   have g:=rs.bls
   subst g
   exact #[_,_,rfl,f,bs,k,rfl,rfl,SqL.of ha,q #[_,_,[],.z] H (bI (.int _)) rfl rfl]
  | _=>exact nsE b
 | _=>exact nsE b
theorem o5:bootBuiltins "ValueError"=some (.type "ValueError"):=by decide +kernel
def IsX (K:FG) (a:Value) (cs:List (String×Bool)):Prop:=∀ c b,cs.lookup c=some b->∀ C,XName K c C->PySem.W.kitOne K (.ref C) a=some b
def ExX (K:FG) (CB:Addr) (cs:List String):Prop:=∀ c∈cs,∀ C,XName K c C->PySem.W.exmOne K (.ref C) (.ref CB)=some true
theorem IsX.nil:IsX K cv []:=λ_ _ h=>nomatch h
theorem IsX.cons {K:FG} {a:Value} {r:String} {C:Addr} {b:Bool} {cs:List (String×Bool)} (n:XName K r C) (h:PySem.W.kitOne K (.ref C) a=some b) (t:IsX K a cs):IsX K a ((r,b)::cs):=λc g e i f=>by
 rw[List.lookup_cons] at e
 cases d:c == r with
 | true =>
  rw[d] at e
  cases e
  cases beq_iff_eq.mp d
  rw[f.inj n];exact h
 | false=>rw[d] at e;exact t c g e i f
theorem ExX.nil:ExX K CB []:=λ_ h=>nomatch h
theorem ExX.cons {K:FG} {CB:Addr} {r:String} {C:Addr} {cs:List String} (n:XName K r C) (h:PySem.W.exmOne K (.ref C) (.ref CB)=some true) (t:ExX K CB cs):ExX K CB (r::cs):=λc e b a=>by
 rcases Fm.mp e with e | e
 .cases e;rw[a.inj n];exact h
 .exact t c e b a
end L3
namespace L2
theorem RoomN.units {k:Nat} (r:RoomN k A):A.units+64 < PySem.cLine:=by have:=r.un;omega
theorem RoomN.hu {k:Nat} (r:RoomN k A):A.units+1 < PySem.cLine:=by have:=r.un;omega
end L2
end
section
namespace L3
open PySem L2
mutual
def imm:D->Bool
 | .non=>true
 | .bl _=>true
 | .int _=>true
 | .str _=>true
 | .tup xs=>A8 xs
 | _=>false
def A8:List D->Bool
 | []=>true
 | d::ds=>imm d && A8 ds
end
section
variable {X:Cx} {G G0:Gm} {W W0:D->Sto->Prop} {K:FG} {H H':Hp} {U:St} {Z Z':Sto} {d:D} {v:V} {L:List Addr}
set_option tactic.hygienic true in
theorem Rep.imm (r:Rep K H d v L):imm d=true->L=[]:=by
 refine Rep.rec (motive_1:=λd _ L _=>L3.imm d=true->L=[]) (motive_2:=λds _ L _=>A8 ds=true->L=[]) ?_ ?_ ?_ ?_ ?_ ?_ ?_ ?_ ?_ ?_ ?_ ?_ ?_ ?_ r
 .intro _;rfl
 .intro _ _;rfl
 .intro _ _;rfl
 .intro _ _;rfl
 .intro xs a vs L h _ f e;unfold L3.imm at e;exact f e
 .intros;rename_i e;unfold L3.imm at e;cases e
 .intros;rename_i e;unfold L3.imm at e;cases e
 .intros;rename_i e;unfold L3.imm at e;cases e
 .intros;rename_i e;unfold L3.imm at e;cases e
 .intros;rfl
 .intros;rfl
 .intros;rename_i e;unfold L3.imm at e;cases e
 .intro _;rfl
 .intro d v L ds vs L' _ _ c b e
  unfold A8 at e
  obtain ⟨h1,h2⟩:=Bool.and_eq_true_iff.mp e
  rw[c h1,b h2];rfl
theorem Rep.handed {u:Value} (r:Rep K H d v L) (h:RelV v u):PySem.W.handedIn u=true:=by
 cases r <;> first | (cases (show u=_ from h);rfl) | (obtain ⟨_,rfl⟩:=h;rfl)
def dh (c n:String) (ms:M3 (List R3)):SM:=ai ms λrs=>match rs with
 | [r]=>ai (der r) λd=>λZ=>if imm d=true then some (.error (.exc c [(n,d)]),Z) else none
 | _=>λ_=>none
theorem Ars.one {r:R3} {vs:List V} {Ts:List It3} (a:Ars U [r] vs Ts):∃ v Us,vs=[v]/\Ts=[]++Us/\Ar U r v Us:=by
 cases a with
 | cons x t=>cases t;exact #[_,_,rfl,rfl,x]
theorem uq {c n:String} {C:Addr} {E:Ends} {ms:M3 (List R3)} (nm:XName K c C) (h:tS K G0 W0 (dh c n ms) E U H):sF (Str.ofString n) (λU H1 d=>EX (XA K) K G0 W0 U (.ref C) (some d) H1) (tA K G0 W0 ms) E U H:=by
 refine h.use λG W le Z T g r Z' w e q=>?_
 refine tA.seq le w e q.err λrs Z1 e1 vs H1 Ts g1 b a1=>?_
 rcases rs with _ | ⟨r,_ | ⟨_,_⟩⟩
 .exact nsE e1
 .obtain ⟨v,Us,rfl,rfl,t⟩:=a1.one
  dsimp only at e1
  obtain ⟨d,d1,a⟩:=aP e1
  obtain ⟨f,s,f1,f2⟩:=t.item b (λx i=>Fi _ (by simpa using i)) d1
  subst f1 f2
  rcases Decidable.em (imm f.d=true) with hi | hi
  .rw[if_pos hi] at a
   cases a
   have ra:=(b.itm s).arg.rep
   rw[ra.imm hi] at ra
   refine #[_,rfl,λda od u l y hl=>?_]
   have sm:Same H1 (upd H1 da (dW od da od.cls)):=bH l
   have k:=b.push (x:=#[.non,.non,[],.z]) (H':=upd H1 da (dW od da od.cls)) (Ks:=λ_=>False) #[sm,.non,λ_ h=>(by cases h),λh=>absurd rfl h] λ_ h=>h.elim
   obtain ⟨Z5,p,j,m,o⟩:=le.ex _ U _ _ _ _ k q
   exact #[_,Z5,p,j,m,#[c,C,[(n,f.d)],rfl,rfl,nm,_,da,od,u,rfl,aI,hl,y,ra.same sm],o]
  .rw[if_neg hi] at a;exact nsE a
 .exact nsE e1
theorem uE {x:Str} {c n:String} {C:Addr} {np cpos pos:Pos} {e:Expr} {ms:M3 (List R3)} {k:Nat} (nm:XName X.K c C) (cl:ICls X.K X.mg x C (Str.ofString n)) (mk:Mak X G0 W0) (b:Room k X.A) (hex:X.ex=[]) (g:X.calm=true) (i:Gl X x) (hd:(x == ("__debug__":Str))=false) (ha:RA X G0 W0 [e] ms) (he:starEach [e] X.env=[(false,eval e X.env)]) :
  RS X G0 W0 (.Raise (some (.Call (.Name x np) [e] [] cpos)) none pos) (dh c n ms) :=
 #[PS.imp (uG cl g b i hd ha.h _ (λpins U H s a t d I q f h1 h2=>mk.madeV pins U H s a t d C I q f h1 h2) he hex) λ_ _ _ h=>uq nm h]
def iY (cs:List String) (n:String):D->Option (D×Fl)
 | .exc c [(m,x)]=>if c∈cs/\m=n then #v[x] else none
 | _=>none
def AtX (K:FG) (n:String) (cs:List String):Prop:=∀ c∈cs,∀ C,XName K c C->PySem.W.hasDictIn K C=true/\PySem.W.findIn K (.ref C) (Str.ofString n)=some none
def tXF (K:FG) (n:String) (ta:TE):TE:=tUn (λx H Q=>∃ a C c ob d od u v,x=.ref a/\H a=some (dW ob a (.ref C))/\XName K c C/\PySem.W.hasDictIn K C=true/\PySem.W.findIn K (.ref C) (Str.ofString n)=some none/\ob.dict=some d/\H d=some (dW od d od.cls)/\PySem.W.lookIn (Str.ofString n) od=some (some u)/\RelV v u/\PySem.W.notCls ob=true/\PySem.W.handedIn u=true/\Q v H) ta
theorem wT {cs:List String} {n:String} {a:Expr} {pos:Pos} {ma:EM} (hf:AtX X.K n cs) (ha:RE X G0 W0 a ma) (y:attributeBase a (Str.ofString n) X.env (eval a X.env)=eval a X.env):RE X G0 W0 (.Attribute a (Str.ofString n) pos) (mUn (iY cs n) ma):=by
 have A:PE X (.Attribute a (Str.ofString n) pos) (tXF X.K n (tE X.K G0 W0 ma)):=by
  intro pins s U H Q I h
  refine Bx y (thn (ha.h pins s U H _ I h) λD s1 h1=>?_)
  obtain ⟨x,H1,i,G,b,C,c,ob,d,od,u,v,rfl,e1,nm,L,w,E,r,J,M,t,F,q⟩:=h1
  obtain rfl:D=Value.ref b:=G
  have j:=(i.hok b _ e1).1
  have k:=(i.hok d _ r).1
  obtain ⟨N,g,l⟩:=(i.hok b _ e1).2.1
  rw[j] at g
  cases g
  have ins:PySem.W.InstAt s1.heap b ob C (some od):=#[j,l,t,by rw[E];exact k]
  exact y8 nm.ex i.kIn ins (PySem.W.findObj_own L w rfl J) F #[v,H1,i.tok _,M,q]
 exact ⟨PE.imp A λU H Q h=>sG (λa H Q p ra e q=>by
  obtain ⟨da,O,R,P⟩:=a
  have ra:=ra.rep
  dsimp only at ra
  cases da with
  | exc c fs =>
   obtain ⟨rfl,b,C,ob,rfl,nm,j,o,B⟩:=ra.view
   match fs,o with
   | [(m,x)],#[v,d,od,u,h1,h2,h3,h4,h5] =>
    have e:(if c∈cs/\m=n then #v[x] else none)=some p:=e
    rcases Decidable.em (c∈cs/\m=n) with f | f
    .rw[if_pos f] at e
     cases e
     obtain ⟨f,rfl⟩:=f
     obtain ⟨f1,f2⟩:=hf c f C nm
     exact #[b,C,c,ob,d,od,u,v,rfl,j,nm,f1,f2,h1,h2,h3,h4,B (by simp),h5.handed h4,q #[x,v,[],.z] H (bI h5) rfl rfl]
    .rw[if_neg f] at e;exact nsE e
  | _=>exact nsE e) h⟩
end
section
variable {K:FG} {h:Heap} {mg:Str->Option Value}
set_option tactic.hygienic true in
theorem qZ (e:iq K n=true):PySem.W.nsIn K mainGlobals n=some (some (.ref (aA K n))):=by
 unfold iq at e
 split at e
 .rename_i a ha;unfold aA;rw[ha]
 .cases e
theorem dQ {l:List Str} (X:K.In h) (G:h.Ns mainGlobals mg) (e:l.map (iq K)=l.map λ_=>true) (i:Nat) (hi:l[i]?=some n):mg n=some (.ref (aA K n)):=PySem.W.mg_of X G (qZ (k6 e i hi))
theorem jK {α:Type} {l r:List α} (e:l=r) (i:Nat) {a b:α} (h:l[i]?=some a) (k:r[i]?=some b):a=b:=by rw[e,k] at h;exact (F8 h).symm
end
section
variable {K:FG} {h:Heap} {mg:Str->Option Value}
set_option tactic.hygienic true in
theorem EF {r n:String} {q:Str} {st:Stmt} {l p2 k j:Pos} (X:K.In h) (G:h.Ns mainGlobals mg) (d:oN K=kE) (e:tG K r n=oC q st) (S:FnScope [("self":Str),n] [("self":Str),n] (ah st)) (E:(ah st).names.lookup ("self":Str)=some .local) (w:(ah st).names.lookup (n:Str)=some .local)
  (u:aG st=[.Assign [.Attribute (.Name "self" l) n p2] (.Name n k) j]) (hi:∀ (kV doc pm:Value) (an:Option Addr) (i ct x v:Value),bindArgs (PySem.W.fnOf "__init__" q (aK st) (aG st) (ah st) .none kV doc pm an i ct) #[[x,v],[]]=pure [(("self":Str),x),((n:Str),v)])
  (F:(n:Str)≠("self":Str)) (A:((n:Str) == ("__debug__":Str))=false):XName K r (aA K r)/\ICls K mg r (aA K r) n/\AtX K n [r]:=by
 unfold tG oC t7 at e
 unfold oN kE at d
 simp only[Prod.mk.injEq] at e d
 obtain ⟨⟨o,e1,D,s,z,p,B,_⟩,H,t,m,b,a⟩:=e
 have N:XName K r (aA K r):=#[qZ o,#[e1,D,s,z,d.1,d.2,p,B]]
 refine #[N,#[PySem.W.mg_of X G (qZ o),H,#[t,m,b],?_,F,A],λc g C y=>?_]
 .unfold B2 at a
  split at a
  .rename_i f hf
   split at a
   .rename_i I od fd sl hl
    obtain ⟨name,qual,params,body,scope,globals,closure,defaults,kw,doc,pm,an,cd,ct,bi⟩:=fd
    simp only[Option.some.injEq,Prod.mk.injEq] at a
    obtain ⟨rfl,rfl,rfl,rfl,rfl,rfl,rfl,rfl,rfl,rfl,g⟩:=a
    exact #[f,st,l,p2,k,j,od,an,sl,_,kw,doc,pm,cd,ct,hf,hl,g,S,E,w,u,hi kw doc pm an cd ct]
   .cases a
  .cases a
 .cases FT.mp g
  rw[y.inj N]
  refine #[?_,b]
  obtain ⟨cd,h1,h2⟩:=PySem.W.any_some m
  unfold PySem.W.hasDictIn
  rw[h1]
  exact (Bool.and_eq_true_iff.mp h2).2
end
section
variable {K:FG} {H H':Hp}
def wV:List V->Hp->VK->Prop:=λxs H Q=>∃ i:Int,xs=[.int i]/\i.natAbs.log2 < 1920/\Q (.str (bQ i)) H
end
section
variable {K:FG} {G0:Gm} {W0:D->Sto->Prop} {X:Cx}
def En (k:Key) (i:Int):EM:=bb (.val (.dk [(k,.int i)]) .u)
theorem Ds {i:Int} (l:PE X k (tC (kV key))) (j:PE X v (tC (.int i))):RE X G0 W0 (.Dict [some k] [v] pos) (En key i):=⟨PE.imp (DR l j) λU H Q h=>by
 refine h.use λG W le Z T g o Z' w e q=>?_
 cases e
 intro p a
 have sm:Same H (upd (upd H p (.dK [])) p (.dK [(key,.int i)])):=λb o d=>by
  have n:b≠p:=λz=>by rw[z,a] at d;cases d
  rw[av n,av n];exact d
 refine q _ _ (Wf.done (Us:=[]) (ys:=[]) (x:=#[.dk [(key,.int i)],.ref p,[p],.u]) w (λ_ h=>(by cases h)) #[sm,.dK (L:=[]) aI rfl (.cons (L:=[]) (.int i) .nil),λc f=>?_,λ_=>#[rfl,p,[],rfl,rfl,(by simp),a]])
 rw[FT.mp f];exact .inl a⟩
def Em (ns:List Int) (i:Int):EM:=bb (.val (.dt [(ns.map Sum.inl,.int i)]) .u)
theorem Dr {x1:Nat} {i:Int} (hu:X.A.units+1 < cLine) (h0:ns≠[]) (hz:ns.length<=100) (l:es.map vG=ns.map some) (k:PE X v (tC (.int i))):RE X G0 W0 (.Dict [some (.Tuple es x1 pos')] [v] pos) (Em ns i):=⟨PE.imp (DQ hu h0 hz l k) λU H Q h=>by
 refine h.use λG W le Z T g o Z' w e q=>?_
 cases e
 intro p j b d
 have nb:b≠p:=λz=>by rw[z,aI] at d;cases d
 have f:H b=none:=by rw[av nb] at d;exact d
 have sm:Same H (upd (upd (upd H p (.dT [] 0)) b (.tup (ns.map V.int))) p (.dT [(ns.map Sum.inl,.int i)] 0)):=λc o a=>by
  have n:c≠p:=λz=>by rw[z,j] at a;cases a
  have m:c≠b:=λz=>by rw[z,f] at a;cases a
  rw[av n,av m,av n];exact a
 refine q _ _ (Wf.done (Us:=[]) (ys:=[]) (x:=#[.dt [(ns.map Sum.inl,.int i)],.ref p,[p],.u]) w (λ_ h=>(by cases h)) #[sm,.dT (L:=[]) aI rfl (.cons (L:=[]) (.int i) .nil),λc a=>?_,λ_=>#[rfl,p,[],rfl,rfl,(by simp),j]])
 rw[FT.mp a];exact .inl j⟩
end
def kP:Key->PyData
 | .inl i=>.int i
 | .inr x=>.str x
def d1 {α:Type}:List (α×D)->Option (α×Int)
 | [(k,.int i)]=>some (k,i)
 | _=>none
theorem d1_eq {i:Int} (h:d1 l=some (k,i)):l=[(k,.int i)]:=by
 unfold d1 at h
 split at h
 .cases h;rfl
 .cases h
def sB (K:FG):Prop:=∃ ob,K.lookup sysModules=some ob/\∀ vs n,ob.data≠.seq vs n
set_option tactic.hygienic true in
theorem CN {K:FG} (e:nq K=true):sB K:=by
 unfold nq at e
 split at e
 .rename_i h;exact #[_,h,λ_ _ z=>by cases z]
 .cases e
mutual
def pyN:D->Option PyData
 | .non=>some .none
 | .bl b=>some (.bool b)
 | .int i=>some (.int i)
 | .str x=>some (.str x)
 | .tup xs=>(jJ xs).map .tuple
 | .lst xs=>(jJ xs).map .list
 | .dk kvs=>(d1 kvs).map λp=>.dict [(kP p.1,.int p.2)]
 | .dt kvs=>(wZ kvs).map λqs=>.dict ((kvs.map λp=>PyData.tuple (p.1.map kP)).zip qs)
 | _=>none
def wZ:List (List Key×D)->Option (List PyData)
 | []=>some []
 | (_,d)::ds=>match pyN d,wZ ds with
  | some p,some ps=>some (p::ps)
  | _,_=>none
def jJ:List D->Option (List PyData)
 | []=>some []
 | d::ds=>match pyN d,jJ ds with
  | some p,some ps=>some (p::ps)
  | _,_=>none
end
def RdN (H:Hp) (v:V) (p:PyData):Prop:=∀ (X:Cx) (pins:List (Addr×Obj)) (U:St) (s:Shared),sB X.K->Inv X pins U H s->∀ u,RelV v u->∃ as,Reads s.heap u p as/\sysModules ∉ as
def RdNs (H:Hp) (vs:List V) (ps:List PyData):Prop:=∀ (X:Cx) (pins:List (Addr×Obj)) (U:St) (s:Shared),sB X.K->Inv X pins U H s->∀ us,Vals vs us->∃ as,ReadsAll s.heap us ps as/\sysModules ∉ as
theorem jQ:∀ {a:List Key} {us:List Value},Vals (a.map kV) us->ReadsAll h us (a.map kP) []
 | [],_,.nil=>.nil
 | .inl i::a,_,.cons r rs=>by
  obtain ⟨t,rfl⟩:=r
  exact .cons (as:=[]) (bs:=[]) (.int i t) (jQ rs)
 | .inr x::a,_,.cons r rs=>by
  obtain ⟨t,rfl⟩:=r
  exact .cons (as:=[]) (bs:=[]) (.str x t) (jQ rs)
theorem AG {α:Type} {k:α} {i:Int} {ps:List (α×V)} (b:∀ v L,R (.int i) v L->v=.int i) (h1:[k]=ps.map (·.1)) (h2:Reps R [.int i] (ps.map (·.2)) L):ps=[(k,.int i)]:=by
 match ps,h1,h2 with
 | [(k',v)],h1,.cons a _ =>
  have:=b _ _ a
  subst this
  cases h1
  rfl
theorem sW:∀ kvs:List (List Key×D),wZ kvs=jJ (kvs.map (·.2))
 | []=>by unfold wZ;rfl
 | (k,d)::r=>by
  rw[FF]
  unfold wZ jJ
  rw[sW r]
theorem pM:∀ {ds:List D} {ps:List PyData},jJ ds=some ps->ds.length=ps.length
 | [],_,h=>by unfold jJ at h;cases h;rfl
 | d::ds,_,h=>by
  unfold jJ at h
  cases h1:pyN d with
  | none=>rw[h1] at h;exact nsE h
  | some p =>
   cases h2:jJ ds with
   | none=>rw[h1,h2] at h;exact nsE h
   | some qs=>rw[h1,h2] at h;cases h;simp[pM h2]
theorem qx {X:Cx} {pins:List (Addr×Obj)} {U:St} {H:Hp} {s:Shared} (I:Inv X pins U H s):∀ {ps:List (List Key×V)} {xs:List (List Key×Addr×Value)},Paired (λ(p:List Key×V) (q:List Key×Addr×Value)=>p.1=q.1/\H q.2.1=some (.tup (p.1.map kV))/\RelV p.2 q.2.2) ps xs ->
  ReadsAll s.heap (xs.map λx=>.ref x.2.1) (ps.map λp=>.tuple (p.1.map kP)) []/\Vals (ps.map (·.2)) (xs.map λx=>x.2.2)
 | [],_,.nil=>#[.nil,.nil]
 | p::ps,_,.cons (b:=x) c r=>by
  obtain ⟨a1,a2⟩:=qx I r
  obtain ⟨e1,e,d⟩:=c
  obtain ⟨its,a,⟨o',g,f,h,d'⟩,_⟩:=I.tuple (SqT.of e)
  exact #[.cons (as:=[]) (bs:=[]) (.tuple g f d' (by simpa using jQ a)) a1,.cons d a2]
section
variable {K:FG} {H:Hp} {d:D} {v:V} {L:List Addr}
set_option tactic.hygienic true in
theorem Rep.rdN (r:Rep K H d v L):∀ p,pyN d=some p->RdN H v p:=by
 refine Rep.rec (motive_1:=λd v _ _=>∀ p,pyN d=some p->RdN H v p) (motive_2:=λds vs _ _=>∀ ps,jJ ds=some ps->RdNs H vs ps) ?_ ?_ ?_ ?_ ?_ ?_ ?_ ?_ ?_ ?_ ?_ ?_ ?_ ?_ r
 .intro p e;unfold pyN at e;cases e;intro X pins U s f I u hu;cases (show u=Value.none from hu);exact #[[],.none,by simp]
 .intro b p e;unfold pyN at e;cases e;intro X pins U s f I u hu;cases (show u=Value.bool b from hu);exact #[[],.bool b,by simp]
 .intro i p e;unfold pyN at e;cases e;intro X pins U s f I u hu;obtain ⟨t,rfl⟩:=hu;exact #[[],.int i t,by simp]
 .intro x p e;unfold pyN at e;cases e;intro X pins U s f I u hu;obtain ⟨t,rfl⟩:=hu;exact #[[],.str x t,by simp]
 .intro xs a vs L h _ m p e
  unfold pyN at e
  obtain ⟨ps,e1,rfl⟩:=Fh.mp e
  intro X pins U s f I u hu
  cases (show u=Value.ref a from hu)
  obtain ⟨its,D,⟨o,e,c,n,d⟩,_⟩:=I.tuple (SqT.of h)
  obtain ⟨as,q,nm⟩:=m ps e1 X pins U s f I _ D
  exact #[_,.tuple e c d (by simpa using q),nm]
 .intro xs a vs L h _ m p e
  unfold pyN at e
  obtain ⟨ps,e1,rfl⟩:=Fh.mp e
  intro X pins U s f I u hu
  cases (show u=Value.ref a from hu)
  obtain ⟨its,D,⟨o,n,e,c,_,d⟩,_⟩:=I.list (SqL.of h)
  obtain ⟨as,q,nm⟩:=m ps e1 X pins U s f I _ D
  refine #[_,.list e c d (by simpa using q),λz=>?_]
  rcases Fm.mp z with z | z
  .obtain ⟨ob,V,O⟩:=f
   have:=I.kIn _ _ V
   rw[z,e] at this
   cases this
   exact O _ _ d
  .exact nm z
 .intro xs a vs L h _ m p e;unfold pyN at e;exact nsE e
 .intro kvs a ps L h y rs _ p e
  unfold pyN at e
  obtain ⟨⟨k,i⟩,e1,rfl⟩:=Fh.mp e
  have T:=d1_eq e1
  subst T
  clear e e1
  have:=AG (λv L (q:Rep K H (.int i) v L)=>q.int_inv) y rs
  subst this
  intro X pins U s f I u hu
  cases (show u=Value.ref a from hu)
  obtain ⟨_,hm,vs,B,o,es,τ,g,xd,hd,_,pr,_,_⟩:=(show ObjOk X.prog X.w H s.heap a (.dK [(k,.int i)]) from I.hok a _ h)
  cases B with
  | @cons _ p0 _ _ c0 z0 =>
   cases z0
   obtain ⟨k',ρ⟩:=p0
   obtain ⟨e1,Q⟩:=c0
   subst e1
   obtain ⟨t,rfl⟩:=Q
   generalize l:es.toList=el at pr
   cases pr with
   | cons E A F =>
    cases F
    rename_i G
    refine #[_,.dict (as:=[]) (bs:=[]) g xd.1 hd ?_ ?_,?_]
    .rw[l]
     show ReadsAll s.heap [G.key] [kP k] []
     rcases bg E with ⟨j,t',rfl,C⟩ | ⟨x,t',rfl,C⟩
     .rw[C];exact .cons (as:=[]) (bs:=[]) (.int _ _) .nil
     .rw[C];exact .cons (as:=[]) (bs:=[]) (.str _ _) .nil
    .rw[l]
     show ReadsAll s.heap [G.val] [.int i] []
     rw[A];exact .cons (as:=[]) (bs:=[]) (.int _ _) .nil
    .simp only[List.append_nil,FT]
     intro z
     rw[z] at hm
     simp at hm
 .intro kvs a ps n L h y rs m p e
  unfold pyN at e
  obtain ⟨qs,e1,rfl⟩:=Fh.mp e
  rw[sW] at e1
  intro X pins U s f I u hu
  cases (show u=Value.ref a from hu)
  obtain ⟨_,hm,xs,B,o,es,τ,g,xd,hd,l,_⟩:=(show ObjOk X.prog X.w H s.heap a (.dT ps n) from I.hok a _ h)
  obtain ⟨E,A⟩:=qx I B
  obtain ⟨as,F,nm⟩:=m qs e1 X pins U s f I _ A
  have S:ps.map (λp=>PyData.tuple (p.1.map kP))=kvs.map λp=>PyData.tuple (p.1.map kP):=by
   have h1:ps.map (λp=>PyData.tuple (p.1.map kP))=(ps.map (·.1)).map λk=>PyData.tuple (k.map kP):=by rw[F7];rfl
   rw[h1,<- y,F7];rfl
  have J:kvs.length=qs.length:=by have:=pM e1;simpa using this
  refine #[_,.dict (as:=[]) (bs:=as) g xd.1 hd ?_ ?_,?_]
  .rw[l,F7,List.map_fst_zip (by simp[J]),<- S]
   exact E
  .rw[l,F7,List.map_snd_zip (by simp[J])]
   exact F
  .intro z
   rcases Fm.mp z with z | z
   .rw[z] at hm
    simp at hm
   .exact nm (by simpa using z)
 .intros;rename_i e;unfold pyN at e;exact nsE e
 .intros;rename_i e;unfold pyN at e;exact nsE e
 .intros;rename_i e;unfold pyN at e;exact nsE e
 .intro ps e;unfold jJ at e;cases e;intro X pins U s f I us hu;cases hu;exact #[[],.nil,by simp]
 .intro d v L ds vs L' _ _ R N ps e
  unfold jJ at e
  cases h1:pyN d with
  | none=>rw[h1] at e;exact nsE e
  | some p =>
   cases h2:jJ ds with
   | none=>rw[h1,h2] at e;exact nsE e
   | some qs =>
    rw[h1,h2] at e
    cases e
    intro X pins U s f I us hu
    cases hu with
    | cons a b =>
     obtain ⟨as,P,W⟩:=R p h1 X pins U s f I _ a
     obtain ⟨bs,M,σ⟩:=N qs h2 X pins U s f I _ b
     exact #[_,.cons P M,by simp[W,σ]]
end
def kO (p:PyData):Bool:=p.showable && decide (p.depth<=16) && decide (p.shown.length<=16777216)
def pyA (d:D):Option PyData:=match pyD d with
 | some p=>if p.hasDict then none else some p
 | none=>pyN d
def q8 (K:FG):List V->Hp->VK->Prop:=λxs H Q=>(xs=[.non]/\Q (.str "None") H)\/(∃ b,xs=[.bl b]/\Q (.str (if b then "True" else "False")) H)\/(∃ i:Int,xs=[.int i]/\i.natAbs.log2 < 1920/\Q (.str (bQ i)) H) \/
 (∃ t:Str,xs=[.str t]/\(reprText t).length<=sizeLine/\Q (.str (reprText t)) H) \/
 ∃ (a:Addr) (p:PyData),xs=[.ref a]/\(∀ (X:Cx) (pins:List (Addr×Obj)) (U:St) (s:Shared),X.K=K->Inv X pins U H s->∀ u,RelV (.ref a) u->∃ as,Reads s.heap u p as/\(p.hasDict=true->sysModules ∉ as))/\kO p=true/\Q (.str p.shown) H
theorem oQ (g:X.A.guards=some []) (hu:X.A.units+64 < cLine):b7 X (.builtin "repr") (q8 X.K):=by
 intro pins s U H xs us Q I d h
 rcases h with ⟨rfl,q⟩ | ⟨b,rfl,q⟩ | ⟨i,rfl,hi,q⟩ | ⟨t,rfl,hl,q⟩ | ⟨a,p,rfl,k,f,q⟩
 .obtain ⟨u,rfl,c⟩:=cH d
  cases (show u=Value.none from c)
  exact PySem.P.repr_of_none #[.str "None",H,I.tok _,#[_,rfl],q]
 .obtain ⟨u,rfl,c⟩:=cH d
  cases (show u=Value.bool b from c)
  exact PySem.P.repr_of_bool #[.str (if b then "True" else "False"),H,I.tok _,#[_,rfl],q]
 .obtain ⟨u,rfl,c⟩:=cH d
  obtain ⟨t,rfl⟩:=c
  exact PySem.P.repr_of_int hi #[.str (bQ i),H,I.tok _,#[_,rfl],q]
 .obtain ⟨u,rfl,c⟩:=cH d
  obtain ⟨t',rfl⟩:=c
  exact PySem.P.repr_of_str #[.str _,H,I.tok _,#[_,rfl],q] hl
 .obtain ⟨u,rfl,c⟩:=cH d
  obtain ⟨as,m,nm⟩:=k X pins U s rfl I u c
  cases (show u=Value.ref a from c)
  unfold kO at f
  obtain ⟨h3,j⟩:=Bool.and_eq_true_iff.mp f
  obtain ⟨l,h6⟩:=Bool.and_eq_true_iff.mp h3
  have h6:=of_decide_eq_true h6
  exact repr_of_reads' m l nm g (by lia) (λ_ _ e=>e) (λh' o tk n=>#[.str p.shown,H,I.kept n,#[_,rfl],q]) (by rw[sizeLine_eq];exact of_decide_eq_true j)
def shA (d:D):Option (D×Fl):=(pyA d).bind λp=>if kO p=true then #v[.str p.shown] else none
def nJ:D->Option (D×Fl)
 | .non=>#v[.str "None"]
 | .bl b=>#v[.str (if b then "True" else "False")]
 | .int i=>if i.natAbs.log2 < 1920 then #v[.str (bQ i)] else none
 | .str t=>if (reprText t).length<=16777216 then #v[.str (reprText t)] else none
 | .exc _ _=>none
 | .desk _ _=>none
 | d=>shA d
abbrev fZ:=c1 nJ
theorem Du (c:sB K) (r:Rep K H d v L) (e:pyA d=some p):∀ (X:Cx) (pins:List (Addr×Obj)) (U:St) (s:Shared),X.K=K->Inv X pins U H s->∀ u,RelV v u->∃ as,Reads s.heap u p as/\(p.hasDict=true->sysModules ∉ as):=by
 intro X pins U s b I u hu
 unfold pyA at e
 cases h:pyD d with
 | none =>
  rw[h] at e
  obtain ⟨as,a,f⟩:=r.rdN p e X pins U s (b ▸ c) I u hu
  exact #[as,a,λ_=>f]
 | some q =>
  rw[h] at e
  subst b
  obtain ⟨as,a⟩:=DV.reads I (r.dv q h) hu
  have e:(if q.hasDict then none else some q)=some p:=e
  cases hd:q.hasDict with
  | true=>rw[hd] at e;exact nsE e
  | false =>
   rw[hd] at e
   cases (F8 e)
   exact #[as,a,λz=>by rw[hd] at z;cases z]
theorem yS (m:sB K):b8 K (q8 K) fZ:=λys H Q p ra e q=>by
 obtain ⟨y,rfl,f⟩:=eF e
 have h:=(ra y Fe).rep
 obtain ⟨da,l,n,o⟩:=y
 dsimp only at h f
 have big:∀ a,l=.ref a->shA da=some p->q8 K [l] H λv H'=>Q v H':=λa g f=>by
  obtain ⟨d,h1,h2⟩:=FR.mp f
  by_cases j:kO d=true
  .rw[if_pos j] at h2
   have k:=F8 h2
   refine .inr (.inr (.inr (.inr #[a,d,congrArg (λx=>[x]) g,?_,j,q #[.str d.shown,_,[],.z] H (bI (.str _)) (congrArg Prod.fst k) (congrArg Prod.snd k)])))
   rw[<- g]
   exact Du m h h1
  .rw[if_neg j] at h2;exact nsE h2
 cases da with
 | non =>
  obtain ⟨rfl,rfl⟩:=h.view
  cases f
  exact .inl #[rfl,q #[_,_,[],.z] H (bI (.str _)) rfl rfl]
 | bl b =>
  obtain ⟨rfl,rfl⟩:=h.view
  cases f
  exact .inr (.inl #[b,rfl,q #[_,_,[],.z] H (bI (.str _)) rfl rfl])
 | int i =>
  obtain ⟨rfl,rfl⟩:=h.view
  have f:(if i.natAbs.log2 < 1920 then some ((.str (bQ i),.z):D×Fl) else none)=some p:=f
  by_cases hl:i.natAbs.log2 < 1920
  .rw[if_pos hl] at f
   cases f
   exact .inr (.inr (.inl #[i,rfl,hl,q #[_,_,[],.z] H (bI (.str _)) rfl rfl]))
  .rw[if_neg hl] at f;exact nsE f
 | str t =>
  obtain ⟨rfl,rfl⟩:=h.view
  have f:(if (reprText t).length<=16777216 then some ((.str (reprText t),.z):D×Fl) else none)=some p:=f
  by_cases hl:(reprText t).length<=16777216
  .rw[if_pos hl] at f
   cases f
   exact .inr (.inr (.inr (.inl #[t,rfl,by rw[sizeLine_eq];exact hl,q #[_,_,[],.z] H (bI (.str _)) rfl rfl])))
  .rw[if_neg hl] at f;exact nsE f
 | tup xs=>obtain ⟨a,vs,g,_⟩:=h.view;exact big a g f
 | lst xs=>obtain ⟨a,vs,L',g,_⟩:=h.view;exact big a g f
 | fls xs=>obtain ⟨a,vs,g,_⟩:=h.view;exact big a g f
 | dk kvs=>obtain ⟨a,ps,L',g,_⟩:=h.view;exact big a g f
 | dt kvs=>obtain ⟨a,ps,L',g,_⟩:=h.view;exact big a g f
 | exc c fs=>exact nsE f
 | desk _ _=>exact nsE f
def strQ:D->Option (D×Fl)
 | .int i=>if i.natAbs.log2 < 1920 then #v[.str (bQ i)] else none
 | _=>none
abbrev lK:=c1 strQ
theorem vt {X:Cx}:b7 X (.type "str") wV:=by
 intro pins s U H xs us Q I b h
 obtain ⟨i,rfl,hi,q⟩:=h
 obtain ⟨u,rfl,a⟩:=cH b
 obtain ⟨t,rfl⟩:=a
 exact PySem.P.str_of_int hi #[.str (bQ i),H,I.tok _,#[_,rfl],q]
theorem Bk {K:FG}:b8 K wV lK:=λys H Q p ra e q=>by
 obtain ⟨y,rfl,a⟩:=eF e
 have b:=(ra y Fe).rep
 obtain ⟨da,f,c,d⟩:=y
 dsimp only at b a
 cases da with
 | int i =>
  obtain ⟨rfl,rfl⟩:=b.view
  have a:(if i.natAbs.log2 < 1920 then some ((.str (bQ i),.z):D×Fl) else none)=some p:=a
  by_cases hl:i.natAbs.log2 < 1920
  .rw[if_pos hl] at a
   cases a
   exact #[i,rfl,hl,q #[_,_,[],.z] H (bI (.str _)) rfl rfl]
  .rw[if_neg hl] at a;exact nsE a
 | _=>exact nsE a
end L3
end
section
namespace L2
open PySem PySem.Spec PyProof.Rows
section
variable {X:Cx}
theorem vz:b7 X (.builtin "len") (λxs H Q=>∃ z:Str,xs=[.str z]/\z.length<=sizeLine/\Q (.int z.length) H):=by
 intro pins s U H xs us Q I r h
 obtain ⟨z,rfl,hz,q⟩:=h
 obtain ⟨u,rfl,t,rfl⟩:=cH r
 exact len_str (by have h9:=Nat.lt_of_le_of_lt hz lf;omega) #[.int z.length,H,I.tok _,#[_,rfl],q]
theorem xr:OpR X (compareOp .In) (λx y H Q=>∃ a b:Str,x=.str a/\y=.str b/\Q (.bl (!(Builtin.Str.occurrences b a 0 b.length 1).isEmpty)) H):=by
 intro pins s U H x y v u Q I c d h
 obtain ⟨a,b,rfl,rfl,q⟩:=h
 obtain ⟨t,rfl⟩:=c
 obtain ⟨t',rfl⟩:=d
 exact in_str #[.bl _,H,I,rfl,q]
theorem uL:OpR X (compareOp .NotIn) (λx y H Q=>∃ a b:Str,x=.str a/\y=.str b/\Q (.bl (!!(Builtin.Str.occurrences b a 0 b.length 1).isEmpty)) H):=by
 intro pins s U H x y v u Q I c d h
 obtain ⟨a,b,rfl,rfl,q⟩:=h
 obtain ⟨t,rfl⟩:=c
 obtain ⟨t',rfl⟩:=d
 exact notIn_str #[.bl _,H,I,rfl,q]
end
end L2
namespace L3
open PySem L2
section
variable {K:FG} {G G0:Gm} {W W0:D->Sto->Prop} {H H':Hp} {U:St} {Z Z':Sto} {T T':List It3} {X:Cx}
def s2 (g:Str->Str->Option (D×Fl)):List D->Option (D×Fl)
 | [.str a,.str b]=>g a b
 | _=>none
theorem wz {g:Str->Str->Option (D×Fl)} {ys:List It3} {p:D×Fl} (ra:∀ y∈ys,Arg K H y) (e:s2 g (ys.map (·.d))=some p):∃ a b,ys.map (·.v)=[.str a,.str b]/\g a b=some p:=by
 match ys,ra,e with
 | [],_,e=>exact nsE e
 | [_],_,e=>exact absurd e (by simp[s2])
 | [a,b],ra,e =>
  have f:=(ra a (by simp)).rep
  have c:=(ra b (by simp)).rep
  obtain ⟨da,m,i,l⟩:=a
  obtain ⟨db,j,k,h⟩:=b
  dsimp only at f c
  cases da with
  | str x =>
   cases db with
   | str y =>
    obtain ⟨rfl,rfl⟩:=f.view
    obtain ⟨rfl,rfl⟩:=c.view
    exact #[x,y,rfl,e]
   | _=>exact nsE e
  | _=>exact absurd e (by simp[s2])
 | _::_::_::_,_,e=>exact absurd e (by simp[s2])
def isS:D->Bool
 | .str _=>true
 | _=>false
theorem rJ:∀ d v L H,isS d=true->Rep K H d v L->tyV K "str" v H:=λd v L H h r=>by
 cases d with
 | str z =>
  obtain ⟨rfl,rfl⟩:=r.view
  exact rfl
 | _=>cases h
abbrev d5:=s2 λa b=>#v[.bl (Txt.startswith a b)]
theorem vm:b8 K (λxs H Q=>∃ x vs,xs=x::vs/\∃ (a b:Str),x=.str a/\vs=[.str b]/\Q (.bl (Txt.startswith a b)) H) d5:=λys H Q p ra e q=>by
 obtain ⟨a,b,h1,h2⟩:=wz ra e
 cases h2
 exact #[_,_,h1,a,b,rfl,rfl,q #[_,_,[],.z] H (bI (.bl _)) rfl rfl]
theorem mx:∀ ts:List Str,Reps (Rep K H) (ts.map D.str) (ts.map V.str) []
 | []=>.nil
 | t::ts=>by
  have:=mx ts
  exact .cons (L:=[]) (.str t) this
abbrev cI:=s2 λa b=>if (b.length == 0)=false/\a.length+2<=16777216 then some (.lst ((Txt.split a b).map D.str),.u) else none
theorem yR:b8 K (λxs H Q=>∃ x vs,xs=x::vs/\∃ (z y:Str),x=.str z/\vs=[.str y]/\(y.length == 0)=false/\z.length+2<=sizeLine/\∀ l,H l=none->Q (.ref l) (upd H l (.lst ((Txt.split z y).map V.str)))) cI:=λys H Q p ra e q=>by
 obtain ⟨a,b,h1,h2⟩:=wz ra e
 by_cases c:(b.length == 0)=false/\a.length+2<=16777216
 .rw[if_pos c] at h2
  cases h2
  exact #[_,_,h1,a,b,rfl,rfl,c.1,c.2,λl hl=>q _ _ (uP hl (mx _) (λ_ h=>by cases h)) rfl rfl]
 .rw[if_neg c] at h2;exact nsE h2
def fS:List D->Option (List Str)
 | []=>some []
 | .str t::ds=>(fS ds).map (t::·)
 | _=>none
set_option tactic.hygienic true in
theorem mf:∀ {ds:List D} {ts:List Str},fS ds=some ts->ds=ts.map D.str
 | [],ts,e=>by cases e;rfl
 | d::ds,ts,e=>by
  cases d <;> try (exact nsE e)
  rename_i b
  obtain ⟨r,h1,h2⟩:=Fh.mp (show (fS ds).map (b::·)=some ts from e)
  subst h2
  rw[mf h1];rfl
theorem Reps.strs:∀ {ts:List Str} {vs:List V} {L:List Addr},Reps (Rep K H) (ts.map D.str) vs L->vs=ts.map V.str
 | [],_,_,.nil=>rfl
 | b::bs,_,_,.cons r rs=>by
  rw[Reps.strs rs]
  cases r;rfl
def eO:List D->Option (D×Fl)
 | [.str sep,.lst ds]=>match fS ds with
  | some ts=>if (ts.map (·.length)).sum+ts.length * sep.length<=16777216 then #v[.str (Str.join sep ts)] else none
  | none=>none
 | _=>none
theorem Bq:b8 K (λxs H Q=>∃ x vs,xs=x::vs/\∃ (sep:Str) (a:Addr) (ts:List Str),x=.str sep/\vs=[.ref a]/\SqL K H a (ts.map V.str)/\(ts.map (·.length)).sum+ts.length * sep.length<=16777216/\Q (.str (Str.join sep ts)) H) eO:=λys H Q p ra e q=>by
 match ys,ra,e,q with
 | [],_,e,_=>exact nsE e
 | [_],_,e,_=>exact absurd e (by simp[eO])
 | [a,b],ra,e,q =>
  have g:=(ra a (by simp)).rep
  have f:=(ra b (by simp)).rep
  obtain ⟨da,o,k,n⟩:=a
  obtain ⟨db,l,m,j⟩:=b
  dsimp only at g f
  cases da with
  | str x =>
   cases db with
   | lst xs =>
    obtain ⟨rfl,rfl⟩:=g.view
    obtain ⟨h,vs,L',rfl,rfl,ha,rs⟩:=f.view
    have c:(match fS xs with | some ts=>if (ts.map (·.length)).sum+ts.length * x.length<=16777216 then some ((.str (Str.join x ts),.z):D×Fl) else none | none=>none)=some p:=e
    cases h1:fS xs with
    | none=>rw[h1] at c;exact nsE c
    | some ts =>
     rw[h1] at c
     dsimp only at c
     have e1:=mf h1
     subst e1
     have i:=rs.strs
     subst i
     clear h1
     by_cases d:(ts.map (·.length)).sum+ts.length * x.length<=16777216
     .rw[if_pos d] at c
      cases c
      exact #[_,_,rfl,x,h,ts,rfl,rfl,SqL.of ha,d,q #[_,_,[],.z] H (bI (.str _)) rfl rfl]
     .rw[if_neg d] at c;exact nsE c
   | _=>exact nsE e
  | _=>exact absurd e (by simp[eO])
 | _::_::_::_,_,e,_=>exact absurd e (by simp[eO])
def slS:D->Option Int->Option Int->Option (D×Fl)
 | .str z,lo,hi=>if z.length<=16777216 then #v[.str (Txt.slice z lo hi)] else none
 | _,_,_=>none
theorem CW:SlD K (λx lo hi H Q=>∃ (z:Str),x=.str z/\z.length<=sizeLine/\Q (.str (Txt.slice z lo hi)) H) slS:=λa lo hi H Q p ra e q=>by
 have c:=ra.rep
 obtain ⟨da,g,d,f⟩:=a
 dsimp only at c e
 cases da with
 | str z =>
  obtain ⟨rfl,rfl⟩:=c.view
  have e:(if z.length<=16777216 then some ((.str (Txt.slice z lo hi),.z):D×Fl) else none)=some p:=e
  by_cases b:z.length<=16777216
  .rw[if_pos b] at e
   cases e
   exact #[z,rfl,b,q #[_,_,[],.z] H (bI (.str _)) rfl rfl]
  .rw[if_neg b] at e;exact nsE e
 | _=>exact nsE e
theorem uF {G0:Gm} {W0:D->Sto->Prop} {e:Expr} {lo hi:Option Expr} {p2 pos:Pos} {m:EM} {pl pu:M3 (Option Int)} (he:RE X G0 W0 e m) (hl:RP X G0 W0 lo pl) (hu:RP X G0 W0 hi pu):RE X G0 W0 (.Subscript e (.Slice lo hi none p2) pos) (mSl slS m pl pu):=#[PE.imp (pQ CQ he.h hl.h hu.h) λ_ _ _ h=>BF CW h]
theorem lg24 {n:Nat} (h:n.log2 < 24):n<=sizeLine:=by
 by_cases z:n=0
 .subst z;exact Nat.zero_le _
 .have:=(Nat.log2_lt z).mp h
  exact Nat.le_of_lt this
def lenZQ:D->Option (D×Fl)
 | .str z=>if z.length.log2 < 24 then #v[.int z.length] else none
 | _=>none
abbrev mI:=c1 lenZQ
theorem Bp:b8 K (λxs H Q=>∃ z:Str,xs=[.str z]/\z.length<=sizeLine/\Q (.int z.length) H) mI:=λys H Q p ra e q=>by
 obtain ⟨y,rfl,a⟩:=eF e
 have c:=(ra y Fe).rep
 obtain ⟨da,g,d,f⟩:=y
 dsimp only at c a
 cases da with
 | str z =>
  obtain ⟨rfl,rfl⟩:=c.view
  have a:(if z.length.log2 < 24 then some ((.int z.length,.z):D×Fl) else none)=some p:=a
  by_cases b:z.length.log2 < 24
  .rw[if_pos b] at a
   cases a
   exact #[z,rfl,lg24 b,q #[_,_,[],.z] H (bI (.int _)) rfl rfl]
  .rw[if_neg b] at a;exact nsE a
 | _=>exact nsE a
def intTQ:D->Option (D×Fl)
 | .str z=>if z.length<=640 then (PySem.intText? z).map λn=>(.int n,.z) else none
 | _=>none
abbrev ql:=c1 intTQ
theorem Br:b8 K (λxs H Q=>∃ (z:Str) (n:Int),xs=[.str z]/\PySem.intText? z=some n/\z.length<=640/\Q (.int n) H) ql:=λys H Q p ra e q=>by
 obtain ⟨y,rfl,a⟩:=eF e
 have c:=(ra y Fe).rep
 obtain ⟨da,g,d,f⟩:=y
 dsimp only at c a
 cases da with
 | str z =>
  obtain ⟨rfl,rfl⟩:=c.view
  have a:(if z.length<=640 then (PySem.intText? z).map λn=>((.int n,.z):D×Fl) else none)=some p:=a
  by_cases b:z.length<=640
  .rw[if_pos b] at a
   obtain ⟨n,h1,rfl⟩:=Fh.mp a
   exact #[z,n,rfl,h1,b,q #[_,_,[],.z] H (bI (.int _)) rfl rfl]
  .rw[if_neg b] at a;exact nsE a
 | _=>exact nsE a
def t2 (g:Str->Str->D):D->D->Option (D×Fl)
 | .str a,.str b=>#v[g a b]
 | _,_=>none
abbrev yi:=t2 λa b=>.bl (!(Builtin.Str.occurrences b a 0 b.length 1).isEmpty)
abbrev rn:=t2 λa b=>.bl (!!(Builtin.Str.occurrences b a 0 b.length 1).isEmpty)
theorem we {g:Str->Str->D} {a b:It3} {p:D×Fl} (ra:Arg K H a) (rb:Arg K H b) (e:t2 g a.d b.d=some p):∃ x y,a.v=.str x/\b.v=.str y/\p=(g x y,.z):=by
 have f:=ra.rep
 have c:=rb.rep
 obtain ⟨da,m,i,l⟩:=a
 obtain ⟨db,j,k,h⟩:=b
 dsimp only at f c e
 cases da with
 | str x =>
  cases db with
  | str y =>
   obtain ⟨rfl,rfl⟩:=f.view
   obtain ⟨rfl,rfl⟩:=c.view
   exact #[x,y,rfl,rfl,by cases e;rfl]
  | _=>exact nsE e
 | _=>exact absurd e (by cases db <;> simp[t2])
theorem xz:OpD K (λx y H Q=>∃ a b:Str,x=.str a/\y=.str b/\Q (.bl (!(Builtin.Str.occurrences b a 0 b.length 1).isEmpty)) H) yi:=λa b H Q p ra rb e q=>by
 obtain ⟨x,y,h1,h2,rfl⟩:=we ra rb e
 exact #[x,y,h1,h2,q #[_,_,[],.z] H (bI (.bl _)) rfl rfl]
theorem uN:OpD K (λx y H Q=>∃ a b:Str,x=.str a/\y=.str b/\Q (.bl (!!(Builtin.Str.occurrences b a 0 b.length 1).isEmpty)) H) rn:=λa b H Q p ra rb e q=>by
 obtain ⟨x,y,h1,h2,rfl⟩:=we ra rb e
 exact #[x,y,h1,h2,q #[_,_,[],.z] H (bI (.bl _)) rfl rfl]
def ixS:D->D->Option (D×Fl)
 | .str z,.int i=>if z.length<=16777216 then (atI z.cps.toList i).map λc=>(.str #[(List.toArray [c])],.z) else none
 | _,_=>none
theorem Ee:OpD K rIxS ixS:=λa b H Q p ra rb e q=>by
 have g:=ra.rep
 have f:=rb.rep
 obtain ⟨da,n,j,m⟩:=a
 obtain ⟨db,k,l,h⟩:=b
 dsimp only at g f e
 cases da with
 | str z =>
  cases db with
  | int i =>
   obtain ⟨rfl,rfl⟩:=g.view
   obtain ⟨rfl,rfl⟩:=f.view
   have e:(if z.length<=16777216 then (atI z.cps.toList i).map λc=>((.str #[(List.toArray [c])],.z):D×Fl) else none)=some p:=e
   by_cases d:z.length<=16777216
   .rw[if_pos d] at e
    obtain ⟨c,h1,rfl⟩:=Fh.mp e
    exact #[z,i,c,rfl,rfl,d,h1,q #[_,_,[],.z] H (bI (.str _)) rfl rfl]
   .rw[if_neg d] at e;exact nsE e
  | _=>exact nsE e
 | _=>exact absurd e (by cases db <;> simp[ixS])
def iG (z:Str):List D:=z.cps.toList.map λc=>D.str #[(List.toArray [c])]
def zK:D->Option (List D)
 | .str z=>some (iG z)
 | _=>none
def mN (m:EM):IM:=ai m λr=>ai (der r) λd=>bc ((zK d).map λds=>([r],ds))
theorem vR {H1:Hp} {ys:List It3} {z:Str}:Walk K (Its z) H1 ys (iG z):=by
 refine #[[],λx f=>(by cases f),λM H' _ _ _=>#[λi d hd=>?_,?_]]
 .unfold iG at hd
  rw[Fz,Array.getElem?_toList] at hd
  obtain ⟨c,a,b⟩:=Fh.mp hd
  obtain ⟨hi,_⟩:=Array.getElem?_eq_some_iff.mp a
  refine #[hi,λx h #[e1,j,e,g]=>?_]
  rw[a] at e
  cases e
  subst e1 g
  exact #[#[d,.str #[(List.toArray [c])],[],.z],bI (by rw[<- b];exact .str _),rfl,rfl,rfl]
 .show (iG z).length=z.cps.size
  unfold iG
  rw[Ft,Array.length_toList]
theorem CD {m:EM} {R:It->Hp->Prop} (h:tI K G0 W0 (mN m) U H R):iStr (tE K G0 W0 m) U H R:=by
 obtain ⟨G,W,le,Z,T,g,o,Z',w,e,q⟩:=h
 have a:∀ x,o=.error x->W x Z':=λx n=>by subst n;exact q
 refine tE.seq le w e a λra Z1 e1 v H1 #[Ts,g1,b,a1]=>?_
 obtain ⟨d,d1,j⟩:=aP e1
 obtain ⟨p,l,rfl,rfl⟩:=bN j
 obtain ⟨ds,c,r⟩:=Fh.mp l
 subst r
 obtain ⟨y,A,u,f⟩:=a1.item2 b d1
 have B:Itm (Ts++T) g1 y:=by
  rcases f with ⟨i,_,t⟩ | h
  .exact .inl #[i,t]
  .exact .inr (Fi _ h)
 have C:=(b.itm B).arg
 have s:∀ J,Walk K J H1 [y] ds->R J H1:=λJ hw=>q J H1 [v] Ts g1 [y] b (by simpa using Ars.cons a1 .nil) (λz hz=>by rw[FT.mp hz];exact f) hw
 clear e1 j l q
 subst A u
 obtain ⟨da,E,F,D⟩:=y
 obtain ⟨k,I⟩:=C
 dsimp only at k c
 cases da with
 | str z =>
  obtain ⟨rfl,rfl⟩:=k.view
  cases c
  exact #[z,rfl,s _ vR]
 | _=>exact nsE c
theorem Df {G0:Gm} {W0:D->Sto->Prop} {tg l:Expr} {m:EM} (h:RE X G0 W0 l m):RI X G0 W0 tg l (mN m):=#[PI.imp (DI h.h) λ_ _ _ h=>CD h]
end
end L3
end
section
namespace L3
open PySem L2
def VMul (i j:Int):Prop:=i.natAbs < 2 ^ 1800/\j.natAbs < 2 ^ 1800
theorem VMul.ok {i j:Int} (h:VMul i j):IntMulOk i j:=IntMulOk.of_le (intBits_le_iff.mpr h.1) (intBits_le_iff.mpr h.2) (by decide)
theorem AD {X:Cx}:OpR X (binaryOp .Mult) (rI VMul λi j=>.int (i * j)):=opI λ_ _ _ _ _ _ _ a q=>PyProof.Rows.mul_int q a.ok
def xG:D->D->Option (D×Fl):=dZ (λi j=>decide (i.natAbs < 2 ^ 1800/\j.natAbs < 2 ^ 1800)) λi j=>.int (i * j)
theorem AM {K:FG}:OpD K (rI VMul λi j=>.int (i * j)) xG:=ir (λi j h=>(of_decide_eq_true h:i.natAbs < 2 ^ 1800/\j.natAbs < 2 ^ 1800)) λi j _=>.int _
abbrev rq:=orD cK xG
theorem AE {X:Cx}:OpR X (binaryOp .Mult) (λx y H Q=>rI CMul (λi j=>.int (i * j)) x y H Q\/rI VMul (λi j=>.int (i * j)) x y H Q):=op_mul.or AD
theorem AN {K:FG}:OpD K (λx y H Q=>rI CMul (λi j=>.int (i * j)) x y H Q\/rI VMul (λi j=>.int (i * j)) x y H Q) rq:=od_mulI.or AM
end L3
end
section
namespace PyProof.Rows
open PySem
end PyProof.Rows
end
section
namespace L2
open PySem PySem.Spec PyProof.Rows
end L2
namespace L3
open PySem L2
section
variable {K:FG} {G G0:Gm} {W W0:D->Sto->Prop} {H H':Hp} {U:St} {Z Z':Sto} {T T':List It3} {g:Nat->Option It3} {X:Cx}
def BndH (K:FG) (tg:TG) (bnd:D->Sto->Option Sto):Prop:=∀ (G:Gm) (H:Hp) (U:St) (Z Z1:Sto) (T:List It3) (g:Nat->Option It3) (w:It3) (Q:St->Hp->Prop),w.f=.z->Wf K G H U Z (w::T) g->bnd w.d Z=some Z1->(∀ H2 g2,Wf K G H2 U Z1 T g2->Q U H2)->tg w.v U H Q
def eG (i j:Nat) (d:D) (Z:Sto):Option Sto:=match (Z[j]?).join,(Z[i]?).join with
 | #v[k],some (l,.u)=>(kR l [k,d]).map λp=>Z.set i (some (p.1,.u))
 | _,_=>none
theorem t8 {t:vJ} (A:MutD K (f9 t) kR) (i j:Nat):BndH K (yy (iC i) (iC j) t) (eG i j):=λG H U Z Z1 T g w Q hz wf e q=>by
 unfold eG at e
 cases c:(Z[j]?).join with
 | none=>rw[c] at e;exact nsE e
 | some pj =>
  obtain ⟨k,x⟩:=pj
  rw[c] at e
  cases x with
  | z =>
   cases a:(Z[i]?).join with
   | none=>rw[a] at e;exact nsE e
   | some pi =>
    obtain ⟨l,fl⟩:=pi
    rw[a] at e
    cases fl with
    | u =>
     obtain ⟨p,e1,rfl⟩:=Fh.mp e
     obtain ⟨y,B,n,h,f⟩:=wf.slot c
     obtain ⟨z,F,I,E,d⟩:=wf.slot a
     refine #[z.v,d,y.v,f,?_]
     have:=Wf.changed (us:=[w]) (as:=[y,w]) (Q:=λ_ H'=>Q U H') A wf a d (λu hu=>by
      rcases Fm.mp hu with rfl | hu
      .exact #[.inl #[j,B],h]
      .rw[FT.mp hu]
       exact #[.inr (Fi _ Fe),hz]) (by rw[FF,FF,List.map_nil,n];exact e1) λr H' #[C,m,s,D]=>q H' m (s.sub (Fw C T))
     obtain ⟨J,r,b,o⟩:=this
     cases b
     exact o
    | _=>exact nsE e
  | _=>exact nsE e
theorem zv {t:vJ} {m:EM} {E:Ends} {i j k:Nat} (D:MutD K (f9 t) kR) (h:tS K G0 W0 (lP (gz 2 (a9 (eG i j) (a9 (eG i k) fB))) m) E U H):ut (tE K G0 W0 m) (Bb K 2 (tO (yy (iC i) (iC j) t) (tO (yy (iC i) (iC k) t) EI))) E U H:=by
 refine h.use λG W le Z T g r Z' w e q=>?_
 refine tE.seq le w e q.err λra Z1 e1 v H1 #[Ts,g1,Q,a1]=>?_
 obtain ⟨p,Z2,g2,x,V,N,f1,_,_,L⟩:=a1.take Q e1
 have B:Wf K G H1 U Z2 (cq x::T) g2:=Wf.lowT (Ts:=[x]) N
 obtain ⟨Z3,b,R⟩:=Fh.mp V
 cases R
 rw[<- L]
 rw[<- f1] at b
 have hz:(cq x).f=.z:=rfl
 change (gz 2 (a9 (eG i j) (a9 (eG i k) fB))) (cq x).d Z2=some Z' at b
 change Bb K 2 _ (cq x).v U H1 _
 generalize cq x=y at *
 have I:=(B.okT y Fe).rep
 obtain ⟨P,vy,F,C⟩:=y
 dsimp only at I b hz ⊢
 cases P with
 | tup xs =>
  obtain ⟨a,vs,rfl,S,rs⟩:=I.view
  obtain ⟨ws,h1,h3,n⟩:=Reps.split rs
  have b:(if xs.length=2 then (a9 (eG i j) (a9 (eG i k) fB)) xs Z2 else none)=some Z':=b
  by_cases hl:xs.length=2
  .rw[if_pos hl] at b
   refine #[a,vs,rfl,SqT.of S,by rw[<- h3,Ft,<- hl,<- h1,Ft],?_]
   have X:Wf K G H1 U Z2 (ws++(#[.tup xs,.ref a,F,C]::T)) g2:=B.pushAll λu hu=>#[(n u hu).1,(n u hu).2.1,λc O=>B.kids (ys:=[#[.tup xs,.ref a,F,C]]) (λy σ=>.inr (by rw[FT.mp σ];exact Fe)) #[_,Fe,(n u hu).2.2 c O,λh=>absurd hz h]]
   have A:Wf K G H1 U Z2 (ws++T) g2:=X.sub ((List.Sublist.refl ws).append (List.sublist_cons_self _ _))
   rw[<- h3]
   rw[<- h1] at b
   match ws,n,A,b with
   | [],_,_,b=>exact nsE b
   | [w],_,_,b =>
    have b:(match eG i j w.d Z2 with | some Z1=>a9 (eG i k) fB [] Z1 | none=>none)=some Z':=b
    cases o:eG i j w.d Z2 with
    | none=>rw[o] at b;exact nsE b
    | some r1=>rw[o] at b;exact nsE b
   | [w,l],n,A,b =>
    have b:(match eG i j w.d Z2 with | some Z1=>(match eG i k l.d Z1 with | some Z3=>some Z3 | none=>none) | none=>none)=some Z':=b
    cases o:eG i j w.d Z2 with
    | none=>rw[o] at b;exact nsE b
    | some r1 =>
     rw[o] at b
     dsimp only at b
     cases s:eG i k l.d r1 with
     | none=>rw[s] at b;exact nsE b
     | some r2 =>
      rw[s] at b
      cases b
      exact #[w.v,[l.v],rfl,t8 D i j G H1 U Z2 r1 (l::T) g2 w _ (n w Fe).1 A o λH2 g3 M=>#[l.v,[],rfl,t8 D i k G H2 U r1 Z' T g3 l _ (n l (Ff _ Fe)).1 M s λτ ρ J=>#[rfl,q _ _ _ J]]]
   | w::l::w''::ws,_,_,b =>
    exact absurd hl (by rw[<- h1];simp)
  .rw[if_neg hl] at b;exact nsE b
 | _=>exact nsE b
theorem zY (i j k:Nat) {x y z:Str} {c p2 f a b l g pos:Pos} {n:Nat} {e:Expr} {m:EM} {t:vJ} (s:X.calm=true) (q:MutD X.K (f9 t) kR) (o:vK X t) (p:PE X (.Name x c) (iC i)) (r:PE X (.Name y p2) (iC j)) (d:PE X (.Name x a) (iC i)) (hz:PE X (.Name z b) (iC k)) (he:RE X G0 W0 e m)
  (h1:swapsWithSole [.Tuple [.Subscript (.Name x c) (.Name y p2) f,.Subscript (.Name x a) (.Name z b) l] n g] e pos.line X.env=pure false) (h2:swappedStores [.Tuple [.Subscript (.Name x c) (.Name y p2) f,.Subscript (.Name x a) (.Name z b) l] n g] e X.env=pure none) :
  RS X G0 W0 (.Assign [.Tuple [.Subscript (.Name x c) (.Name y p2) f,.Subscript (.Name x a) (.Name z b) l] n g] e pos) (lP (gz 2 (a9 (eG i j) (a9 (eG i k) fB))) m) :=
 #[PS.imp (rf he.h (nP s (dR (rl p r o) (dR (rl d hz o) kA))) h1 h2) λ_ _ _ h=>zv q h]
end
end L3
end
section
namespace Bn
open PySem L2 L3
abbrev Pd (p:Int×Int):L3.D:=.tup [.int p.1,.int p.2]
theorem cT {bnd:L3.D->Sto->Option Sto} {b:SM} (P:Nat->Sto->Prop):∀ {ds:List L3.D} {Z:Sto} {k:Nat},P k Z->(∀ i d Z,ds[i]?=some d->P (k+i) Z->∃ Z1 Z2,bnd d Z=some Z1/\(b Z1=some (.ok .nx,Z2)\/b Z1=some (.ok .ct,Z2))/\P (k+i+1) Z2)->∃ Z',bZ bnd b ds Z=some (.ok .nx,Z')/\P (k+ds.length) Z'
 | [],Z,k,h0,_=>#[Z,rfl,h0]
 | d::ds,Z,k,h0,hs=>by
  obtain ⟨Z1,Z2,e1,j,h1⟩:=hs 0 d Z rfl h0
  obtain ⟨Z',a,h3⟩:=cT P (ds:=ds) (Z:=Z2) (k:=k+1) h1 λi d Z hd c=>by
   have:=hs (i+1) d Z (by simpa using hd) (by rwa [show k+(i+1)=k+1+i by lia])
   rwa [show k+(i+1)+1=k+1+i+1 by lia] at this
  refine #[Z',?_,by rw[FO,show k+(ds.length+1)=k+1+ds.length by lia];exact h3]
  unfold bZ
  simp only[e1]
  rcases j with j | j <;> simp only[ai,j,a]
theorem kC {bnd:L3.D->Sto->Option Sto} {b:SM} (P:Nat->Sto->Prop) (E:Nat->L3.D->Fl->Sto->Prop):∀ {ds:List L3.D} {Z:Sto} {k:Nat},P k Z ->
  (∀ i d Z,ds[i]?=some d->P (k+i) Z->∃ Z1 Z2,bnd d Z=some Z1/\(((b Z1=some (.ok .nx,Z2)\/b Z1=some (.ok .ct,Z2))/\P (k+i+1) Z2)\/∃ r f,b Z1=some (.ok (.rt r f),Z2)/\E (k+i) r f Z2)) ->
  ∃ Z',(bZ bnd b ds Z=some (.ok .nx,Z')/\P (k+ds.length) Z')\/∃ i r f,i < ds.length/\bZ bnd b ds Z=some (.ok (.rt r f),Z')/\E (k+i) r f Z'
 | [],Z,k,h0,_=>#[Z,.inl #[rfl,h0]]
 | d::ds,Z,k,h0,hs=>by
  obtain ⟨Z1,Z2,e1,h1⟩:=hs 0 d Z rfl h0
  rcases h1 with ⟨a,h1⟩ | ⟨r,f,a,h1⟩
  .obtain ⟨Z',h3⟩:=kC P E (ds:=ds) (Z:=Z2) (k:=k+1) h1 λi d Z hd g=>by
    have:=hs (i+1) d Z (by simpa using hd) (by rwa [show k+(i+1)=k+1+i by lia])
    rwa [show k+(i+1)=k+1+i by lia] at this
   have e:bZ bnd b (d::ds) Z=bZ bnd b ds Z2:=by
    conv=>lhs;unfold bZ
    simp only[e1]
    rcases a with a | a <;> simp only[ai,a]
   rcases h3 with ⟨c,h3⟩ | ⟨i,r,f,hi,c,h3⟩
   .exact #[Z',.inl #[e.trans c,by rw[FO,show k+(ds.length+1)=k+1+ds.length by lia];exact h3]]
   .exact #[Z',.inr #[i+1,r,f,by simp;lia,e.trans c,by rw[show k+(i+1)=k+1+i by lia];exact h3]]
  .refine #[Z2,.inr #[0,r,f,by simp,?_,h1]]
   unfold bZ
   simp only[e1,ai,a,bb]
theorem cj {lo:Int} {n i:Nat} {d:L3.D} (h:(bo lo n)[i]?=some d):i < n/\d=.int (lo+i):=by
 unfold bo at h
 grind
theorem dl {lo:Int} {n:Nat}:(bo lo n).length=n:=by unfold bo;simp
theorem Bj {xs:List L3.D} {m:Nat} (h:m<=xs.length):eE xs none (some (m:Int))=xs.take m:=by
 have e1:HT.sIx xs.length 0 none=0:=rfl
 have a:HT.sIx xs.length xs.length (some (m:Int))=m:=by
  simp only[HT.sIx]
  split <;> lia
 unfold eE
 rw[e1,a]
 simp
theorem Small.sub {p q:Pt} (a:Small p) (b:Small q):(-18446744073709551616 < q.1 - p.1/\q.1 - p.1 < 18446744073709551616)/\(-18446744073709551616 < q.2 - p.2/\q.2 - p.2 < 18446744073709551616):=by
 obtain ⟨a1,a2,c,a4⟩:=a
 obtain ⟨b1,b2,d,e⟩:=b
 exact #[#[by lia,by lia],#[by lia,by lia]]
theorem uj {c:M3 Bool} {b:SM} (P:Nat->Sto->Prop) (Q:Sto->Prop) {n:Nat} {Z:Sto} (h0:P n Z)
  (k:∀ n Z,P n Z->(∃ Z1,c Z=some (.ok false,Z1)/\Q Z1)\/∃ Z1 Z2 m,c Z=some (.ok true,Z1)/\(b Z1=some (.ok .nx,Z2)\/b Z1=some (.ok .ct,Z2))/\m < n/\P m Z2):∃ Z',fX c b Z=some (.ok .nx,Z')/\Q Z':=by
 have main:∀ n Z,P n Z->∃ Z',ci c b (n+1) Z=some (.ok .nx,Z')/\Q Z':=by
  intro n
  induction n using Nat.strongRecOn with
  | _ n ih =>
   intro Z j
   rcases k n Z j with ⟨Z1,e1,d⟩ | ⟨Z1,Z2,m,e1,a,hm,g⟩
   .refine #[Z1,?_,d]
    unfold ci
    simp[ai,e1,bb]
   .obtain ⟨Z',i,d⟩:=ih m hm Z2 g
    refine #[Z',?_,d]
    have f:=jD (show m+1<=n by lia) i
    unfold ci
    rcases a with a | a <;> simp[ai,e1,a,f]
 obtain ⟨Z',e,d⟩:=main n Z h0
 refine #[Z',?_,d]
 unfold fX
 have h:∃ n r,ci c b n Z=some r:=#[_,_,e]
 rw[dif_pos h]
 have a:=Classical.choose_spec (Classical.choose_spec h)
 have i:=jD (Nat.le_max_left (n+1) (Classical.choose h)) e
 have f:=jD (Nat.le_max_right (n+1) (Classical.choose h)) a
 rw[i] at f
 exact f.symm
theorem am {a b:SM} {Z Z1:Sto} {r:Option (Except L3.D Flw×Sto)} (h1:a Z=some (.ok .nx,Z1)) (h2:b Z1=r):aB a b Z=r:=by
 simp only[aB,ai,h1]
 exact h2
theorem gr {bnd:L3.D->Sto->Option Sto} {c:M3 Bool} {elt:EM} (P:Sto->Prop) (g:L3.D->Bool) (f:L3.D->L3.D):∀ {ds:List L3.D} {Y:Sto},P Y ->
  (∀ d∈ds,∀ Y,P Y->∃ Y1 Y2,bnd d Y=some Y1/\c Y1=some (.ok (g d),Y2)/\(g d=false->P Y2)/\(g d=true->∃ r Y3 p Y4,elt Y2=some (.ok r,Y3)/\eI r Y3=some (.ok p,Y4)/\p.1=f d/\P Y4)) ->
  ∃ Y',cg bnd c elt ds Y=some (.ok ((ds.filter g).map f),Y')/\P Y'
 | [],Y,h0,_=>#[Y,rfl,h0]
 | d::ds,Y,h0,hs=>by
  obtain ⟨Y1,Y2,e1,j,hf,I⟩:=hs d Fe Y h0
  cases a:g d with
  | false =>
   obtain ⟨Y',e,b⟩:=gr P g f (ds:=ds) (Y:=Y2) (hf a) λd hd=>hs d (Ff _ hd)
   refine #[Y',?_,b]
   unfold cg
   rw[a] at j
   simp[e1,ai,j,e,List.filter_cons,a]
  | true =>
   obtain ⟨r,Y3,p,Y4,l,k,i,h⟩:=I a
   obtain ⟨Y',e,b⟩:=gr P g f (ds:=ds) (Y:=Y4) h λd hd=>hs d (Ff _ hd)
   refine #[Y',?_,b]
   unfold cg
   rw[a] at j
   simp[e1,ai,j,l,k,e,List.filter_cons,a,bb,i]
abbrev Tri:=Nat×Nat×Nat
def lQ (i j m:Nat):List Tri:=(List.range m).map λk=>(i,j,j+1+k)
def jI (n i m:Nat):List Tri:=(List.range m).flatMap λj=>lQ i (i+1+j) (n - (i+1+j+1))
def nI (n m:Nat):List Tri:=(List.range m).flatMap λi=>jI n i (n - (i+1))
def po (n:Nat):List Tri:=nI n n
theorem pH (i j m:Nat):(lQ i j m).length=m:=by simp[lQ]
theorem mr (n i m:Nat):jI n i (m+1)=jI n i m++lQ i (i+1+m) (n - (i+1+m+1)):=by simp[jI,List.range_succ,List.flatMap_append]
theorem mw (n m:Nat):nI n (m+1)=nI n m++jI n m (n - (m+1)):=by simp[nI,List.range_succ,List.flatMap_append]
theorem xK {i j m:Nat} {t:Tri} (h:t∈lQ i j m):t.1=i/\t.2.1=j/\j < t.2.2/\t.2.2 < j+1+m:=by
 obtain ⟨k,a,rfl⟩:=Fy.mp h
 grind
theorem qb {n:Nat} {t:Tri} (h:t∈po n):t.1 < t.2.1/\t.2.1 < t.2.2/\t.2.2 < n:=by
 obtain ⟨i,hi,h⟩:=F6.mp h
 obtain ⟨j,a,h⟩:=F6.mp h
 rw[List.mem_range] at hi a
 obtain ⟨h1,h2,h3,b⟩:=xK h
 exact #[by lia,by lia,by lia]
theorem sL (n i m:Nat):(jI n i m).length<=m * n:=by
 induction m with
 | zero=>simp[jI]
 | succ m ih=>rw[mr,FN,pH,Nat.succ_mul];lia
theorem Ab (n m:Nat):(nI n m).length<=m * (n * n):=by
 induction m with
 | zero=>simp[nI]
 | succ m ih =>
  rw[mw,FN,Nat.succ_mul]
  have:=sL n m (n - (m+1))
  have h2:(n - (m+1)) * n<=n * n:=Nat.mul_le_mul (by lia) (FA _)
  lia
theorem qY {n m:Nat} (a:n<=25) (hm:m<=25):(nI n m).length<=15625:=by
 have h1:=Ab n m
 have h2:n * n<=25 * 25:=Nat.mul_le_mul a a
 have h3:m * (n * n)<=25 * (25 * 25):=Nat.mul_le_mul hm h2
 lia
theorem qX {n i m:Nat} (a:n<=25) (hm:m<=25):(jI n i m).length<=625:=by
 have h1:=sL n i m
 have h2:m * n<=25 * 25:=Nat.mul_le_mul hm a
 lia
abbrev Td (t:Tri):L3.D:=.tup [.int t.1,.int t.2.1,.int t.2.2]
abbrev Shd (ps:List Pt):L3.D:=.tup (ps.map Pd)
theorem cO {im:IM} {bnd:L3.D->Sto->Option Sto} {c:M3 Bool} {elt:EM} {ix:List (Option Nat)} {Z Z1 Z2 Y:Sto} {rs:List R3} {ds out:List L3.D} (h1:im Z=some (.ok (rs,ds),Z1)) (h2:cg bnd c elt ds (qE ix (aO cQ (us Z1 (pls rs)) Z1))=some (.ok out,Y)) (h3:ds.length < 16777216) (a:uncap ix Y (aO cQ (us Z1 (pls rs)) Z1)=some Z2) :
  cE im bnd c elt ix Z=some (.ok (.val (.lst out) .u),aO fR (us Z1 (pls rs)) Z2):=by
 simp[cE,ai,h1,h2,h3,a]
theorem ue {xs:List L3.D} {i:Nat} {d:L3.D} (h:xs[i]?=some d):L2.atI xs (i:Int)=some d:=by
 obtain ⟨h1,h2⟩:=Fu.mp h
 simp[L2.atI,ixN,h1,h2]
theorem i5 {ps:List Pt} {i:Nat} {p:Pt} (h:ps[i]?=some p):L2.atI (ps.map Pd) (i:Int)=some (Pd p):=ue (by simp[h])
theorem yj {f:List L3.D->Option (List L3.D)} {ms:M3 (List R3)} {Z Z1 Z2:Sto} {rs:List R3} {ds xs:List L3.D} (h1:ms Z=some (.ok rs,Z1)) (h2:dw rs Z1=some (.ok ds,Z2)) (h3:f ds=some xs):bY f ms Z=some (.ok ([],xs),Z2):=by
 simp[bY,ai,h1,h2,h3,bc]
theorem ku {a b:Int} (ha:-1000<=a/\a<=1000) (e:-1000<=b/\b<=1000) {n:Nat} (d:(b - a).toNat=n):iP [.int a,.int b]=some (bo a n):=by
 have lm:fH a=true:=FH (by lia)
 have c:fH b=true:=FH (by lia)
 show (if (fH a && fH b)=true then some (bo a (b - a).toNat) else none)=_
 rw[lm,c,d]
 exact if_pos rfl
theorem ib {b:Int} (d:-1000<=b/\b<=1000) {n:Nat} (c:b.toNat=n):fL [.int b]=some (bo 0 n):=by
 have a:fH b=true:=FH (by lia)
 show (if (fH b)=true then some (bo 0 b.toNat) else none)=_
 rw[a,c]
 exact if_pos rfl
section
variable {α:Type} {Z Z1 Z2 Z3:Sto} {ma mb mc m:EM} {ms:M3 (List R3)} {ra rb r:R3} {rs:List R3} {da db d:L3.D} {ds:List L3.D} {fl:Fl} {i n np:Nat} {sa sb:SM} {c cc:M3 Bool} {b b2:Bool} {x:Option (Except L3.D Flw×Sto)} {y:Option (Except L3.D R3×Sto)}
theorem ag {p:L3.D×Fl} (h:(Z[i]?).join=some p):ac i Z=some (.ok (.pl i),Z):=by simp[ac,h]
theorem i_c:mC d Z=some (.ok (.val d .z),Z):=rfl
theorem aq {f:L3.D->L3.D->Option (L3.D×Fl)} (h1:ma Z=some (.ok ra,Z1)) (h2:mb Z1=some (.ok rb,Z2)) (h3:der ra Z2=some (.ok da,Z2)) (a:der rb Z2=some (.ok db,Z2)) (b:f da db=some (d,fl)):af f ma mb Z=some (.ok (.val d fl),Z2):=by
 simp only[af,ai,h1,h2,h3,a,bc,b,FQ]
theorem ft {f:L3.D->Option (L3.D×Fl)} (h1:ma Z=some (.ok ra,Z1)) (h3:der ra Z1=some (.ok da,Z1)) (a:f da=some (d,fl)):mUn f ma Z=some (.ok (.val d fl),Z1):=by
 simp only[mUn,ai,h1,h3,bc,a,FQ]
theorem aD {f:List L3.D->Option (L3.D×Fl)} (h1:ms Z=some (.ok rs,Z1)) (h3:dw rs Z1=some (.ok ds,Z1)) (a:f ds=some (d,fl)):au f ms Z=some (.ok (.val d fl),Z1):=by
 simp only[au,ai,h1,h3,bc,a,FQ]
theorem ao:ak Z=some (.ok [],Z):=rfl
theorem aj (h1:m Z=some (.ok r,Z1)) (h2:ms Z1=some (.ok rs,Z2)):aa m ms Z=some (.ok (r::rs),Z2):=by
 simp only[aa,ai,h1,h2,bb]
theorem bO {mk:List L3.D->L3.D} {f:Fl} (h1:ms Z=some (.ok rs,Z1)) (h2:gives rs Z1=some (.ok ds,Z2)) (h3:ds.length<=16777216):A0 mk f ms Z=some (.ok (.val (mk ds) f),Z2):=by
 simp only[A0,ai,h1,h2,bc,h3,if_true,FQ]
theorem aE {F:Fn} {ps qs:List (L3.D×Fl)} (b:F ps=some (.ok (d,fl),qs)) (h1:ms Z=some (.ok rs,Z1)) (h2:prs (frz (fu rs) Z1) rs=some ps) (h3:qs.length=ps.length) (a:back rs ps qs (frz (fu rs) Z1)=Z2):ay F ms Z=some (.ok (.val d fl),Z2):=by
 simp only[ay,ai,h1,h2,b,h3,if_true,a]
theorem bA {p:L3.D×Fl} (h1:m Z=some (.ok r,Z1)) (h2:eI r Z1=some (.ok p,Z2)) (h3:i < Z2.length) (a:Z2.set i (some p)=Z3):aJ i m Z=some (.ok .nx,Z3):=by
 simp only[aJ,ai,h1,h2,h3,if_true,a]
theorem B4 {bnd:L3.D->Sto->Option Sto} {p:L3.D×Fl} (h1:m Z=some (.ok r,Z1)) (h2:eI r Z1=some (.ok p,Z2)) (h3:bnd p.1 Z2=some Z3):lP bnd m Z=some (.ok .nx,Z3):=by
 simp only[lP,ai,h1,h2,h3,FQ]
theorem B3 {a b:L3.D} {j:Nat} (h1:ms Z=some (.ok rs,Z1)) (h2:gives rs Z1=some (.ok [a,b],Z2)) (hi:i < Z2.length) (c:j < Z2.length) (h3:(Z2.set i #v[a]).set j #v[b]=Z3):nG i j ms Z=some (.ok .nx,Z3):=by
 simp only[nG,ai,h1,h2,hi,c,and_self,if_true,h3]
theorem rO (h1:m Z=some (.ok r,Z1)):iH m Z=some (.ok .nx,Z1):=by
 simp only[iH,ai,h1,bb]
def retF (np:Nat) (r:R3):SM:=aN np (bb r)
theorem a7 (h1:m Z=some (.ok r,Z1)) (h2:retF np r Z1=x):aN np m Z=x:=by
 rw[<- h2]
 unfold retF
 simp only[aN,ai,h1,bb]
theorem bC (h1:sa Z=some (.ok (.rt d fl),Z1)):aB sa sb Z=some (.ok (.rt d fl),Z1):=by
 simp only[aB,ai,h1,bb]
theorem aQ (h1:m Z=some (.ok r,Z1)) (h2:der r Z1=some (.ok (.bl b),Z1)):cB m Z=some (.ok b,Z1):=by
 simp only[cB,ai,h1,h2,bc,asB,FQ]
theorem cy (h1:c Z=some (.ok b,Z1)):gw c Z=some (.ok (!b),Z1):=by
 simp only[gw,ai,h1,bb]
theorem cr (h1:c Z=some (.ok b,Z1)) (a:b=true) (h2:sa Z1=x):sIf c sa sb Z=x:=by
 subst a;simp only[sIf,ai,h1,if_true];exact h2
theorem bE (h1:c Z=some (.ok b,Z1)) (a:b=false) (h2:sb Z1=x):sIf c sa sb Z=x:=by
 subst a;simp only[sIf,ai,h1,FU,if_false];exact h2
theorem d9 (h1:c Z=some (.ok b,Z1)) (a:b=false) (h2:cc Z1=some (.ok b2,Z2)):cOr c cc Z=some (.ok b2,Z2):=by
 subst a;simp only[cOr,ai,h1,FU,if_false];exact h2
theorem lj (h1:c Z=some (.ok b,Z1)) (a:b=true):cOr c cc Z=some (.ok true,Z1):=by
 subst a;simp only[cOr,ai,h1,if_true];rfl
theorem lp (h1:c Z=some (.ok b,Z1)) (a:b=true) (h2:cc Z1=some (.ok b2,Z2)):eR c cc Z=some (.ok b2,Z2):=by
 subst a;simp only[eR,ai,h1,if_true];exact h2
theorem lr (h1:c Z=some (.ok b,Z1)) (a:b=false):eR c cc Z=some (.ok false,Z1):=by
 subst a;simp only[eR,ai,h1,FU,if_false];rfl
theorem iw (h1:ma Z=some (.ok r,Z1)) (h2:der r Z1=some (.ok (.bl b),Z1)) (a:b=true) (h3:mb Z1=y):gi ma mb Z=y:=by
 subst a;simp only[gi,ai,h1,h2,bc,asB,FQ,if_true];exact h3
theorem jw (h1:ma Z=some (.ok r,Z1)) (h2:der r Z1=some (.ok (.bl b),Z1)) (a:b=false):gi ma mb Z=some (.ok (.val (.bl false) .z),Z1):=by
 subst a;simp only[gi,ai,h1,h2,bc,asB,FQ,FU,if_false];rfl
theorem yn (h1:c Z=some (.ok b,Z1)) (a:b=true) (h2:ma Z1=y):mIf c ma mb Z=y:=by
 subst a;simp only[mIf,ai,h1,if_true];exact h2
theorem yo (h1:c Z=some (.ok b,Z1)) (a:b=false) (h2:mb Z1=y):mIf c ma mb Z=y:=by
 subst a;simp only[mIf,ai,h1,FU,if_false];exact h2
theorem iE {f:L3.D->Option Int->Option Int->Option (L3.D×Fl)} {pl pu:M3 (Option Int)} {lo hi:Option Int} (h1:ma Z=some (.ok ra,Z1)) (h2:pl Z1=some (.ok lo,Z2)) (h3:pu Z2=some (.ok hi,Z3)) (a:der ra Z3=some (.ok da,Z3)) (b:f da lo hi=some (d,fl)):mSl f ma pl pu Z=some (.ok (.val d fl),Z3):=by
 simp only[mSl,ai,h1,h2,h3,a,bc,b,FQ]
theorem bG:aZ Z=some (.ok none,Z):=rfl
theorem bF {k:Int} (h1:m Z=some (.ok r,Z1)) (h2:der r Z1=some (.ok (.int k),Z1)):aY m Z=some (.ok (some k),Z1):=by
 simp only[aY,ai,h1,h2,bc,asI,FQ]
theorem ym {ok:L3.D->Bool} {f:L3.D->List L3.D->Option (L3.D×L3.D)} {c b a:L3.D} (h0:(Z[i]?).join=some (d,fl)) (h:ok d=true) (h1:ms Z=some (.ok rs,Z1)) (h2:gives rs Z1=some (.ok ds,Z2)) (h3:(Z2[i]?).join=some (c,.u)) (e:f c ds=some (b,a)) (g:Z2.set i (some (b,.u))=Z3):lV ok f i ms Z=some (.ok (.val a .z),Z3):=by
 simp only[lV,ai,ag h0,chk,h0,h,if_true,h1,h2,h3,e,g]
theorem i_sub {f:L3.D->List L3.D->Option (L3.D×L3.D)} {b a g:L3.D} (h1:mb Z=some (.ok rb,Z1)) (h0:(Z1[i]?).join=some (d,fl)) (h2:ma Z1=some (.ok ra,Z2)) (h3:gives [ra,rb] Z2=some (.ok ds,Z3)) (c:(Z3[i]?).join=some (b,.u)) (e:f b ds=some (a,g)):wy f i ma mb Z=some (.ok .nx,Z3.set i (some (a,.u))):=by
 simp only[wy,ai,h1,ag h0,h2,h3,c,e]
theorem df {ok:L3.D->Bool} {f:List L3.D->Option (L3.D×Fl)} {a:L3.D} (h1:ma Z=some (.ok ra,Z1)) (h2:der ra Z1=some (.ok a,Z1)) (e:ok a=true) (h3:ms Z1=some (.ok rs,Z2)) (b:dw (ra::rs) Z2=some (.ok ds,Z2)) (c:f ds=some (d,fl)):bR ok f ma ms Z=some (.ok (.val d fl),Z2):=by
 simp only[bR,ai,h1,h2,e,if_true,h3,b,bc,c,FQ]
theorem aT {mask:List Bool} {ps qs:List (L3.D×Fl)} (h1:ps.length=mask.length) (h0:entry n (List.zipWith uV mask ps)=Z) (h2:sa Z=some (.ok (.rt d fl),Z1)) (h3:dM Z1 0 (List.zipWith uV mask ps)=some qs):fnM mask n sa ps=some (.ok (d,fl),qs):=by
 subst h0;simp only[fnM,h1,if_true,fn0,h2,h3,FQ]
theorem iI {i j:Int} (h:-18446744073709551616 < i/\i < 18446744073709551616):cK (.int i) (.int j)=#v[.int (i * j)]:=by
 simp[dZ,h]
theorem xF {i j:Int} (h:-18446744073709551616 < j/\j < 18446744073709551616):cK (.int i) (.int j)=#v[.int (i * j)]:=by
 simp[dZ,h]
theorem cS {im:IM} {bnd:L3.D->Sto->Option Sto} {o:Except L3.D Flw} (h1:im Z=some (.ok (rs,ds),Z1)) (b:us Z1 (pls rs)=[]) (h2:bZ bnd sb ds Z1=some (o,Z2)):dI im bnd sb Z=some (o,Z2):=by
 have a:∀ f Z,aO f [] Z=Z:=λ_ _=>rfl
 simp only[dI,ai,h1,b,a,h2,FQ]
theorem yp {im:IM} {bnd:L3.D->Sto->Option Sto} {o:Except L3.D Flw} {is:List Nat} (h1:im Z=some (.ok (rs,ds),Z1)) (a:us Z1 (pls rs)=is) (h2:bZ bnd sb ds (aO cQ is Z1)=some (o,Z2)):dI im bnd sb Z=some (o,aO fR is Z2):=by
 simp only[dI,ai,h1,a,h2,FQ]
theorem iy (h1:m Z=some (.ok r,Z1)) (h2:der r Z1=some (.ok d,Z1)) (h3:BL d=some ds):d8 m Z=some (.ok ([r],ds),Z1):=by
 simp only[d8,ai,h1,h2,bc,h3,FQ]
theorem gm {f:List L3.D->Option (List L3.D)} {xs:List L3.D} (h1:ms Z=some (.ok rs,Z1)) (h2:dw rs Z1=some (.ok ds,Z1)) (h3:f ds=some xs):bY f ms Z=some (.ok ([],xs),Z1):=yj h1 h2 h3
end
theorem eQ {α:Type} {bnd:L3.D->Sto->Option Sto} {c:M3 Bool} {elt:EM} (P:Sto->Prop) (D:α->L3.D) (g:α->Bool) (f:α->L3.D):∀ {xs:List α} {Y:Sto},P Y ->
  (∀ x∈xs,∀ Y,P Y->∃ Y1 Y2,bnd (D x) Y=some Y1/\c Y1=some (.ok (g x),Y2)/\(g x=false->P Y2)/\(g x=true->∃ r Y3 p Y4,elt Y2=some (.ok r,Y3)/\eI r Y3=some (.ok p,Y4)/\p.1=f x/\P Y4)) ->
  ∃ Y',cg bnd c elt (xs.map D) Y=some (.ok ((xs.filter g).map f),Y')/\P Y'
 | [],Y,h0,_=>#[Y,rfl,h0]
 | x::xs,Y,h0,hs=>by
  obtain ⟨Y1,Y2,e1,j,hf,I⟩:=hs x Fe Y h0
  cases a:g x with
  | false =>
   obtain ⟨Y',e,b⟩:=eQ P D g f (xs:=xs) (Y:=Y2) (hf a) λd hd=>hs d (Ff _ hd)
   refine #[Y',?_,b]
   rw[FF]
   unfold cg
   rw[a] at j
   simp[e1,ai,j,e,List.filter_cons,a]
  | true =>
   obtain ⟨r,Y3,p,Y4,l,k,i,h⟩:=I a
   obtain ⟨Y',e,b⟩:=eQ P D g f (xs:=xs) (Y:=Y4) h λd hd=>hs d (Ff _ hd)
   refine #[Y',?_,b]
   rw[FF]
   unfold cg
   rw[a] at j
   simp[e1,ai,j,l,k,e,List.filter_cons,a,bb,i]
section
variable {α:Type} {P:List α->Prop} {us:List α}
theorem bnd0 (h:us.length=0) (f:P []):P us:=by
 cases us with
 | nil=>exact f
 | cons a us=>cases h
theorem E4 {n:Nat} (h:us.length=n+1) (f:∀ a r,r.length=n->P (a::r)):P us:=by
 cases us with
 | nil=>cases h
 | cons a us=>exact f a us (Nat.succ.inj h)
theorem bnd1 (h:us.length=1) (f:∀ a,P [a]):P us:=E4 h λa _ h=>bnd0 (P:=λr=>P (a::r)) h (f a)
theorem bnd2 (h:us.length=2) (f:∀ a b,P [a,b]):P us:=E4 h λa _ h=>bnd1 (P:=λr=>P (a::r)) h (f a)
theorem bnd3 (h:us.length=3) (f:∀ a b c,P [a,b,c]):P us:=E4 h λa _ h=>bnd2 (P:=λr=>P (a::r)) h (f a)
end
theorem hb1 {x:Str} {st:Stmt} {b:Str} (f:∀ (kV doc pm:Value) (an:Option Addr) (a ct a0:Value),bindArgs (PySem.W.fnOf x x (aK st) (aG st) (ah st) .none kV doc pm an a ct) #[[a0],[]]=pure ([b].zip [a0])) (kV doc pm:Value) (an:Option Addr) (a ct:Value) (us:List Value) (hl:us.length=[b].length):bindArgs (PySem.W.fnOf x x (aK st) (aG st) (ah st) .none kV doc pm an a ct) #[us,[]]=pure ([b].zip us) :=
 bnd1 (P:=λus=>bindArgs (PySem.W.fnOf x x (aK st) (aG st) (ah st) .none kV doc pm an a ct) #[us,[]]=pure ([b].zip us)) hl (f kV doc pm an a ct)
theorem hb2 {x:Str} {st:Stmt} {b c:Str} (f:∀ (kV doc pm:Value) (an:Option Addr) (a ct a0 a1:Value),bindArgs (PySem.W.fnOf x x (aK st) (aG st) (ah st) .none kV doc pm an a ct) #[[a0,a1],[]]=pure ([b,c].zip [a0,a1])) (kV doc pm:Value) (an:Option Addr) (a ct:Value) (us:List Value) (hl:us.length=[b,c].length):bindArgs (PySem.W.fnOf x x (aK st) (aG st) (ah st) .none kV doc pm an a ct) #[us,[]]=pure ([b,c].zip us) :=
 bnd2 (P:=λus=>bindArgs (PySem.W.fnOf x x (aK st) (aG st) (ah st) .none kV doc pm an a ct) #[us,[]]=pure ([b,c].zip us)) hl (f kV doc pm an a ct)
theorem hb3 {x:Str} {st:Stmt} {b c p2:Str} (f:∀ (kV doc pm:Value) (an:Option Addr) (a ct a0 a1 a2:Value),bindArgs (PySem.W.fnOf x x (aK st) (aG st) (ah st) .none kV doc pm an a ct) #[[a0,a1,a2],[]]=pure ([b,c,p2].zip [a0,a1,a2])) (kV doc pm:Value) (an:Option Addr) (a ct:Value) (us:List Value) (hl:us.length=[b,c,p2].length):bindArgs (PySem.W.fnOf x x (aK st) (aG st) (ah st) .none kV doc pm an a ct) #[us,[]]=pure ([b,c,p2].zip us) :=
 bnd3 (P:=λus=>bindArgs (PySem.W.fnOf x x (aK st) (aG st) (ah st) .none kV doc pm an a ct) #[us,[]]=pure ([b,c,p2].zip us)) hl (f kV doc pm an a ct)
end Bn
end
section
namespace L3
open PySem L2
def tgN:Expr->List Str
 | .Name x _=>[x]
 | .Tuple [.Name x _,.Name y _] _ _=>[x,y]
 | .Tuple [.Name x _,.Name y _,.Name z _] _ _=>[x,y,z]
 | _=>[]
def pW (tg:Expr) (N:List Str) (ix:List (Option Nat)):List Str:=tgN tg++ix.filterMap λo=>o.bind λi=>N[i]?
def ndB:List Str->Bool
 | []=>true
 | x::xs=>!(xs.any λy=>decide (y=x)) && ndB xs
theorem mE:∀ {xs:List Str},ndB xs=true->xs.Nodup
 | [],_=>.nil
 | x::xs,h=>by
  simp only[ndB,Bool.and_eq_true,Bool.not_eq_true',List.any_eq_false,decide_eq_true_eq] at h
  exact List.nodup_cons.mpr #[λm=>h.1 x m rfl,mE h.2]
section
variable {X:Cx} {G0:Gm} {W0:D->Sto->Prop} {pos:Pos}
theorem pK (f:X.calm=true) (hi:RI X G0 W0 tg iter im) (e:∀ s H C fp,PTs (aS X (pW tg X.N ix) scope s H C fp) ifs (tT X.K (bp ix) noX cm)) (he:∀ s H C fp,RE (aS X (pW tg X.N ix) scope s H C fp) (bp ix) noX elt em) (c:gq scope X.N X.env.scope (pW tg X.N ix) ix=true) (a:Inj ix) (d:∀ x,foldedSetIterable iter X.env x=pure x) (b:∃ j,Bnd X.K (bp ix).pr j bnd/\∀ s H C fp,PG (aS X (pW tg X.N ix) scope s H C fp) tg j):RE X G0 W0 (.ListComp elt [#[tg,iter,ifs,0]] scope pos) (cE im bnd cm em ix) :=
 Aj _ ix f hi e he c a d b
theorem pG {i:Nat} (k:X.N.Nodup) (e:X.N[i]?=some y) (d:Loc X.env.scope y) (g:X.calm=true) (hi:RI X G0 W0 tg iter im) (l:∀ s H C fp,PTs (aS X (pW tg X.N ix) scope s H C fp) ifs (tT X.K (bp ix) noX cm)) (he:∀ s H C fp,RE (aS X (pW tg X.N ix) scope s H C fp) (bp ix) noX elt em) (h:gq scope X.N X.env.scope (pW tg X.N ix) ix=true) (a:Inj ix) (c:swapsWith (.ListComp elt [#[tg,iter,ifs,0]] scope pos) (some (.Name y py)) spos.line X.env=pure true) (hf:X.fn y=true\/X.env.scope.names.lookup y=some .local) (m:∀ x,foldedSetIterable iter X.env x=pure x) (f:G0.pr i=false) (b:∃ j,Bnd X.K (bp ix).pr j bnd/\∀ s H C fp,PG (aS X (pW tg X.N ix) scope s H C fp) tg j):RS X G0 W0 (.Assign [.Name y py] (.ListComp elt [#[tg,iter,ifs,0]] scope pos) spos) (aJ i (cE im bnd cm em ix)) :=
 qW k e d _ ix g hi l he h a c hf m f b
theorem Ai (d:Gl X tn) (j:X.mg tn=some (.ref C)) (g:IsX X.K (.ref C) cs) (c:(tn == ("__debug__":Str))=false) (i:Gl X "isinstance") (hm:X.mg "isinstance"=none) (ha:RE X G0 W0 a ma) (e:starEach [a,.Name tn pT] X.env=(false,eval a X.env)::starEach [.Name tn pT] X.env) (f:starEach [.Name tn pT] X.env=(false,eval (.Name tn pT) X.env)::starEach [] X.env) (b:(backTo pos (starEach [.Name tn pT] X.env)).any (·.1)=false):RE X G0 W0 (.Call (.Name "isinstance" p) [a,.Name tn pT] [] pos) (mUn (jt cs) ma) :=
 sO (t:=V.ref C) (λ_ h=>h) g i hm (nR d j rfl c) ha e f b
end
section
variable {X:Cx} {G0:Gm} {W0:D->Sto->Prop} {p q r:Pos} {m:EM} {e e1:Expr} {es:List Expr} {t:M3 Bool} {sm:SM}
theorem gN {i:Nat} (h:RE X G0 W0 (.Name x p) (ac i)):RE X G0 W0 (.Name x p) (ac i):=h
theorem gG (h:RE X G0 W0 (.Name x p) (mC d)):RE X G0 W0 (.Name x p) (mC d):=h
theorem gH (h:RE X G0 W0 (.Name x p) m):RE X G0 W0 (.Name x p) m:=h
theorem gK {k:Nat} (h:RE X G0 W0 (.Constant c k p) m):RE X G0 W0 (.Constant c k p) m:=h
theorem gB (op:Operator) (h:RE X G0 W0 (.BinOp e op e1 p) m):RE X G0 W0 (.BinOp e op e1 p) m:=h
theorem gU (op:UnaryOp) (h:RE X G0 W0 (.UnaryOp op e p) m):RE X G0 W0 (.UnaryOp op e p) m:=h
theorem gP (os:List CmpOp) (h:RE X G0 W0 (.Compare e os es p) m):RE X G0 W0 (.Compare e os es p) m:=h
theorem gO (h:RE X G0 W0 (.BoolOp op es p) m):RE X G0 W0 (.BoolOp op es p) m:=h
theorem gS (h:RE X G0 W0 (.Subscript e e1 p) m):RE X G0 W0 (.Subscript e e1 p) m:=h
theorem gL (h:RE X G0 W0 (.Subscript e (.Slice a b c p) q) m):RE X G0 W0 (.Subscript e (.Slice a b c p) q) m:=h
theorem gI (x:Str) (h:RE X G0 W0 (.Call (.Name s p) [e,.Name x q] [] r) m):RE X G0 W0 (.Call (.Name s p) [e,.Name x q] [] r) m:=h
theorem gC (x:Str) (h:RE X G0 W0 (.Call (.Name x p) es ks q) m):RE X G0 W0 (.Call (.Name x p) es ks q) m:=h
theorem gD (h:RE X G0 W0 (.Call (.Name x p) es ks q) m):RE X G0 W0 (.Call (.Name x p) es ks q) m:=h
theorem gM (x:Str) (h:RE X G0 W0 (.Call (.Attribute e x p) es ks q) m):RE X G0 W0 (.Call (.Attribute e x p) es ks q) m:=h
theorem gE (h:RE X G0 W0 e m):RE X G0 W0 e m:=h
theorem gA (h:RA X G0 W0 es ms):RA X G0 W0 es ms:=h
theorem gQ (os:List CmpOp) (h:RT X G0 W0 (.Compare e os es p) t):RT X G0 W0 (.Compare e os es p) t:=h
theorem gW (h:RT X G0 W0 (.BoolOp op es p) t):RT X G0 W0 (.BoolOp op es p) t:=h
theorem gV (h:RT X G0 W0 (.UnaryOp .Not e p) t):RT X G0 W0 (.UnaryOp .Not e p) t:=h
theorem gT (h:RT X G0 W0 e t):RT X G0 W0 e t:=h
theorem gR (h:RS X G0 W0 (.Return o p) sm):RS X G0 W0 (.Return o p) sm:=h
theorem gF (h:RS X G0 W0 (.If e ss tt p) sm):RS X G0 W0 (.If e ss tt p) sm:=h
theorem gX (h:RS X G0 W0 (.Assign [.Name x p] e q) sm):RS X G0 W0 (.Assign [.Name x p] e q) sm:=h
theorem gZ (h:RS X G0 W0 st sm):RS X G0 W0 st sm:=h
theorem gY (h:RSs X G0 W0 ss sm):RSs X G0 W0 ss sm:=h
end
end L3
end
section
namespace Bn
open PySem L2 L3
local macro_rules | `(tactic| infer_instance)=>`(tactic| first | with_reducible apply ag | with_reducible exact i_c | with_reducible apply aq | with_reducible apply ft | with_reducible apply aD | with_reducible exact ao | with_reducible apply aj | with_reducible apply bO | with_reducible apply bA | with_reducible apply B4 | with_reducible apply rO | with_reducible apply a7 | with_reducible exact i_nilS | with_reducible apply aQ | with_reducible apply cy | with_reducible apply i_mNot | with_reducible apply iE | with_reducible exact bG | with_reducible apply bF | with_reducible apply ym | with_reducible apply i_sub | with_reducible apply iy | with_reducible apply gm | with_reducible apply iw | with_reducible apply d9)
local macro_rules | `(tactic| eq_refl)=>`(tactic| first | exact rfl | exact Nat.le_of_ble_eq_true rfl)
local macro_rules | `(tactic| nofun) => `(tactic| repeat' (first | infer_instance | eq_refl))
local macro_rules | `(tactic| exists $es,*) => `(tactic| repeat' (first | infer_instance | (first $[| exact $es]*) | eq_refl))
local macro_rules | `(tactic| nomatch [$fs,*]) => `(tactic| repeat' (first | infer_instance | (first $[| with_reducible apply aE $fs]*) | eq_refl))
local macro_rules | `(tactic| nomatch [$fs,*], [$es,*]) => `(tactic| repeat' (first | infer_instance | (first $[| with_reducible apply aE $fs]*) | (first $[| exact $es]*) | eq_refl))
section
variable {P:Program} {w:World} {K:FG} {mg:Str->Option Value} {base:Heap}
local macro_rules | `(tactic| ac_rfl) => `(tactic| exact ⟨rfl,rfl,rfl,by decide +kernel,rfl,by decide +kernel,by decide +kernel⟩)
set_option hygiene false
local macro_rules | `(tactic| and_intros)=>`(tactic| repeat' (first
 | ((with_reducible apply gA);first | refine Al ?_ ?_ rfl | refine Dv)
 | ((with_reducible apply gN);first | refine nK _ rfl (Or.inl rfl) (by decide) (by decide) | refine nK _ rfl (Or.inr (Or.inl rfl)) (by decide) (by decide))
 | ((with_reducible apply gG);first | refine pJ rfl (by assumption) (by decide) | refine pI rfl (by assumption) (by decide))
 | ((with_reducible apply gK);first | refine Dq | refine Dl | refine Do | refine re_bl)
 | ((with_reducible apply gL);refine wP ?_ ?_ ?_)
 | ((with_reducible apply gS);first | refine BN (EB hr.hu) Ec ?_ ?_ (λ_ _=>rfl) | refine BN EA Ee ?_ ?_ (λ_ _=>rfl))
 | ((with_reducible apply gB .Add);refine iQ AF Ef ?_ ?_)
 | ((with_reducible apply gB .Sub);refine iQ DW AJ ?_ ?_)
 | ((with_reducible apply gB .Mult);first | refine iQ op_mul od_mulI ?_ ?_ | refine iQ AE AN ?_ ?_)
 | ((with_reducible apply gB .Mod);refine iQ DZ AO ?_ ?_)
 | ((with_reducible apply gB .FloorDiv);refine iQ xt AR ?_ ?_)
 | ((with_reducible apply gB .Pow);refine iQ DX AK ?_ ?_)
 | ((with_reducible apply gQ [.NotEq]);refine fY (DY hr.units) Ed ?_ ?_ (dS _))
 | ((with_reducible apply gQ [.Eq]);refine fY (xu hr.units) xA ?_ ?_ (dS _))
 | ((with_reducible apply gQ [.Is]);refine fY xq xy ?_ ?_ (dS _))
 | ((with_reducible apply gQ [.Gt]);refine fY BR BT ?_ ?_ (dS _))
 | ((with_reducible apply gQ [.LtE]);refine fY pR xx ?_ ?_ (dS _))
 | ((with_reducible apply gQ [.Lt]);refine fY BQ BS ?_ ?_ (dS _))
 | ((with_reducible apply gQ [.NotIn]);refine fY uL uN ?_ ?_ (by with_unfolding_all rfl))
 | ((with_reducible apply gQ [.IsNot]);refine fY AC AL ?_ ?_ (dS _))
 | ((with_reducible apply gW);refine rt_w ?_)
 | ((with_reducible apply gV);refine C8 ?_)
 | ((with_reducible apply gT);refine C7 ?_ (λ_=>rfl))
 | ((with_reducible apply gP [.Eq]);refine kX (xu hr.units) xA ?_ ?_ (dS _))
 | ((with_reducible apply gP [.LtE,.LtE]);refine wQ pR xx pR xx ?_ ?_ ?_ (λh1 h2 h3=>xm pR pR h1 h2 h3))
 | ((with_reducible apply gP [.Lt]);refine kX BQ BS ?_ ?_ (dS _))
 | ((with_reducible apply gP [.Is]);refine kX xq xy ?_ ?_ (dS _))
 | ((with_reducible apply gP [.In]);refine kX xr xz ?_ ?_ (by with_unfolding_all rfl))
 | ((with_reducible apply gP [.Gt]);refine kX BR BT ?_ ?_ (dS _))
 | ((with_reducible apply gO);first | refine Dt ?_ ?_ | refine Dm ?_)
 | ((with_reducible apply gU .USub);refine re_un Cl Cm ?_)
 | ((with_reducible apply gU .Not);refine Dn ?_)
 | ((with_reducible apply gI "int");refine nM oU rfl B.isinstance (jj (v:=V.ty "int") rfl B.int y6 rfl (by decide) (by decide)) ?_ rfl rfl rfl)
 | ((with_reducible apply gI "bool");refine nM lX rfl B.isinstance (jj (v:=V.ty "bool") rfl B.bool E8 rfl (by decide) (by decide)) ?_ rfl rfl rfl)
 | ((with_reducible apply gI "tuple");refine nM lB rfl B.isinstance (jj (v:=V.ty "tuple") rfl B.tuple ub rfl (by decide) (by decide)) ?_ rfl rfl rfl)
 | ((with_reducible apply gI "str");refine nM oT rfl B.isinstance (jj (v:=V.ty "str") rfl B.str Cg rfl (by decide) (by decide)) ?_ rfl rfl rfl)
 | ((with_reducible apply gI "ValueError");refine sO (t:=V.ty "ValueError") (λ_ h=>h) T_ValueError rfl B.isinstance (jj rfl Z_ValueError o5 rfl (by decide) (by decide)) ?_ rfl rfl rfl)
 | ((with_reducible apply gC "len");first | refine dm oS EW rfl B.len Ch ?_ (by decide) (by decide) rfl rfl | refine dm vz Bp rfl B.len Ch ?_ (by decide) (by decide) rfl rfl)
 | ((with_reducible apply gC "isinstance");refine Ai rfl (by assumption) (by assumption) (by decide) rfl B.isinstance ?_ rfl rfl rfl)
 | ((with_reducible apply gC "str");refine eL vt Bk rfl B.str Cg ?_ (by decide) (by decide) rfl rfl)
 | ((with_reducible apply gC "tuple");refine eL lW EU rfl B.tuple ub ?_ (by decide) (by decide) rfl rfl)
 | ((with_reducible apply gC "repr");refine dm (oQ hr.gd hr.units) (yS S_sys) rfl B.repr E6 ?_ (by decide) (by decide) rfl rfl)
 | ((with_reducible apply gC "all");refine dm (yV rfl) EY rfl B.all b_all ?_ (by decide) (by decide) rfl rfl)
 | ((with_reducible apply gC "int");first | refine eL lY Br rfl B.int y6 ?_ (by decide) (by decide) rfl rfl | refine eL vB Bs rfl B.int y6 ?_ (by decide) (by decide) rfl rfl)
 | ((with_reducible apply gC "abs");refine dm yW EZ rfl B.abs b_abs ?_ (by decide) (by decide) rfl rfl)
 | ((with_reducible apply gC "divmod");refine dm qF vn rfl B.divmod y7 ?_ (by decide) (by decide) rfl rfl)
 | ((with_reducible apply gC "list");refine eL oR EV rfl B.list E7 ?_ (by decide) (by decide) rfl rfl)
 | ((with_reducible apply gC "min");refine dm (vv rfl) Bm rfl B.min b_min ?_ (by decide) (by decide) rfl rfl)
 | ((with_reducible apply gC "max");refine dm (vw rfl) Bo rfl B.max b_max ?_ (by decide) (by decide) rfl rfl)
 | ((with_reducible apply gD);first | refine Ak (by assumption) (hr.mono (by first | decide | omega)) ?_ rfl (by decide) rfl rfl | refine wS (by assumption) (hr.mono (by first | decide | omega)) hD ?_ rfl (by decide) rfl rfl | refine wR (by assumption) (hr.mono (by first | decide | omega)) pa ?_ rfl (by decide) rfl rfl)
 | ((with_reducible apply gM "split");refine ji (ok:=isS) PySem.F.plainAttrs_str PySem.F.slot_str_split PySem.F.type_str_split xI yR rJ ?_ ?_ rfl rfl rfl rfl rfl)
 | ((with_reducible apply gM "append");refine sN (ok:=isL) PySem.F.plainAttrs_list PySem.F.slot_list_append PySem.F.type_list_append uS Ek oA (gb rfl (Or.inl rfl) (by decide) (by decide)) ?_ rfl rfl rfl rfl rfl)
 | ((with_reducible apply gM "join");refine ji (ok:=isS) PySem.F.plainAttrs_str PySem.F.slot_str_join PySem.F.type_str_join AV Bq rJ ?_ ?_ rfl rfl rfl rfl rfl)
 | ((with_reducible apply gM "startswith");refine ji (ok:=isS) PySem.F.plainAttrs_str PySem.F.slot_str_startswith PySem.F.type_str_startswith lT vm rJ ?_ ?_ rfl rfl rfl rfl rfl)
 | ((with_reducible apply gM "extend");refine sN (ok:=isL) PySem.F.plainAttrs_list PySem.F.slot_list_extend PySem.F.type_list_extend uQ Ej oA (gb rfl (Or.inl rfl) (by decide) (by decide)) ?_ rfl rfl rfl rfl rfl)
 | ((with_reducible apply gM "count");refine ji (ok:=isL) PySem.F.plainAttrs_list PySem.F.slot_list_count PySem.F.type_list_count uR vq oA ?_ ?_ rfl rfl rfl rfl rfl)
 | ((with_reducible apply gM "index");refine ji (ok:=isL) PySem.F.plainAttrs_list PySem.F.slot_list_index PySem.F.type_list_index xJ yT oA ?_ ?_ rfl rfl rfl rfl rfl)
 | ((with_reducible apply gH);first | refine nK _ rfl (Or.inl rfl) (by decide) (by decide) | refine nK _ rfl (Or.inr (Or.inl rfl)) (by decide) (by decide) | refine pJ rfl (by assumption) (by decide) | refine pI rfl (by assumption) (by decide))
 | ((with_reducible apply gE);first | refine Dp ?_ | refine Dk ?_ | refine pK rfl ?_ (λs H C fp=>?_) (λs H C fp=>?_) (by rfl) (rM (by decide)) (λ_=>rfl) #[_,eT rfl,λs H C fp=>ic (mE rfl) rfl (Or.inl rfl) (Or.inr rfl)] | refine uF ?_ ?_ ?_ | refine re_if ?_ ?_ ?_ | refine wT (by assumption) ?_ rfl | refine Ds (key:=.inr "a") xk nQ | refine Dr (ns:=[0,1]) hr.hu (by decide) (by decide) rfl nQ | refine pK rfl ?_ (λs H C fp=>?_) (λs H C fp=>?_) (by rfl) (rM (by decide)) (λ_=>rfl) #[_,oZ (eS (eT rfl) (eS (eT rfl) lF)),λs H C fp=>nP (n:=2) rfl (dR (ic (mE rfl) rfl (Or.inl rfl) (Or.inr rfl)) (dR (ic (mE rfl) rfl (Or.inl rfl) (Or.inr rfl)) kA rfl) rfl) rfl rfl])
 | ((with_reducible apply gY);first | refine wG ?_ ?_ | refine zW ?_ | refine zX)
 | ((with_reducible apply gR);refine Dc _ (λi hi=>by rw[hp] ;exact Av (by simpa using hi)) ?_)
 | ((with_reducible apply gF);refine rs_if ?_ ?_ ?_)
 | ((with_reducible apply gX);first | refine pG nd rfl (Or.inl rfl) rfl ?_ (λs H C fp=>?_) (λs H C fp=>?_) (by rfl) (rM (by decide)) rfl (Or.inl rfl) (λ_=>rfl) (by rw[hp] ;rfl) #[_,oZ (eS (eT rfl) (eS (eT rfl) lF)),λs H C fp=>nP (n:=2) rfl (dR (ic (mE rfl) rfl (Or.inl rfl) (Or.inr rfl)) (dR (ic (mE rfl) rfl (Or.inl rfl) (Or.inr rfl)) kA rfl) rfl) rfl rfl] | refine Db _ nd rfl (Or.inl rfl) ?_ rfl (Or.inl rfl) (by rw[hp] ;rfl))
 | ((with_reducible apply gZ);first | refine zY _ _ _ rfl xM (sJ hr.hu) (gb rfl (Or.inl rfl) (by decide) (by decide)) (gb rfl (Or.inl rfl) (by decide) (by decide)) (gb rfl (Or.inl rfl) (by decide) (by decide)) (gb rfl (Or.inl rfl) (by decide) (by decide)) ?_ rfl rfl | refine wJ PassesOwn.never rfl ?_ ?_ ?_ (λ_=>rfl) | refine zZ ?_ rfl | refine uE (by assumption) (by assumption) mk hr rfl rfl rfl (by decide) ?_ rfl | refine De ?_ ?_ rfl rfl rfl | refine Dd _ _ rfl nd rfl rfl (by decide) rfl rfl ?_ rfl rfl (by rw[hp] ;rfl) (by rw[hp] ;rfl) | refine wJ PassesOwn.leaving rfl ?_ ?_ ?_ (λ_=>rfl) | refine Da (sJ hr.hu) xM (gb rfl (Or.inl rfl) (by decide) (by decide)) ?_ ?_ (λ_=>rfl) rfl rfl rfl | refine wI PassesOwn.never ?_ ?_)
 | refine C9 rfl rfl rfl nd rfl (by decide) (by assumption) (by assumption) rfl (.inl rfl) (by rw[hp] ;rfl) (λE pn W pa=>?_) λae ob cls hD=>have hr:=hr.mark (some (.ref ae));?_
 | refine sM _ nd rfl (Or.inl rfl) (Or.inl rfl) (by rw[hp] ;rfl)
 | refine z9 ?_
 | refine Aa
 | refine rw_or ?_ ?_
 | refine C0 ?_
 | refine Dg ?_
 | refine wL
 | refine wN ?_ ?_ rfl
 | refine Ae rfl B.range ?_ rfl
 | refine zP ?_
 | refine C4 ?_ ?_
 | refine Ad rfl B.range ?_ rfl rfl
 | refine Ag
 | refine Dh rfl ?_ rfl rfl
 | refine Df ?_
 | refine sM _ nd rfl (Or.inr rfl) (Or.inl rfl) (by rw[hp] ;rfl)
 | refine Af rfl B.enumerate ?_ rfl
 | refine wK ?_
 | refine wH ?_))
local macro_rules | `(tactic| specialize $q) => `(tactic| exact bu D $q rfl rfl (by first | exact hb1 λ_ _ _ _ _ _ _=>rfl | exact hb2 λ_ _ _ _ _ _ _ _=>rfl | exact hb3 λ_ _ _ _ _ _ _ _ _=>rfl) λcdv A outer s H E f G hr hp=>have nd:=($q).nd;by and_intros)
set_option hygiene true
def rE:SM:=(aN 1 (gi (mUn (eP "int") (ac 0)) (A2 (mUn (eP "bool") (ac 0)))))
def cz:Fn:=fnM [false] 1 rE
theorem sc_is_whole:FnScope ["thing"] ["thing"] (ah eY):=by ac_rfl
theorem oW (B:Bl mg) (D:Def K mg "is_whole" eY):bf P w K mg base "is_whole" 1 ["thing"] cz :=by specialize sc_is_whole
def rF:SM:=(aN 1 (gi (mUn (eP "tuple") (ac 0)) (gi (af eqX (au bL (aa (ac 0) ak)) (mC (.int 2))) (gi (ay cz (aa (af aw (ac 0) (mC (.int 0))) ak)) (ay cz (aa (af aw (ac 0) (mC (.int 1))) ak))))))
def dY:Fn:=fnM [false] 1 rF
theorem sc_is_point:FnScope ["thing"] ["thing"] (ah fc):=by ac_rfl
theorem oY (B:Bl mg) (D:Def K mg "is_point" fc) (a:bf P w K mg base "is_whole" 1 ["thing"] cz):bf P w K mg base "is_point" 2 ["thing"] dY :=by specialize sc_is_point
def dC:EM:=(ay dY (aa (ac 0) ak))
def fG:EM:=(cE (d8 (ac 0)) (aC 0) fw dC [none])
def n5:SM:=(aN 1 (gi (iV leI leI (mC (.int 1)) (au bL (aa (ac 0) ak)) (mC (.int (24)))) (au vI (aa fG ak))))
def cX:Fn:=fnM [false] 1 n5
theorem sc_are_points:FnScope ["things"] ["things"] (ah dH):=by ac_rfl
theorem lD (B:Bl mg) (D:Def K mg "are_points" dH) (c:bf P w K mg base "is_point" 2 ["thing"] dY) {a:Tok} (b:mg "MOST_POINTS"=some (.int (24) a)):bf P w K mg base "are_points" 3 ["things"] cX :=by specialize sc_are_points
def cN:EM:=(af ltI (af aw (af aw (ac 1) (ac 0)) (mC (.int 0))) (af aw (af aw (ac 1) (af aH (ac 0) (mC (.int 1)))) (mC (.int 0))))
def d7:EM:=(cE (bY fL (aa (af dB (au bL (aa (ac 0) ak)) (mC (.int 1))) ak)) (aC 0) fw cN [none,some 0])
def lb:SM:=(aN 1 (au vI (aa d7 ak)))
def cW:Fn:=fnM [false] 1 lb
theorem sc_has_rising_x:FnScope ["points"] ["points"] (ah cJ):=by ac_rfl
theorem jY (B:Bl mg) (D:Def K mg "has_rising_x" cJ):bf P w K mg base "has_rising_x" 1 ["points"] cW :=by specialize sc_has_rising_x
def El:SM:=(aB (aJ 3 (af rq (af dB (af aw (ac 1) (mC (.int 0))) (af aw (ac 0) (mC (.int 0)))) (af dB (af aw (ac 2) (mC (.int 1))) (af aw (ac 0) (mC (.int 1)))))) (aN 3 (af dB (ac 3) (af rq (af dB (af aw (ac 1) (mC (.int 1))) (af aw (ac 0) (mC (.int 1)))) (af dB (af aw (ac 2) (mC (.int 0))) (af aw (ac 0) (mC (.int 0))))))))
def pc:Fn:=fnM [false,false,false] 4 El
theorem sc_bend:FnScope ["first","second","third","run"] ["first","second","third"] (ah nE):=by ac_rfl
theorem yX (B:Bl mg) (D:Def K mg "bend" nE):bf P w K mg base "bend" 1 ["first","second","third"] pc :=by specialize sc_bend
def gf:EM:=(cn (aa (ac 1) (aa (ac 2) (aa (ac 0) ak))))
def j4:EM:=(cE (bY iP (aa (af aH (ac 3) (mC (.int 1))) (aa (ac 0) ak))) (aC 0) fw gf [none,some 2,some 3])
def gg:SM:=(iH (lV isL yB 1 (aa j4 ak)))
def j5:SM:=(dI (bY iP (aa (af aH (ac 2) (mC (.int 1))) (aa (ac 0) ak))) (aC 3) gg)
def xN:SM:=(aB (aJ 1 (bd ak)) (aB (dI (bY fL (aa (ac 0) ak)) (aC 2) j5) (aN 1 (ac 1))))
def jA:Fn:=fnM [false] 4 xN
theorem sc_threes:FnScope ["many","found","i","j"] ["many"] (ah i8):=by ac_rfl
theorem rY (B:Bl mg) (D:Def K mg "threes" i8):bf P w K mg base "threes" 1 ["many"] jA :=by specialize sc_threes
def bh:EM:=(af aw (ac 1) (ac 0))
def cw:EM:=(cE (d8 (ac 1)) (aC 0) fw bh [none,some 0])
def aV:SM:=(aB (aJ 2 (au lJ (aa cw ak))) (sIf (cB (af eqX (ay pc (aa (af aw (ac 2) (mC (.int 0))) (aa (af aw (ac 2) (mC (.int 1))) (aa (af aw (ac 2) (mC (.int 2))) ak)))) (mC (.int 0)))) (aN 1 (ac 2)) bK))
def kg:SM:=(aB (dI (d8 (ay jA (aa (au bL (aa (ac 0) ak)) ak))) (aC 1) aV) (aN 1 (mC .non)))
def bT:Fn:=fnM [false] 3 kg
theorem sc_first_on_line:FnScope ["points","three","found"] ["points"] (ah cu):=by ac_rfl
theorem jx (B:Bl mg) (D:Def K mg "first_on_line" cu) (b:bf P w K mg base "bend" 1 ["first","second","third"] pc) (a:bf P w K mg base "threes" 1 ["many"] jA):bf P w K mg base "first_on_line" 2 ["points"] bT :=by specialize sc_first_on_line
def iU:SM:=(aB (sIf (cOr (gw (cB (mUn (eP "tuple") (ac 0)))) (gw (cB (ay cX (aa (ac 0) ak))))) (aN 1 (mC (.bl false))) bK) (aN 1 (gi (ay cW (aa (ac 0) ak)) (af isN (ay bT (aa (ac 0) ak)) (mC .non)))))
def fD:Fn:=fnM [false] 1 iU
theorem sc_is_sheet:FnScope ["thing"] ["thing"] (ah eZ):=by ac_rfl
theorem oX (B:Bl mg) (D:Def K mg "is_sheet" eZ) (c:bf P w K mg base "are_points" 3 ["things"] cX) (a:bf P w K mg base "first_on_line" 2 ["points"] bT) (b:bf P w K mg base "has_rising_x" 1 ["points"] cW):bf P w K mg base "is_sheet" 4 ["thing"] fD :=by specialize sc_is_sheet
def c9:EM:=(af yi (ac 0) (mC (.str "0123456789")))
def c8:EM:=(cE (mN (ac 1)) (aC 0) fw c9 [none])
def de:SM:=(aJ 2 (af aH (af cK (ac 2) (mC (.int 10))) (au ql (aa (ac 3) ak))))
def lU:SM:=(aB (aJ 1 (mIf (cB (bR isS d5 (ac 0) (aa (mC (.str "-")) ak))) (mSl slS (ac 0) (aY (mC (.int 1))) aZ) (ac 0))) (aB (sIf (cOr (cB (af eqX (ac 1) (mC (.str "")))) (gw (cB (au vI (aa c8 ak))))) (aN 1 (mC .non)) bK) (aB (sIf (eR (cB (bR isS d5 (ac 1) (aa (mC (.str "0")) ak))) (cB (af neX (ac 0) (mC (.str "0"))))) (aN 1 (mC .non)) bK) (aB (aJ 2 (mC (.int 0))) (aB (dI (mN (ac 1)) (aC 3) de) (aN 1 (mIf (cB (af eqX (ac 1) (ac 0))) (ac 2) (mUn fN (ac 2)))))))))
def bD:Fn:=fnM [false] 4 lU
theorem sc_read_number:FnScope ["word","figures","number","figure"] ["word"] (ah dg):=by ac_rfl
theorem kj (B:Bl mg) (D:Def K mg "read_number" dg) {a:Tok} (b:mg "FIGURES"=some (.str "0123456789" a)):bf P w K mg base "read_number" 1 ["word"] bD :=by specialize sc_read_number
def fh:SM:=(aB (aJ 1 (bR isS cI (ac 0) (aa (mC (.str ",")) ak))) (aB (sIf (cB (af neX (au bL (aa (ac 1) ak)) (mC (.int 2)))) (aN 1 (mC .non)) bK) (aB (aJ 2 (ay bD (aa (af aw (ac 1) (mC (.int 0))) ak))) (aB (aJ 3 (ay bD (aa (af aw (ac 1) (mC (.int 1))) ak))) (aB (sIf (cOr (cB (af isN (ac 2) (mC .non))) (cB (af isN (ac 3) (mC .non)))) (aN 1 (mC .non)) bK) (aN 1 (cn (aa (ac 2) (aa (ac 3) ak)))))))))
def cb:Fn:=fnM [false] 4 fh
theorem sc_read_point:FnScope ["word","parts","x","y"] ["word"] (ah dG):=by ac_rfl
theorem lC (B:Bl mg) (D:Def K mg "read_point" dG) (a:bf P w K mg base "read_number" 1 ["word"] bD):bf P w K mg base "read_point" 2 ["word"] cb :=by specialize sc_read_point
def bv:SM:=(aB (aJ 3 (ay cb (aa (ac 2) ak))) (aB (sIf (cB (af isN (ac 3) (mC .non))) (dh "NoText" "at" (aa (au bL (aa (ac 1) ak)) ak)) bK) (aB (sIf (eR (cB (af gtI (au bL (aa (ac 1) ak)) (mC (.int 0)))) (cB (af leI (af aw (ac 3) (mC (.int 0))) (af aw (af aw (ac 1) (mUn fN (mC (.int 1)))) (mC (.int 0)))))) (dh "NoText" "at" (aa (au bL (aa (ac 1) ak)) ak)) bK) (iH (lV isL l5 1 (aa (ac 3) ak))))))
def bJ:SM:=(aB (sIf (gw (cB (mUn (eP "str") (ac 0)))) (dh "NoText" "at" (aa (mC (.int 0)) ak)) bK) (aB (aJ 1 (bd ak)) (aB (dI (d8 (bR isS cI (ac 0) (aa (mC (.str " ")) ak))) (aC 2) bv) (aB (aJ 4 (au lJ (aa (ac 1) ak))) (aB (sIf (gw (cB (ay fD (aa (ac 4) ak)))) (dh "NoText" "at" (aa (au bL (aa (ac 1) ak)) ak)) bK) (aN 1 (ac 4)))))))
def bj:Fn:=fnM [false] 5 bJ
theorem sc_read_sheet:FnScope ["text","points","word","point","sheet"] ["text"] (ah dF):=by ac_rfl
theorem jX (B:Bl mg) (D:Def K mg "read_sheet" dF) (c:bf P w K mg base "is_sheet" 4 ["thing"] fD) (b:bf P w K mg base "read_point" 2 ["word"] cb) {a:Addr} (e:XName K "NoText" a) (d:ICls K mg "NoText" a (Str.ofString "at")):BC P w K mg base "read_sheet" 5 ["text"] bj :=
 Bf (k:=4) D sc_read_sheet rfl rfl (hb1 λ_ _ _ _ _ _ _=>rfl) λcdv A outer s H E f G W hr hp pa mk =>
  have nd:=sc_read_sheet.nd;by and_intros
def xS:SM:=(aB (sIf (cB (af ltI (ac 1) (au bL (aa (ac 0) ak)))) (aN 2 (af aw (ac 0) (ac 1))) bK) (aN 2 (mC (.int 0))))
def jC:Fn:=fnM [false,false] 2 xS
theorem sc_l_cell:FnScope ["_law_script","_law_k"] ["_law_script","_law_k"] (ah je):=by ac_rfl
theorem sf (B:Bl mg) (D:Def K mg "_law_cell" je):bf P w K mg base "_law_cell" 1 ["_law_script","_law_k"] jC :=by specialize sc_l_cell
def AY:SM:=(aB (aJ 2 (bd (aa (mC (.int 48271)) (aa (mC (.int 69621)) (aa (mC (.int 16807)) (aa (mC (.int 39373)) (aa (mC (.int 30269)) (aa (mC (.int 40014)) (aa (mC (.int 40692)) (aa (mC (.int 50021)) (aa (mC (.int 61687)) (aa (mC (.int 71993)) (aa (mC (.int 83869)) (aa (mC (.int 95561)) (aa (mC (.int 30307)) ak))))))))))))))) (aB (aJ 3 (af aH (af aH (af cK (af aH (af rA (ac 0) (mC (.int 2147483647))) (mC (.int 12345))) (af aw (ac 2) (af rA (ac 1) (mC (.int 13))))) (af cK (mC (.int 977)) (ac 1))) (af cK (mC (.int 7919)) (af vg (ac 1) (mC (.int 13)))))) (aB (aJ 3 (af rA (ac 3) (mC (.int 1000000007)))) (aN 2 (af vg (af rA (af aH (af cK (ac 3) (ac 3)) (af cK (mC (.int 48271)) (ac 1))) (mC (.int 1000000007))) (mC (.int 7)))))))
def kJ:Fn:=fnM [false,false] 4 AY
theorem sc_l_mix:FnScope ["_law_cell_here","_law_k","_law_some","_law_stir"] ["_law_cell_here","_law_k"] (ah ko):=by ac_rfl
theorem vE (B:Bl mg) (D:Def K mg "_law_mix" ko):bf P w K mg base "_law_mix" 1 ["_law_cell_here","_law_k"] kJ :=by specialize sc_l_mix
def iT:SM:=(aJ 3 (af aH (af cK (ac 3) (mC (.int 142857143))) (ay kJ (aa (ac 2) (aa (ac 4) ak)))))
def AZ:SM:=(aB (aJ 2 (ay jC (aa (ac 0) (aa (ac 1) ak)))) (aB (sIf (cB (af eqX (af rA (ac 2) (mC (.int 2))) (mC (.int 0)))) (aN 2 (bd (aa (af vg (au absD (aa (ac 2) ak)) (mC (.int 2))) ak))) bK) (aB (aJ 3 (mC (.int 0))) (aB (dI (bY fL (aa (mC (.int 40)) ak)) (aC 4) iT) (aN 2 (bd (aa (ac 3) ak)))))))
def kK:Fn:=fnM [false,false] 5 AZ
theorem sc_l_box:FnScope ["_law_script","_law_k","_law_cell_here","_law_number_here","_law_j"] ["_law_script","_law_k"] (ah kr):=by ac_rfl
theorem vF (B:Bl mg) (D:Def K mg "_law_box" kr) (a:bf P w K mg base "_law_cell" 1 ["_law_script","_law_k"] jC) (b:bf P w K mg base "_law_mix" 1 ["_law_cell_here","_law_k"] kJ):bf P w K mg base "_law_box" 2 ["_law_script","_law_k"] kK :=by specialize sc_l_box
def xP:SM:=(aB (lP (gz 2 (a9 (aC 2) (a9 (aC 3) fB))) (au yF (aa (af aw (ac 0) (mC (.int 0))) (aa (ac 1) ak)))) (aB (wy kR 0 (mC (.int 0)) (ac 2)) (aN 2 (ac 3))))
def aX:Fn:=fnM [false,false] 4 xP
theorem sc_l_take:FnScope ["_law_box_here","_law_many","_law_left","_law_digit"] ["_law_box_here","_law_many"] (ah i9):=by ac_rfl
theorem rZ (B:Bl mg) (D:Def K mg "_law_take" i9):bf P w K mg base "_law_take" 1 ["_law_box_here","_law_many"] aX :=by specialize sc_l_take
def qg:SM:=(aN 1 (gi (mUn (eP "int") (ac 0)) (A2 (mUn (eP "bool") (ac 0)))))
def eh:Fn:=fnM [false] 1 qg
theorem sc_l_whole:FnScope ["_law_thing"] ["_law_thing"] (ah hJ):=by ac_rfl
theorem lZ (B:Bl mg) (D:Def K mg "_law_whole" hJ):vL P w K mg base "_law_whole" 1 ["_law_thing"] eh :=
 tQ (k:=0) D sc_l_whole rfl rfl (hb1 λ_ _ _ _ _ _ _=>rfl) λcdv A outer s H f G hr hD hp =>
  have nd:=sc_l_whole.nd;by and_intros
def xT:SM:=(aB (lP (gz 2 (a9 (aC 3) (a9 (aC 4) fB))) (ac 0)) (aB (aJ 5 (af rq (af dB (af aw (ac 1) (mC (.int 0))) (ac 3)) (af dB (af aw (ac 2) (mC (.int 1))) (ac 4)))) (aN 3 (af dB (ac 5) (af rq (af dB (af aw (ac 1) (mC (.int 1))) (ac 4)) (af dB (af aw (ac 2) (mC (.int 0))) (ac 3)))))))
def dA:Fn:=fnM [false,false,false] 6 xT
theorem sc_l_bend:FnScope ["_law_one","_law_two","_law_three","_law_x","_law_y","_law_wide"] ["_law_one","_law_two","_law_three"] (ah jg):=by ac_rfl
theorem si (B:Bl mg) (D:Def K mg "_law_bend" jg):bf P w K mg base "_law_bend" 1 ["_law_one","_law_two","_law_three"] dA :=by specialize sc_l_bend
def dq:SM:=(sIf (cB (af eqX (ay dA (aa (ac 4) (aa (ac 3) (aa (ac 1) ak)))) (mC (.int 0)))) (aN 2 (mC (.bl false))) bK)
def j7:SM:=(dI (d8 (mSl slD (ac 0) aZ (aY (ac 2)))) (aC 4) dq)
def xR:SM:=(aB (dI (iX (aa (ac 0) ak)) (gz 2 (a9 (aC 2) (a9 (aC 3) fB))) j7) (aN 2 (mC (.bl true))))
def jB:Fn:=fnM [false,false] 5 xR
theorem sc_l_free:FnScope ["_law_found","_law_point","_law_at","_law_one","_law_two"] ["_law_found","_law_point"] (ah jd):=by ac_rfl
theorem se (B:Bl mg) (D:Def K mg "_law_free" jd) (a:bf P w K mg base "_law_bend" 1 ["_law_one","_law_two","_law_three"] dA):bf P w K mg base "_law_free" 2 ["_law_found","_law_point"] jB :=by specialize sc_l_free
def cL:M3 Bool:=(gw (cB (ay jB (aa (ac 5) (aa (cn (aa (ac 4) (aa (ac 9) ak))) ak)))))
def dL:SM:=(aJ 9 (af aH (ac 9) (mC (.int 1))))
def cM:SM:=(aB (aJ 4 (af aH (af aH (ac 4) (mC (.int 1))) (ay aX (aa (ac 0) (aa (mC (.int 3)) ak))))) (aB (aJ 7 (af dB (ay aX (aa (ac 0) (aa (mC (.int 31)) ak))) (mC (.int 15)))) (aB (aJ 8 (bd (aa (ac 7) (aa (ac 7) (aa (af aH (af cK (ac 6) (ac 6)) (af vg (ac 7) (mC (.int 9)))) (aa (af dB (af vg (ac 7) (mC (.int 9))) (af cK (ac 6) (ac 6))) ak)))))) (aB (aJ 8 (af aH (ac 8) (bd (aa (af cK (af aH (af cK (ac 6) (ac 6)) (mC (.int 30))) (af dB (mC (.int 1)) (af cK (mC (.int 2)) (af rA (ac 6) (mC (.int 2)))))) (aa (af cK (ac 7) (mC (.int 1000))) ak))))) (aB (aJ 9 (af aw (ac 8) (ac 3))) (aB (fX cL dL) (iH (lV isL l5 5 (aa (cn (aa (ac 4) (aa (ac 9) ak))) ak)))))))))
def fj:EM:=(cn (aa (af aH (af cK (af rh (mC (.int 10)) (mC (.int 12))) (ac 0)) (mC (.int 7))) (aa (af cK (af rh (mC (.int 10)) (mC (.int 9))) (ac 1)) ak)))
def dJ:EM:=(cE (d8 (ac 5)) (gz 2 (a9 (aC 0) (a9 (aC 1) fB))) fw fj [none,none])
def mG:SM:=(aB (aJ 2 (af aH (mC (.int 1)) (ay aX (aa (ac 0) (aa (ac 1) ak))))) (aB (aJ 3 (ay aX (aa (ac 0) (aa (mC (.int 6)) ak)))) (aB (aJ 4 (af dB (ay aX (aa (ac 0) (aa (mC (.int 9)) ak))) (mC (.int 4)))) (aB (aJ 5 (bd ak)) (aB (dI (bY fL (aa (ac 2) ak)) (aC 6) cM) (aB (sIf (cB (af eqX (ay aX (aa (ac 0) (aa (mC (.int 6)) ak))) (mC (.int 5)))) (aJ 5 dJ) bK) (aN 2 (au lJ (aa (ac 5) ak)))))))))
def eU:Fn:=fnM [false,false] 10 mG
theorem sc_l_sheet:FnScope ["_law_box_here","_law_most","_law_many","_law_kind","_law_x","_law_found","_law_k","_law_given","_law_some","_law_y"] ["_law_box_here","_law_most"] (ah hU):=by ac_rfl
theorem qG (B:Bl mg) (D:Def K mg "_law_sheet" hU) (b:bf P w K mg base "_law_free" 2 ["_law_found","_law_point"] jB) (a:bf P w K mg base "_law_take" 1 ["_law_box_here","_law_many"] aX):bf P w K mg base "_law_sheet" 3 ["_law_box_here","_law_most"] eU :=by specialize sc_l_sheet
def tu:SM:=(aB (aJ 1 (bd (aa (mC .non) (aa (mC (.bl true)) (aa (mC (.bl false)) (aa (mC (.int 0)) (aa (mUn fN (mC (.int 1))) (aa (mC (.int 1)) (aa (mC (.str "")) (aa (mC (.str "1")) (aa (cn ak) (aa (bd ak) (aa (cn (aa (mC (.int 0)) ak)) (aa (cn (aa (mC (.int 0)) (aa (mC (.int 1)) ak))) (aa (bd (aa (mC (.int 0)) ak)) (aa (En (.inr "a") 1) ak)))))))))))))))) (aB (aJ 1 (af aH (ac 1) (bd (aa (af rh (mC (.int 10)) (mC (.int 29))) (aa (cn (aa (cn (aa (mC (.int 0)) (aa (mC (.int 0)) ak))) ak)) (aa (cn (aa (cn (aa (mC (.int 0)) (aa (mC (.int 1)) ak))) (aa (cn (aa (mC (.int 1)) (aa (mC (.int 2)) ak))) ak))) (aa (mC (.str "0,0")) (aa (cn (aa (mC (.int 0)) (aa (mC (.int 1)) (aa (mC (.int 2)) ak)))) (aa (Em [0,1] 2) ak))))))))) (aN 1 (af aw (ac 1) (ay aX (aa (ac 0) (aa (mC (.int 20)) ak)))))))
def kI:Fn:=fnM [false] 2 tu
theorem sc_l_odd:FnScope ["_law_box_here","_law_some"] ["_law_box_here"] (ah kn):=by ac_rfl
theorem vD (B:Bl mg) (D:Def K mg "_law_odd" kn) (a:bf P w K mg base "_law_take" 1 ["_law_box_here","_law_many"] aX):bf P w K mg base "_law_odd" 2 ["_law_box_here"] kI :=by specialize sc_l_odd
def cD:SM:=(sIf (cB (af eqX (ay dA (aa (af aw (ac 0) (ac 1)) (aa (af aw (ac 0) (ac 2)) (aa (af aw (ac 0) (ac 3)) ak)))) (mC (.int 0)))) (aN 1 (cn (aa (af aw (ac 0) (ac 1)) (aa (af aw (ac 0) (ac 2)) (aa (af aw (ac 0) (ac 3)) ak))))) bK)
def bX:SM:=(dI (bY iP (aa (af aH (ac 2) (mC (.int 1))) (aa (au bL (aa (ac 0) ak)) ak))) (aC 3) cD)
def cC:SM:=(dI (bY iP (aa (af aH (ac 1) (mC (.int 1))) (aa (au bL (aa (ac 0) ak)) ak))) (aC 2) bX)
def xQ:SM:=(aB (dI (bY fL (aa (au bL (aa (ac 0) ak)) ak)) (aC 1) cC) (aN 1 (mC .non)))
def gJ:Fn:=fnM [false] 4 xQ
theorem sc_l_line:FnScope ["_law_points","_law_i","_law_j","_law_k"] ["_law_points"] (ah jc):=by ac_rfl
theorem sd (B:Bl mg) (D:Def K mg "_law_line" jc) (a:bf P w K mg base "_law_bend" 1 ["_law_one","_law_two","_law_three"] dA):bf P w K mg base "_law_line" 2 ["_law_points"] gJ :=by specialize sc_l_line
def qh:SM:=(aB (sIf (cOr (gw (cB (mUn (jt [("NoText",true)]) (ac 0)))) (gw (cB (mUn (jt [("NoText",true)]) (ac 0))))) (aN 1 (mC (.str "other"))) bK) (aB (aJ 1 (bd (aa (mUn (jt [("NoText",false)]) (ac 0)) (aa (mUn (jt [("NoText",false)]) (ac 0)) (aa (mUn (jt [("NoText",false)]) (ac 0)) (aa (mUn (jt [("NoText",false)]) (ac 0)) ak)))))) (aB (aJ 1 (af aH (ac 1) (bd (aa (mUn (jt [("NoText",false)]) (ac 0)) (aa (mUn (jt [("NoText",false)]) (ac 0)) (aa (mUn (jt [("NoText",false)]) (ac 0)) (aa (mUn (jt [("NoText",false)]) (ac 0)) ak))))))) (aB (aJ 1 (af aH (ac 1) (bd (aa (mUn (jt [("NoText",false)]) (ac 0)) (aa (mUn (jt [("NoText",true)]) (ac 0)) ak))))) (aB (sIf (cB (af neX (bR isL Cf (ac 1) (aa (mC (.bl true)) ak)) (mC (.int 1)))) (aN 1 (mC (.str "other"))) bK) (aB (aJ 2 (bd (aa (mC (.str "sheet")) (aa (mC (.str "place")) (aa (mC (.str "number")) (aa (mC (.str "row")) (aa (mC (.str "apart")) (aa (mC (.str "ring")) (aa (mC (.str "many")) (aa (mC (.str "bare")) (aa (mC (.str "line")) (aa (mC (.str "text")) ak)))))))))))) (aN 1 (af aw (ac 2) (bR isL idxD (ac 1) (aa (mC (.bl true)) ak))))))))))
def cG:Fn:=fnM [false] 3 qh
theorem sc_l_marks:FnScope ["_law_e","_law_found","_law_words"] ["_law_e"] (ah hV):=by ac_rfl
theorem l4 (B:Bl mg) (D:Def K mg "_law_marks" hV) {j:Addr} (O:mg "Apart"=some (.ref j)) (N:IsX K (.ref j) [("NoText",false)]) {m:Addr} (Q:mg "Bare"=some (.ref m)) (R:IsX K (.ref m) [("NoText",false)]) {a:Addr} (n:mg "BentError"=some (.ref a)) (o:IsX K (.ref a) [("NoText",true)]) {b:Addr} (p:mg "NoNumber"=some (.ref b)) (q:IsX K (.ref b) [("NoText",false)]) {e:Addr} (x:mg "NoPlace"=some (.ref e)) (u:IsX K (.ref e) [("NoText",false)]) {g:Addr} (I:mg "NoRing"=some (.ref g)) (C:IsX K (.ref g) [("NoText",false)]) {l:Addr} (L:mg "NoRow"=some (.ref l)) (M:IsX K (.ref l) [("NoText",false)]) {d:Addr} (r:mg "NoSheet"=some (.ref d)) (t:IsX K (.ref d) [("NoText",false)]) {h:Addr} (J:mg "NoText"=some (.ref h)) (E:IsX K (.ref h) [("NoText",true)]) {i:Addr} (F:mg "OnLine"=some (.ref i)) (z:IsX K (.ref i) [("NoText",false)]) {c:Addr} (y:mg "TooMany"=some (.ref c)) (v:IsX K (.ref c) [("NoText",false)]) (Z_ValueError:mg "ValueError"=none) (T_ValueError:IsX K (.type "ValueError") [("NoText",true)]):vL P w K mg base "_law_marks" 1 ["_law_e"] cG :=
 tQ (k:=0) D sc_l_marks rfl rfl (hb1 λ_ _ _ _ _ _ _=>rfl) λcdv A outer s H f G hr hD hp =>
  have nd:=sc_l_marks.nd;by and_intros
def eC:M3 Bool:=(cB (af rn (ac 0) (mC (.str "0123456789"))))
def iJ:EM:=(ac 0)
def eB:EM:=(cE (mN (ac 1)) (aC 0) eC iJ [none])
def rD:SM:=(aB (aJ 1 (mSl slS (ac 0) (aY (au lh (aa (af eqX (mSl slS (ac 0) aZ (aY (mC (.int 1)))) (mC (.str "-"))) ak))) aZ)) (aB (sIf (cOr (cB (af eqX (ac 1) (mC (.str "")))) (cB (af neX eB (bd ak)))) (aN 1 (mC .non)) bK) (aB (sIf (cOr (cB (af eqX (ac 0) (mC (.str "-0")))) (eR (cB (af gtI (au mI (aa (ac 1) ak)) (mC (.int 1)))) (cB (af eqX (af ixS (ac 1) (mC (.int 0))) (mC (.str "0")))))) (aN 1 (mC .non)) bK) (aN 1 (au ql (aa (ac 0) ak))))))
def bP:Fn:=fnM [false] 2 rD
theorem sc_l_number:FnScope ["_law_word","_law_figures"] ["_law_word"] (ah eX):=by ac_rfl
theorem oV (B:Bl mg) (D:Def K mg "_law_number" eX):bf P w K mg base "_law_number" 1 ["_law_word"] bP :=by specialize sc_l_number
def d6:SM:=(aB (aJ 4 (bR isS cI (ac 3) (aa (mC (.str ",")) ak))) (aB (sIf (cB (af neX (au bL (aa (ac 4) ak)) (mC (.int 2)))) (aN 1 (ac 2)) bK) (aB (nG 5 6 (aa (ay bP (aa (af aw (ac 4) (mC (.int 0))) ak)) (aa (ay bP (aa (af aw (ac 4) (mC (.int 1))) ak)) ak))) (aB (sIf (cOr (cB (af isN (ac 5) (mC .non))) (cOr (cB (af isN (ac 6) (mC .non))) (eR (cB (af neX (ac 1) (bd ak))) (cB (af leI (ac 5) (af aw (af aw (ac 1) (mUn fN (mC (.int 1)))) (mC (.int 0)))))))) (aN 1 (ac 2)) bK) (iH (lV isL l5 1 (aa (cn (aa (ac 5) (aa (ac 6) ak))) ak)))))))
def la:SM:=(aB (aJ 1 (bd ak)) (aB (dI (iX (aa (bR isS cI (ac 0) (aa (mC (.str " ")) ak)) ak)) (gz 2 (a9 (aC 2) (a9 (aC 3) fB))) d6) (aB (sIf (cOr (cB (af gtI (au bL (aa (ac 1) ak)) (mC (.int 24)))) (cB (af xB (ay gJ (aa (ac 1) ak)) (mC .non)))) (aN 1 (au bL (aa (ac 1) ak))) bK) (aN 1 (au lJ (aa (ac 1) ak))))))
def eV:Fn:=fnM [false] 7 la
theorem sc_l_read:FnScope ["_law_text","_law_found","_law_at","_law_word","_law_parts","_law_x","_law_y"] ["_law_text"] (ah jb):=by ac_rfl
theorem r9 (B:Bl mg) (D:Def K mg "_law_read" jb) (b:bf P w K mg base "_law_line" 2 ["_law_points"] gJ) (a:bf P w K mg base "_law_number" 1 ["_law_word"] bP):bf P w K mg base "_law_read" 3 ["_law_text"] eV :=by specialize sc_l_read
def j6:SM:=(aN 1 (lc bj (aa (ac 0) ak)))
def dn:SM:=(aB (sIf (cOr (cB (af neX (ay cG (aa (ac 1) ak)) (mC (.str "text")))) (gw (cB (ay eh (aa (mUn (iY ["NoText"] "at") (ac 1)) ak))))) (aN 1 (mC .non)) bK) (aN 1 (mUn (iY ["NoText"] "at") (ac 1))))
def jq:SM:=(nF ["NoText"] 1 j6 dn)
def bB:Fn:=fnM [false] 2 jq
theorem sc_l_said:FnScope ["_law_text","_law_e"] ["_law_text"] (ah ja):=by ac_rfl
theorem r0 (B:Bl mg) (D:Def K mg "_law_said" ja) (d:vL P w K mg base "_law_marks" 1 ["_law_e"] cG) (b:vL P w K mg base "_law_whole" 1 ["_law_thing"] eh) (c:BC P w K mg base "read_sheet" 5 ["text"] bj) (h:AtX K "at" ["NoText"]) {a:Addr} (e:mg "BentError"=some (.ref a)) (g:ExX K a ["NoText"]):bf P w K mg base "_law_said" 6 ["_law_text"] bB :=
 Bg (k:=5) D sc_l_said rfl rfl (hb1 λ_ _ _ _ _ _ _=>rfl) λcdv A outer s H E f G hr hp =>
  have nd:=sc_l_said.nd;by and_intros
def qi:SM:=(aB (aJ 3 (bR isS cI (ac 2) (aa (mC (.str " ")) ak))) (aB (aJ 4 (ay aX (aa (ac 0) (aa (au bL (aa (ac 3) ak)) ak)))) (aB (aJ 5 (ay aX (aa (ac 0) (aa (au bL (aa (ac 3) ak)) ak)))) (aB (aJ 6 (ay aX (aa (ac 0) (aa (af aH (au mI (aa (ac 2) ak)) (mC (.int 1))) ak)))) (aB (aJ 7 (af ixS (mC (.str "0123456789,, -\n.a+0")) (ay aX (aa (ac 0) (aa (mC (.int 19)) ak))))) (aB (aJ 8 (ay aX (aa (ac 0) (aa (mC (.int 9)) ak)))) (aB (sIf (cB (af ltI (ac 8) (mC (.int 3)))) (aN 3 (af aH (af aH (mSl slS (ac 2) aZ (aY (ac 6))) (af aw (bd (aa (ac 7) (aa (mC (.str "")) (aa (ac 7) ak)))) (ac 8))) (mSl slS (ac 2) (aY (af aH (ac 6) (au lh (aa (af gtI (ac 8) (mC (.int 0))) ak)))) aZ))) bK) (aB (nG 9 10 (aa (af aw (ac 1) (mC (.int 0))) (aa (af aw (ac 1) (mUn fN (mC (.int 1)))) ak))) (aB (aJ 11 (af aH (af aH (au lK (aa (af dB (af cK (mC (.int 2)) (af aw (ac 10) (mC (.int 0)))) (af aw (ac 9) (mC (.int 0)))) ak)) (mC (.str ","))) (au lK (aa (af dB (af cK (mC (.int 2)) (af aw (ac 10) (mC (.int 1)))) (af aw (ac 9) (mC (.int 1)))) ak)))) (aB (aJ 12 (au A3 (aa (ac 3) ak))) (aB (lP (gz 2 (a9 (eG 12 4) (a9 (eG 12 5) fB))) (cn (aa (af aw (ac 12) (ac 5)) (aa (af aw (ac 12) (ac 4)) ak)))) (aB (aJ 13 (bd (aa (af aH (mSl slD (ac 3) aZ (aY (ac 4))) (mSl slD (ac 3) (aY (af aH (ac 4) (mC (.int 1)))) aZ)) (aa (af aH (af aH (mSl slD (ac 3) aZ (aY (ac 4))) (bd (aa (af aw (ac 3) (ac 4)) ak))) (mSl slD (ac 3) (aY (ac 4)) aZ)) (aa (ac 12) (aa (af aH (ac 3) (bd (aa (ac 11) ak))) ak)))))) (aB (aJ 13 (af aH (ac 13) (bd (aa (af aH (af aH (mSl slD (ac 3) aZ (aY (ac 4))) (bd (aa (mC (.str "00,1")) ak))) (mSl slD (ac 3) (aY (ac 4)) aZ)) (aa (af aH (af aH (mSl slD (ac 3) aZ (aY (ac 4))) (bd (aa (mC (.str "1,-0")) ak))) (mSl slD (ac 3) (aY (af aH (ac 4) (mC (.int 1)))) aZ)) ak))))) (aN 3 (bR isS eO (mC (.str " ")) (aa (af aw (ac 13) (af dB (ac 8) (mC (.int 3)))) ak))))))))))))))))
def dz:Fn:=fnM [false,false,false] 14 qi
theorem sc_l_bent:FnScope ["_law_box_here","_law_sheet_here","_law_text","_law_words","_law_at","_law_to","_law_where","_law_sign","_law_kind","_law_first","_law_last","_law_far","_law_other","_law_some"] ["_law_box_here","_law_sheet_here","_law_text"] (ah jf):=by ac_rfl
theorem sh (B:Bl mg) (D:Def K mg "_law_bent" jf) (a:bf P w K mg base "_law_take" 1 ["_law_box_here","_law_many"] aX):bf P w K mg base "_law_bent" 2 ["_law_box_here","_law_sheet_here","_law_text"] dz :=by specialize sc_l_bent
def xO:EM:=(af aH (af aH (au lK (aa (ac 0) ak)) (mC (.str ","))) (au lK (aa (af cK (ac 0) (ac 0)) ak)))
def qf:EM:=(cE (bY fL (aa (mC (.int 25)) ak)) (aC 0) fw xO [none])
def jn:EM:=(af aH (af aH (au lK (aa (ac 0) ak)) (mC (.str ","))) (au lK (aa (ac 1) ak)))
def qe:EM:=(cE (d8 (ac 3)) (gz 2 (a9 (aC 0) (a9 (aC 1) fB))) fw jn [none,none])
def gh:SM:=(sIf (cB (af neX (au fZ (aa (ay bB (aa (ac 5) ak)) ak)) (au fZ (aa (ay eV (aa (ac 5) ak)) ak)))) (aN 1 (mC (.bl false))) bK)
def jp:SM:=(aB (aJ 2 (ay kK (aa (ac 0) (aa (ac 1) ak)))) (aB (aJ 3 (ay eU (aa (ac 2) (aa (mC (.int 6)) ak)))) (aB (aJ 4 (bR isS eO (mC (.str " ")) (aa qe ak))) (aB (dI (d8 (bd (aa (ac 4) (aa (mC (.str "")) (aa (af aH (ac 4) (mC (.str " "))) (aa (ay dz (aa (ac 2) (aa (ac 3) (aa (ac 4) ak)))) (aa (ay dz (aa (ac 2) (aa (ac 3) (aa (ac 4) ak)))) ak))))))) (aC 5) gh) (aB (aJ 6 (ay kI (aa (ac 2) ak))) (sIf (cOr (eR (gw (cB (mUn (eP "str") (ac 6)))) (cB (af neX (au fZ (aa (ay bB (aa (ac 6) ak)) ak)) (mC (.str "0"))))) (cB (af neX (au fZ (aa (ay bB (aa (bd (aa (ac 4) ak)) ak)) ak)) (mC (.str "0"))))) (aN 1 (mC (.bl false))) bK))))))
def BZ:SM:=(aB (sIf (cB (af neX (ay bB (aa (bR isS eO (mC (.str " ")) (aa qf ak)) ak)) (mC (.int 25)))) (aN 1 (mC (.bl false))) bK) (aB (dI (bY fL (aa (au BY (aa (mC (.int 1)) (aa (au BW (aa (au bL (aa (ac 0) ak)) (aa (mC (.int 6)) ak))) ak))) ak)) (aC 1) jp) (aN 1 (mC (.bl true)))))
def Ci:Fn:=fnM [false] 7 BZ
theorem sc_law:FnScope ["_law_script","_law_k","_law_box_here","_law_sheet_here","_law_text","_law_some","_law_odd_here"] ["_law_script"] (ah fW):=by ac_rfl
theorem Be {f:Addr} {fd:FuncData} (B:Bl mg) (D:Fun K "law" "law" fW f fd) (b:bf P w K mg base "_law_bent" 2 ["_law_box_here","_law_sheet_here","_law_text"] dz) (e:bf P w K mg base "_law_box" 2 ["_law_script","_law_k"] kK) (g:bf P w K mg base "_law_odd" 2 ["_law_box_here"] kI) (c:bf P w K mg base "_law_read" 3 ["_law_text"] eV) (d:bf P w K mg base "_law_said" 6 ["_law_text"] bB) (a:bf P w K mg base "_law_sheet" 3 ["_law_box_here","_law_most"] eU) (S_sys:sB K):FnOk P w K mg base CX0 7 f fd ["_law_script"] (qR K Ci) :=
 EK (k:=6) D sc_law rfl rfl λcdv A outer s H E f G hr hp =>
  have nd:=sc_law.nd;by and_intros
end
theorem tH {f e:L3.D->L3.D->Option (L3.D×Fl)} {ma mb mc:EM} {ra rb rc:R3} {Z Z1 Z2 Z3:Sto} {da db a c d:L3.D} {fl b:Fl} (h1:ma Z=some (.ok ra,Z1)) (h2:mb Z1=some (.ok rb,Z2)) (h3:der ra Z2=some (.ok da,Z2)) (g:der rb Z2=some (.ok db,Z2)) (i:f da db=some (.bl true,fl)) (h6:mc Z2=some (.ok rc,Z3)) (j:der rb Z3=some (.ok a,Z3)) (k:der rc Z3=some (.ok c,Z3)) (h:e a c=some (d,b)):iV f e ma mb mc Z=some (.ok (.val d b),Z3):=by
 simp only[iV,ai,h1,h2,h3,g,i,bc,Option.bind_some,asB,FQ,if_true,h6,j,k,h]
theorem bq {xs:List L3.D} {k:Int} {d:L3.D} (h:L2.atI xs k=some d):aw (.tup xs) (.int k)=#v[d]:=by
 show orD ixD tM (.tup xs) (.int k)=_
 simp[orD,ixD,h]
theorem bM {xs:List L3.D} {k:Int} {d:L3.D} (h:L2.atI xs k=some d):aw (.lst xs) (.int k)=#v[d]:=by
 show orD ixD tM (.lst xs) (.int k)=_
 simp[orD,ixD,h]
def Wi (x:Int):Prop:=-(2 ^ 1700) < x/\x < 2 ^ 1700
def Wd (p:Pt):Prop:=Wi p.1/\Wi p.2
theorem fP {x y:Int} (h:Wi x) (k:Wi y):(x - y).natAbs < 2 ^ 1800:=by
 have e:(2:Nat) ^ 1701<=2 ^ 1800:=Nat.pow_le_pow_right (by decide) (by decide)
 have a:(2:Nat) ^ 1701=2 * 2 ^ 1700:=Nat.pow_succ' ..
 have c:((2 ^ 1700:Nat):Int)=(2:Int) ^ 1700:=by norm_cast
 unfold Wi at h k
 rw[<- c] at h k
 generalize (2:Nat) ^ 1700=A at *
 generalize (2:Nat) ^ 1800=B at *
 lia
theorem nY {i j:Int} (h:i.natAbs < 2 ^ 1800) (k:j.natAbs < 2 ^ 1800):rq (.int i) (.int j)=#v[.int (i * j)]:=by
 have e:xG (.int i) (.int j)=#v[.int (i * j)]:=if_pos (FH #[h,k])
 show orD cK xG _ _=_
 unfold orD
 cases q:cK (.int i) (.int j) with
 | none=>exact e
 | some r =>
  have q:(if _ then some ((.int (i * j),.z):L3.D×Fl) else none)=some r:=q
  by_cases z:decide ((-(2 ^ 64) < i/\i < 2 ^ 64)\/(-(2 ^ 64) < j/\j < 2 ^ 64))=true
  .rw[if_pos z] at q;cases q;rfl
  .rw[if_neg z] at q;cases q
theorem xH {i j:Int} (h:-18446744073709551616 < i/\i < 18446744073709551616):rq (.int i) (.int j)=#v[.int (i * j)]:=by
 have e:=iI (j:=j) h
 show orD cK xG _ _=_
 unfold orD
 rw[e]
theorem mq (p q r:Int×Int) (a:Wd p) (c:Wd q) (b:Wd r):pc [(Pd p,.z),(Pd q,.z),(Pd r,.z)]=some (.ok (.int (aW p q r),.z),[(Pd p,.z),(Pd q,.z),(Pd r,.z)]):=by
 have d:=nY (fP c.1 a.1) (fP b.2 a.2)
 have e:=nY (fP c.2 a.2) (fP b.1 a.1)
 apply aT (Z:=[#v[Pd p],#v[Pd q],#v[Pd r],none]) rfl rfl
 .apply am
  .exists d
  .exists e
 .rfl
set_option tactic.hygienic true in
theorem vX {n i j:Nat} (xs:List L3.D) (k:n<=25) (l:j < n) (elt:EM) (he:∀ (a b c:L3.D),elt [#v[c],#v[a],#v[b]]=some (.ok (.val (.tup [a,b,c]) .z),[#v[c],#v[a],#v[b]])) :
  cE (bY iP (aa (af aH (ac 3) (mC (.int 1))) (aa (ac 0) ak))) (aC 0) fw elt [none,some 2,some 3] [#v[.int n],some (.lst xs,.u),#v[.int i],#v[.int j]]=some (.ok (.val (.lst ((lQ i j (n - (j+1))).map Td)) .u),[#v[.int n],some (.lst xs,.u),#v[.int i],#v[.int j]]):=by
 obtain ⟨Y',e,a,rfl⟩:=gr (bnd:=aC 0) (c:=fw) (elt:=elt) (λY=>∃ a,Y=[a,#v[.int i],#v[.int j]]) (λ_=>true) (λd=>.tup [.int i,.int j,d]) (ds:=bo ((j:Int)+1) (n - (j+1))) (Y:=[none,#v[.int i],#v[.int j]]) #[none,rfl] (by
  rintro d hd Y ⟨a,rfl⟩
  exact #[[#v[d],#v[.int i],#v[.int j]],_,rfl,rfl,(λh=>by cases h),λ_=>#[_,_,(.tup [.int i,.int j,d],.z),_,he _ _ _,rfl,rfl,_,rfl]])
 have g:((bo ((j:Int)+1) (n - (j+1))).filter λ_=>true).map (λd=>L3.D.tup [.int i,.int j,d])=(lQ i j (n - (j+1))).map Td:=by
  rw[F5.mpr (λ_ _=>rfl)]
  simp[bo,lQ,Function.comp_def]
 rw[g] at e
 have f:iP [.int ((j:Int)+1),.int n]=some (bo ((j:Int)+1) (n - (j+1))):=ku (by lia) (by lia) (by lia)
 exact cO (rs:=[]) (by (repeat' (first | with_reducible apply gm (h3:=f) | infer_instance | eq_refl))) e (by rw[dl];lia) rfl
theorem EN {A B:List L3.D} (h:A.length+B.length<=16777216):yB (.lst A) [.lst B]=some (.lst (A++B),.non):=by simp[yB,h]
theorem su {A:List L3.D} {d:L3.D} (h:A.length < 16777216):l5 (.lst A) [d]=some (.lst (A++[d]),.non):=by simp[l5,h]
theorem Bu {A B:List L3.D} (h:A.length+B.length<=16777216):aH (.lst A) (.lst B)=some (.lst (A++B),.u):=by simp[orD,dZ,Bt,E2,E3,h]
set_option tactic.hygienic true in
theorem uo {n:Nat} (h:n<=25) {b1 b2:SM} (h2:b2=dI (bY iP (aa (af aH (ac 2) (mC (.int 1))) (aa (ac 0) ak))) (aC 3) b1)
  (h1:∀ (i j:Nat) (xs:List L3.D),j < n->xs.length<=20000->b1 [#v[.int n],some (.lst xs,.u),#v[.int i],#v[.int j]]=some (.ok .nx,[#v[.int n],some (.lst (xs++(lQ i j (n - (j+1))).map Td),.u),#v[.int i],#v[.int j]])) :
  ∃ v2 I,dI (bY fL (aa (ac 0) ak)) (aC 2) b2 [#v[.int n],some (.lst [],.u),none,none]=some (.ok .nx,[#v[.int n],some (.lst ((po n).map Td),.u),v2,I]):=by
 have inner:∀ (i:Nat) (xs:List Tri) (I:Option (L3.D×Fl)),i < n->xs.length<=15625->∃ a,b2 [#v[.int n],some (.lst (xs.map Td),.u),#v[.int i],I]=some (.ok .nx,[#v[.int n],some (.lst ((xs++jI n i (n - (i+1))).map Td),.u),#v[.int i],a]):=by
  intro i xs I hi l
  obtain ⟨Z',e,a,rfl⟩:=cT (bnd:=aC 3) (b:=b1) (λm Z=>∃ I,Z=[#v[.int n],some (.lst ((xs++jI n i m).map Td),.u),#v[.int i],I]) (ds:=bo ((i:Int)+1) (n - (i+1))) (Z:=[#v[.int n],some (.lst (xs.map Td),.u),#v[.int i],I]) (k:=0) #[I,by simp[jI]] (by
   rintro m d Z hd ⟨I,rfl⟩
   obtain ⟨hm,rfl⟩:=cj hd
   have g:((xs++jI n i m).map Td).length<=20000:=by
    have:=qX (n:=n) (i:=i) (m:=m) h (by lia)
    simp only[Ft,FN]
    lia
   have c:=h1 i (i+1+m) ((xs++jI n i m).map Td) (by lia) g
   rw[show ((i+1+m:Nat):Int)=(i:Int)+1+m by lia,<- List.map_append,List.append_assoc,<- mr] at c
   exact #[_,_,by rw[FK];rfl,.inl c,_,by rw[FK]])
  refine #[a,?_]
  rw[dl,FK] at e
  have f:iP [.int ((i:Int)+1),.int n]=some (bo ((i:Int)+1) (n - (i+1))):=ku (by lia) (by lia) (by lia)
  rw[h2]
  apply cS
  ·(repeat' (first | with_reducible apply gm (h3:=f) | infer_instance | eq_refl))
  .rfl
  .exact e
 obtain ⟨Z',e,v2,I,rfl⟩:=cT (bnd:=aC 2) (b:=b2) (λm Z=>∃ v2 I,Z=[#v[.int n],some (.lst ((nI n m).map Td),.u),v2,I]) (ds:=bo 0 n) (Z:=[#v[.int n],some (.lst [],.u),none,none]) (k:=0) #[none,none,rfl] (by
  rintro m d Z hd ⟨v2,I,rfl⟩
  obtain ⟨hm,rfl⟩:=cj hd
  rw[FK,Int.zero_add]
  obtain ⟨a,e⟩:=inner m (nI n m) I hm (qY h (by lia))
  rw[<- mw] at e
  exact #[_,_,rfl,.inl e,_,_,rfl])
 rw[dl,FK] at e
 have f:fL [.int (n:Int)]=some (bo 0 n):=ib (by lia) (by lia)
 refine #[v2,I,?_]
 apply cS
 ·(repeat' (first | with_reducible apply gm (h3:=f) | infer_instance | eq_refl))
 .rfl
 .exact e
set_option tactic.hygienic true in
theorem kU (n:Nat) (d:n<=25):jA [(.int n,.z)]=some (.ok (.lst ((po n).map Td),.u),[(.int n,.z)]):=by
 obtain ⟨v2,h,e⟩:=uo (n:=n) d (b1:=gg) (b2:=j5) rfl (by
  intro i j xs f g
  have c:=vX (n:=n) (i:=i) (j:=j) xs d f gf (λa b c=>by unfold gf;(nofun))
  have hl:xs.length+((lQ i j (n - (j+1))).map Td).length<=16777216:=by
   rw[Ft,pH];lia
  unfold gg j4
  (repeat' (first | with_reducible exact c | infer_instance | exact EN hl | eq_refl)))
 apply aT (Z:=[#v[.int n],none,none,none]) rfl rfl
 .apply am
  .nofun
  .apply am
   .exact e
   .nofun
 .rfl
theorem tj {i j:Int}:neX (.int i) (.int j)=#v[.bl (!decide (i=j))]:=rfl
set_option tactic.hygienic true in
theorem qt {S:List L3.D} {i j k:Int} {p q r:Pt} {v2:Option (L3.D×Fl)} (a1:aw (.tup S) (.int i)=#v[Pd p]) (a2:aw (.tup S) (.int j)=#v[Pd q]) (e:aw (.tup S) (.int k)=#v[Pd r]) (g:Wd p) (l:Wd q) (f:Wd r) (h0:aW p q r≠0):aV [#v[.tup S],#v[.tup [.int i,.int j,.int k]],v2]=some (.ok .nx,[#v[.tup S],#v[.tup [.int i,.int j,.int k]],#v[.tup [Pd p,Pd q,Pd r]]]):=by
 have b:=mq p q r g l f
 have one:∀ (x d:L3.D) (a:Option (L3.D×Fl)),aw (.tup S) x=#v[d]->bh [#v[x],#v[.tup S]]=some (.ok (.val d .z),[#v[x],#v[.tup S]]):=λx d a h=>by unfold bh;(exists h)
 have c:cw [#v[.tup S],#v[.tup [.int i,.int j,.int k]],v2]=some (.ok (.val (.lst [Pd p,Pd q,Pd r]) .u),[#v[.tup S],#v[.tup [.int i,.int j,.int k]],v2]):=by
  refine cO (Z1:=[#v[.tup S],#v[.tup [.int i,.int j,.int k]],v2]) (Z2:=[#v[.tup S],#v[.tup [.int i,.int j,.int k]],v2]) (ds:=[.int i,.int j,.int k]) (rs:=[.pl 1]) (Y:=[#v[.int k],#v[.tup S]]) rfl ?_ (by simp) rfl
  have e1:=one (.int i) _ none a1
  have m:=one (.int j) _ none a2
  have o:=one (.int k) _ none e
  have n:∀ d a,aC 0 d [a,#v[L3.D.tup S]]=some [#v[d],#v[.tup S]]:=λ_ _=>rfl
  have cs:qE [none,some 0] (aO cQ (us [#v[L3.D.tup S],#v[.tup [.int i,.int j,.int k]],v2] (pls [R3.pl 1])) [#v[.tup S],#v[.tup [.int i,.int j,.int k]],v2])=[none,#v[.tup S]]:=rfl
  rw[cs]
  simp only[cg,n,fw,ai,bb,if_true,e1,m,o,eI,nol]
 unfold aV
 apply am
 ·(repeat' (first | with_reducible exact c | infer_instance | eq_refl))
 .apply bE
  .nomatch [b]
  .exact FI h0
  .rfl
theorem zU (ps:List Pt) (hl:ps.length<=24) (h:∀ p∈ps,Wd p) (i:NoLine ps):bT [(Shd ps,.z)]=some (.ok (.non,.z),[(Shd ps,.z)]):=by
 have a:=kU ps.length (by lia)
 rw[show (ps.length:Int)=((ps.map Pd).length:Int) by rw[Ft]] at a
 obtain ⟨Z',e,v1,v2,rfl⟩:=cT (bnd:=aC 1) (b:=aV) (λ_ Z=>∃ v1 v2,Z=[#v[Shd ps],v1,v2]) (ds:=(po ps.length).map Td) (Z:=[#v[Shd ps],none,none]) (k:=0) #[none,none,rfl] (by
  rintro m d Z hd ⟨v1,v2,rfl⟩
  rw[Fz,Fh] at hd
  obtain ⟨t,a,rfl⟩:=hd
  obtain ⟨j,l,n⟩:=qb (Fv a)
  have f:ps[t.1]?=some (ps[t.1]'(by lia)):=Fo _
  have c:ps[t.2.1]?=some (ps[t.2.1]'(by lia)):=Fo _
  have g:ps[t.2.2]?=some (ps[t.2.2]'(by lia)):=Fo _
  have b:=qt (v2:=v2) (bq (i5 f)) (bq (i5 c)) (bq (i5 g)) (h _ (Fv f)) (h _ (Fv c)) (h _ (Fv g)) (i _ _ _ _ _ _ j l f c g)
  exact #[[#v[Shd ps],#v[Td t],v2],_,rfl,.inl b,_,_,rfl])
 apply aT (Z:=[#v[Shd ps],none,none]) rfl rfl
 .apply am
  .apply cS
   .nomatch [a]
   .rfl
   .exact e
  .nofun
 .rfl
theorem ee (c:Int) (m:Int) (h:0 < m):0<=c % m/\c % m < m:=#[Int.emod_nonneg _ (by lia),Int.emod_lt_of_pos _ h]
theorem dj (n m:Int) (h:0 < m/\m < 1073741824):aX [(.lst [.int n],.u),(.int m,.z)]=some (.ok (.int (n % m),.z),[(.lst [.int (n / m)],.u),(.int m,.z)]):=by
 have hd:yF [.int n,.int m]=#v[.tup [.int (n / m),.int (n % m)]]:=by simp[c2,qm,h]
 apply aT (Z:=[some (.lst [.int n],.u),#v[.int m],none,none]) rfl rfl
 .apply am
  .exists hd
  .apply am
   .nofun
   .nofun
 .rfl
theorem wF (p q r:Int×Int) (h1:-18446744073709551616 < q.1 - p.1/\q.1 - p.1 < 18446744073709551616) (h2:-18446744073709551616 < q.2 - p.2/\q.2 - p.2 < 18446744073709551616):dA [(Pd p,.z),(Pd q,.z),(Pd r,.z)]=some (.ok (.int (aW p q r),.z),[(Pd p,.z),(Pd q,.z),(Pd r,.z)]):=by
 apply aT (Z:=[#v[Pd p],#v[Pd q],#v[Pd r],none,none,none]) rfl rfl
 .apply am
  .nofun
  apply am
  .exists xH h1
  .exists xH h2
 .rfl
theorem uD (p q r:Int×Int) (a:Wd p) (c:Wd q) (b:Wd r):dA [(Pd p,.z),(Pd q,.z),(Pd r,.z)]=some (.ok (.int (aW p q r),.z),[(Pd p,.z),(Pd q,.z),(Pd r,.z)]):=by
 have d:=nY (fP c.1 a.1) (fP b.2 a.2)
 have e:=nY (fP c.2 a.2) (fP b.1 a.1)
 apply aT (Z:=[#v[Pd p],#v[Pd q],#v[Pd r],none,none,none]) rfl rfl
 .apply am
  .nofun
  apply am
  .exists d
  .exists e
 .rfl
theorem wE (ns:List Int) (k:Nat):∃ n:Int,jC [(.fls (ns.map .int),.z),(.int k,.z)]=some (.ok (.int n,.z),[(.fls (ns.map .int),.z),(.int k,.z)]):=by
 by_cases h:k < ns.length
 .refine #[ns[k],?_]
  have a:aw (.fls (ns.map .int)) (.int (k:Int))=#v[.int ns[k]]:=by
   have:L2.atI (ns.map L3.D.int) (k:Int)=some (.int ns[k]):=ue (by simp[h])
   simp[orD,ixD,this]
  have b:(k:Int) < ((ns.map L3.D.int).length:Int):=by simp;lia
  generalize (k:Int)=kk at *
  apply aT (Z:=[#v[.fls (ns.map .int)],#v[.int kk]]) rfl rfl
  .apply bC
   apply cr
   .nofun
   .exact FH b
   .exists a
  .rfl
 .refine #[0,?_]
  have b:¬ (k:Int) < ((ns.map L3.D.int).length:Int):=by simp;lia
  generalize (k:Int)=kk at *
  apply aT (Z:=[#v[.fls (ns.map .int)],#v[.int kk]]) rfl rfl
  .apply am
   .apply bE
    .nofun
    .exact FI b
    .rfl
   .nofun
  .rfl
theorem zR (c j:Int):∃ n:Int,kJ [(.int c,.z),(.int j,.z)]=some (.ok (.int n,.z),[(.int c,.z),(.int j,.z)]):=by
 have a:=ee c 2147483647 (by decide)
 have b:=ee j 13 (by decide)
 obtain ⟨m,hm⟩:∃ m:Nat,j % 13=m:=#[(j % 13).toNat,by lia]
 have d:m < 13:=by lia
 have e:∃ v:Int,aw (.lst [.int 48271,.int 69621,.int 16807,.int 39373,.int 30269,.int 40014,.int 40692,.int 50021,.int 61687,.int 71993,.int 83869,.int 95561,.int 30307]) (.int (j % 13))=#v[.int v]:=by
  rw[hm]
  clear hm
  match m,d with
  | 0,_=>exact #[_,rfl]
  | 1,_=>exact #[_,rfl]
  | 2,_=>exact #[_,rfl]
  | 3,_=>exact #[_,rfl]
  | 4,_=>exact #[_,rfl]
  | 5,_=>exact #[_,rfl]
  | 6,_=>exact #[_,rfl]
  | 7,_=>exact #[_,rfl]
  | 8,_=>exact #[_,rfl]
  | 9,_=>exact #[_,rfl]
  | 10,_=>exact #[_,rfl]
  | 11,_=>exact #[_,rfl]
  | 12,_=>exact #[_,rfl]
 obtain ⟨v,f⟩:=e
 have c1:-18446744073709551616 < c % 2147483647+12345/\c % 2147483647+12345 < 18446744073709551616:=by lia
 have c2:∀ z:Int,-18446744073709551616 < z % 1000000007/\z % 1000000007 < 18446744073709551616:=λz=>by
  have:=ee z 1000000007 (by decide)
  lia
 apply Exists.intro
 apply aT (Z:=[#v[.int c],#v[.int j],none,none]) rfl rfl
 .apply am
  .nofun
  apply am
  .exists f,iI (by decide),iI c1
  apply am
  .nofun
  .exists iI (by decide),iI (c2 _)
 .rfl
theorem zV (ns:List Int) (k:Nat):∃ n:Int,kK [(.fls (ns.map .int),.z),(.int k,.z)]=some (.ok (.lst [.int n],.u),[(.fls (ns.map .int),.z),(.int k,.z)]):=by
 obtain ⟨c,a⟩:=wE ns k
 generalize L3.D.fls (ns.map .int)=S at *
 generalize L3.D.int (k:Int)=kk at *
 by_cases h:c % 2=0
 .apply Exists.intro
  apply aT (Z:=[#v[S],#v[kk],none,none,none]) rfl rfl
  .apply am
   .nomatch [a]
   apply bC
   apply cr
   .nofun
   .exact FH h
   .nofun
  .rfl
 .obtain ⟨Z',e,n,v4,rfl⟩:=cT (bnd:=aC 4) (b:=iT) (λ_ Z=>∃ (n:Int) (v4:Option (L3.D×Fl)),Z=[#v[S],#v[kk],#v[.int c],#v[.int n],v4]) (ds:=bo 0 40) (Z:=[#v[S],#v[kk],#v[.int c],#v[.int 0],none]) (k:=0) #[0,none,rfl] (by
   rintro i d Z hd ⟨n,v4,rfl⟩
   obtain ⟨hi,rfl⟩:=cj hd
   obtain ⟨m,hm⟩:=zR c (0+(i:Int))
   generalize (0+(i:Int))=j at *
   exact #[_,[#v[S],#v[kk],#v[.int c],#v[.int (n * 142857143+m)],#v[.int j]],rfl,.inl (by unfold iT;(nomatch [hm],[xF (by decide)])),_,_,rfl])
  refine #[n,?_]
  apply aT (Z:=[#v[S],#v[kk],none,none,none]) rfl rfl
  .apply am
   .nomatch [a]
   apply am
   .apply bE
    .nofun
    .exact FI h
    .rfl
   apply am
   .nofun
   apply am
   .apply cS
    .exact gm (by (nofun)) rfl (ib (n:=40) (by decide) (by decide))
    .rfl
    .exact e
   .nofun
  .rfl
theorem yz {X ρ:L3.D} {f:Fl} {k:L3.D} {p q:L3.D} {b:Int} (a:dA [(p,.z),(q,.z),(ρ,.z)]=some (.ok (.int b,.z),[(p,.z),(q,.z),(ρ,.z)])) :
  dq [some (X,f),#v[ρ],#v[k],#v[q],#v[p]]=some (.ok (if b=0 then .rt (.bl false) .z else .nx),[some (X,f),#v[ρ],#v[k],#v[q],#v[p]]):=by
 by_cases h:b=0
 .rw[if_pos h]
  apply cr
  .nomatch [a]
  .exact FH h
  .nofun
 .rw[if_neg h]
  apply bE
  .nomatch [a]
  .exact FI h
  .rfl
theorem wD (ps:List Pt) (z:Pt) (A:∀ p∈ps,Small p) (hl:ps.length<=24):∃ b:Bool,jB [(.lst (ps.map Pd),.u),(Pd z,.z)]=some (.ok (.bl b,.z),[(.lst (ps.map Pd),.u),(Pd z,.z)])/\(b=true->zh ps z)/\(b=false->∃ (i j:Nat) (p q:Pt),i < j/\ps[i]?=some p/\ps[j]?=some q/\aW p q z=0):=by
 have inner:∀ (i:Nat) (q:Pt) (v4:Option (L3.D×Fl)),ps[i]?=some q->∃ a,bZ (aC 4) dq ((ps.take i).map Pd) [some (.lst (ps.map Pd),.l),#v[Pd z],#v[.int i],#v[Pd q],v4]=some (.ok .nx,[some (.lst (ps.map Pd),.l),#v[Pd z],#v[.int i],#v[Pd q],a])/\(∀ j p,j < i->ps[j]?=some p->aW p q z≠0) \/
   bZ (aC 4) dq ((ps.take i).map Pd) [some (.lst (ps.map Pd),.l),#v[Pd z],#v[.int i],#v[Pd q],v4]=some (.ok (.rt (.bl false) .z),[some (.lst (ps.map Pd),.l),#v[Pd z],#v[.int i],#v[Pd q],a])/\∃ j p,j < i/\ps[j]?=some p/\aW p q z=0:=by
  intro i q v4 o
  have hi:i < ps.length:=(Fu.mp o).1
  obtain ⟨Z',h⟩:=kC (bnd:=aC 4) (b:=dq) (λm Z=>∃ v4,Z=[some (.lst (ps.map Pd),.l),#v[Pd z],#v[.int i],#v[Pd q],v4]/\∀ j p,j < m->ps[j]?=some p->aW p q z≠0)
   (λm r f Z=>r=.bl false/\f=.z/\∃ v4,Z=[some (.lst (ps.map Pd),.l),#v[Pd z],#v[.int i],#v[Pd q],v4]/\∃ p,ps[m]?=some p/\aW p q z=0)
   (ds:=(ps.take i).map Pd) (Z:=[some (.lst (ps.map Pd),.l),#v[Pd z],#v[.int i],#v[Pd q],v4]) (k:=0) #[v4,rfl,λj p h=>absurd h (Nat.not_lt_zero _)] (by
    rintro m d Z hd ⟨v4,rfl,y⟩
    rw[Fz,Fh] at hd
    obtain ⟨p,g,rfl⟩:=hd
    have w:ps[m]?=some p/\m < i:=by
     rw[List.getElem?_take] at g
     split at g
     .exact #[g,by assumption]
     .cases g
    have sm:=Small.sub (A p (Fv w.1)) (A q (Fv o))
    have rb:=wF p q z sm.1 sm.2
    have rb:=yz (X:=.lst (ps.map Pd)) (f:=.l) (k:=.int (i:Int)) rb
    by_cases h0:aW p q z=0
    .rw[if_pos h0] at rb
     exact #[_,_,rfl,.inr #[.bl false,.z,rb,rfl,rfl,_,rfl,p,by simpa using w.1,h0]]
    .rw[if_neg h0] at rb
     refine #[_,_,rfl,.inl #[.inl rb,_,rfl,λj F s v=>?_]]
     by_cases e:j=m
     .subst e;rw[w.1] at v;cases v;exact h0
     .exact y j F (by lia) v)
  rcases h with ⟨e,a,rfl,h⟩ | ⟨m,r,f,hm,e,rfl,rfl,a,rfl,p,g,h0⟩
  .exact #[a,.inl #[e,λj p s=>h j p (by simp;lia)]]
  .refine #[a,.inr #[e,m,p,by simp at hm;lia,by simpa using g,h0]]
 obtain ⟨Z',h⟩:=kC (bnd:=gz 2 (a9 (aC 2) (a9 (aC 3) fB))) (b:=j7) (λm Z=>∃ v2 n v4,Z=[some (.lst (ps.map Pd),.l),#v[Pd z],v2,n,v4]/\∀ i j p q,i < j->j < m->ps[i]?=some p->ps[j]?=some q->aW p q z≠0)
   (λm r f Z=>r=.bl false/\f=.z/\∃ v2 n v4,Z=[some (.lst (ps.map Pd),.l),#v[Pd z],v2,n,v4]/\∃ (i j:Nat) (p q:Pt),i < j/\ps[i]?=some p/\ps[j]?=some q/\aW p q z=0)
   (ds:=dX 0 (ps.map Pd)) (Z:=[some (.lst (ps.map Pd),.l),#v[Pd z],none,none,none]) (k:=0) #[_,_,_,rfl,λi j p q _ h=>absurd h (Nat.not_lt_zero _)] (by
    rintro m d Z hd ⟨v2,n,v4,rfl,y⟩
    rw[jV,Fz,Option.map_map,Fh] at hd
    obtain ⟨q,o,rfl⟩:=hd
    have hm:m < ps.length:=(Fu.mp o).1
    obtain ⟨a,h⟩:=inner m q v4 o
    have sl:=Bj (xs:=ps.map Pd) (m:=m) (by simp;lia)
    rw[<- List.map_take] at sl
    have x:slD (.lst (ps.map Pd)) none (some (m:Int))=some (.lst ((ps.take m).map Pd),.u):=by
     show some (L3.D.lst (eE (ps.map Pd) none (some (m:Int))),Fl.u)=_
     rw[sl]
    rcases h with ⟨e,h⟩ | ⟨e,j,p,s,g,h0⟩
    .refine #[_,[some (.lst (ps.map Pd),.l),#v[Pd z],#v[.int m],#v[Pd q],a],by rw[FK];rfl,.inl #[.inl (cS (iy (iE (ag rfl) bG (bF (ag rfl) rfl) rfl x) rfl rfl) rfl e),_,_,_,rfl,λi j p C c s hi t=>?_]]
     by_cases E:j=m
     .subst E;rw[o] at t;cases t;exact h i p c hi
     .exact y i j p C c (by lia) hi t
    .refine #[_,[some (.lst (ps.map Pd),.l),#v[Pd z],#v[.int m],#v[Pd q],a],by rw[FK];rfl,.inr #[.bl false,.z,cS (iy (iE (ag rfl) bG (bF (ag rfl) rfl) rfl x) rfl rfl) rfl e,rfl,rfl,_,_,_,rfl,j,m,p,q,s,g,o,h0]])
 rcases h with ⟨e,v2,n,v4,rfl,h⟩ | ⟨m,r,f,hm,e,rfl,rfl,v2,n,v4,rfl,B⟩
 .refine #[true,?_,λ_ i j p q c hi s=>h i j p q c ?_ hi s,λh=>by cases h]
  .generalize ps.map Pd=P at *
   apply aT (Z:=[some (.lst P,.u),#v[Pd z],none,none,none]) (Z1:=[some (.lst P,.u),#v[Pd z],v2,n,v4]) rfl rfl
   .exact am (yp (is:=[0]) (rs:=[.pl 0]) (Z1:=[some (.lst P,.u),#v[Pd z],none,none,none]) rfl rfl e) (a7 i_c rfl)
   .rfl
  .have:=(Fu.mp s).1
   simp[jU];lia
 .refine #[false,?_,λh=>(by cases h),λ_=>B]
  generalize ps.map Pd=P at *
  apply aT (Z:=[some (.lst P,.u),#v[Pd z],none,none,none]) (Z1:=[some (.lst P,.u),#v[Pd z],v2,n,v4]) rfl rfl
  .exact bC (yp (is:=[0]) (rs:=[.pl 0]) (Z1:=[some (.lst P,.u),#v[Pd z],none,none,none]) rfl rfl e)
  .rfl
theorem sq_le {i:Nat} (h:i < 12):0<=(i:Int) * (i:Int)/\(i:Int) * (i:Int)<=144:=by
 have h1:i * i<=12 * 12:=Nat.mul_le_mul (by lia) (by lia)
 have h2:(i:Int) * (i:Int)=((i * i:Nat):Int):=by simp
 rw[h2];lia
theorem zn {i:Nat} {g kd:Int} (hi:i < 12) (b:-15<=g) (g1:g<=15) (k0:0<=kd) (k1:kd < 6) :
  ∃ y:Int,aw (.lst [.int g,.int g,.int ((i:Int) * i+g / 9),.int (g / 9 - (i:Int) * i),.int (((i:Int) * i+30) * (1 - 2 * ((i:Int) % 2))),.int (g * 1000)]) (.int kd)=#v[.int y]/\-16000<=y/\y<=16000:=by
 obtain ⟨c,d⟩:=sq_le hi
 obtain ⟨j,rfl⟩:∃ j:Nat,kd=(j:Int):=#[kd.toNat,by lia]
 have a:j < 6:=by lia
 generalize (i:Int) * (i:Int)=qq at *
 have hm:(qq+30) * (1 - 2 * ((i:Int) % 2))<=16000/\-16000<=(qq+30) * (1 - 2 * ((i:Int) % 2)):=by
  rcases Int.emod_two_eq (i:Int) with e | e
  .rw[e];simp;lia
  .rw[e];simp;lia
 generalize (qq+30) * (1 - 2 * ((i:Int) % 2))=zz at *
 match j,a with
 | 0,_=>exact #[_,rfl,by lia,by lia]
 | 1,_=>exact #[_,rfl,by lia,by lia]
 | 2,_=>exact #[_,rfl,by lia,by lia]
 | 3,_=>exact #[_,rfl,by lia,by lia]
 | 4,_=>exact #[_,rfl,by lia,by lia]
 | 5,_=>exact #[_,rfl,by lia,by lia]
abbrev c5 (n most many kd x:Int) (ps:List Pt) (v6 v7 v8 v9:Option (L3.D×Fl)):Sto:=[some (.lst [.int n],.u),#v[.int most],#v[.int many],#v[.int kd],#v[.int x],some (.lst (ps.map Pd),.u),v6,v7,v8,v9]
theorem qV {n most many kd x y0:Int} {ps:List Pt} {v6 v7 v8:Option (L3.D×Fl)} (R:Rising ps) (o:∀ p∈ps,Small p) (hl:ps.length<=12) :
  ∃ y,fX cL dL (c5 n most many kd x ps v6 v7 v8 #v[.int y0])=some (.ok .nx,c5 n most many kd x ps v6 v7 v8 #v[.int y])/\zh ps (x,y)/\y0<=y/\y<=y0+144:=by
 have g:above ps x y0<=144:=by
  have h1:=ze ps x y0
  have h2:ps.length * ps.length<=12 * 12:=Nat.mul_le_mul (by lia) (by lia)
  lia
 obtain ⟨Z',e,y,rfl,hf,h1,h2⟩:=uj (c:=cL) (b:=dL) (λm Z=>∃ y:Int,Z=c5 n most many kd x ps v6 v7 v8 #v[.int y]/\m=above ps x y/\y0<=y/\y+(above ps x y:Int)<=y0+(above ps x y0:Int))
  (λZ=>∃ y:Int,Z=c5 n most many kd x ps v6 v7 v8 #v[.int y]/\zh ps (x,y)/\y0<=y/\y<=y0+144) (Z:=c5 n most many kd x ps v6 v7 v8 #v[.int y0]) #[y0,rfl,rfl,Int.le_refl _,Int.le_refl _] (by
   rintro m Z ⟨y,rfl,rfl,h1,h2⟩
   obtain ⟨b,h,l,hf⟩:=wD ps (x,y) o (by lia)
   have f:cL (c5 n most many kd x ps v6 v7 v8 #v[.int y])=some (.ok (!b),c5 n most many kd x ps v6 v7 v8 #v[.int y]):=by
    unfold cL
    nomatch [h]
   cases b with
   | true=>exact .inl #[_,f,y,rfl,l rfl,h1,by lia]
   | false =>
    obtain ⟨i,j,p,q,d,e1,k,h0⟩:=hf rfl
    have a:=zd R d e1 k h0
    exact .inr #[_,c5 n most many kd x ps v6 v7 v8 #v[.int (y+1)],_,f,.inl (by unfold dL;(nofun)),a,y+1,rfl,rfl,by lia,by lia])
 exact #[y,e,hf,h1,h2]
theorem wA {n most many kd x:Int} {i:Nat} {ps:List Pt} {v7 v8 v9:Option (L3.D×Fl)} (R:Rising ps) (m:∀ p∈ps,Small p) (hl:ps.length<=12) (hi:i < 12) (k0:0<=kd) (k1:kd < 6) :
  ∃ (k d y:Int) (e c a:Option (L3.D×Fl)),cM (c5 n most many kd x ps #v[.int i] v7 v8 v9)=some (.ok .nx,c5 k most many kd (x+1+d) (ps++[(x+1+d,y)]) #v[.int i] e c a)/\0<=d/\d < 3/\zh ps (x+1+d,y)/\-16000<=y/\y<=16144:=by
 have t:=dj
 have v:=ee (n / 3) 31 (by decide)
 have f:=ee n 3 (by decide)
 generalize l:n / 3 % 31 - 15=G at *
 obtain ⟨y0,q,w,s⟩:=zn (i:=i) (g:=G) (kd:=kd) hi (by lia) (by lia) k0 k1
 have h:-18446744073709551616 < (i:Int)/\(i:Int) < 18446744073709551616:=by lia
 have r:-18446744073709551616 < 1 - 2 * ((i:Int) % 2)/\1 - 2 * ((i:Int) % 2) < 18446744073709551616:=by lia
 generalize b:x+1+n % 3=X at *
 obtain ⟨y,o,hf,h1,h2⟩:=qV (n:=n / 3 / 31) (most:=most) (many:=many) (kd:=kd) (x:=X) (y0:=y0) (ps:=ps) (v6:=#v[.int i]) (v7:=#v[.int G]) (v8:=some (.lst [.int G,.int G,.int ((i:Int) * i+G / 9),.int (G / 9 - (i:Int) * i),.int (((i:Int) * i+30) * (1 - 2 * ((i:Int) % 2))),.int (G * 1000)],.u)) R m hl
 refine #[n / 3 / 31,n % 3,y,#v[.int G],some (.lst [.int G,.int G,.int ((i:Int) * i+G / 9),.int (G / 9 - (i:Int) * i),.int (((i:Int) * i+30) * (1 - 2 * ((i:Int) % 2))),.int (G * 1000)],.u),#v[.int y],?_,f.1,f.2,by rw[b];exact hf,by lia,by lia]
 rw[b]
 have j:(ps.map Pd).length < 16777216:=by simp;lia
 have ha:=su (d:=Pd (X,y)) j
 rw[show ps.map Pd++[Pd (X,y)]=(ps++[(X,y)]).map Pd by simp] at ha
 clear hi
 generalize (i:Int)=zi at *
 unfold cM
 apply am (Z1:=c5 (n / 3) most many kd X ps #v[.int zi] v7 v8 v9)
 .rw[<- b]
  nomatch [(t _ _ (by decide))]
 apply am (Z1:=c5 (n / 3 / 31) most many kd X ps #v[.int zi] #v[.int G] v8 v9)
 .rw[<- l]
  nomatch [(t _ _ (by decide))]
 apply am (Z1:=c5 (n / 3 / 31) most many kd X ps #v[.int zi] #v[.int G] (some (.lst [.int G,.int G,.int (zi * zi+G / 9),.int (G / 9 - zi * zi)],.u)) v9)
 .exists iI h
 apply am (Z1:=c5 (n / 3 / 31) most many kd X ps #v[.int zi] #v[.int G] (some (.lst [.int G,.int G,.int (zi * zi+G / 9),.int (G / 9 - zi * zi),.int ((zi * zi+30) * (1 - 2 * (zi % 2))),.int (G * 1000)],.u)) v9)
 .exists iI h,iI (by decide),xF r,xF (by decide)
 apply am (Z1:=c5 (n / 3 / 31) most many kd X ps #v[.int zi] #v[.int G] (some (.lst [.int G,.int G,.int (zi * zi+G / 9),.int (G / 9 - zi * zi),.int ((zi * zi+30) * (1 - 2 * (zi % 2))),.int (G * 1000)],.u)) #v[.int y0])
 .exists q
 apply am
 .exact o
 .exists ha
set_option tactic.hygienic true in
theorem wC {n most many kd x:Int} (hm:0<=many/\many<=12) (k0:0<=kd) (k1:kd < 6) (x0:-4<=x) (x1:x<=4) :
  ∃ (g h:Int) (ps:List Pt) (v6 v7 v8 v9:Option (L3.D×Fl)),dI (bY fL (aa (ac 2) ak)) (aC 6) cM (c5 n most many kd x [] none none none none)=some (.ok .nx,c5 g most many kd h ps v6 v7 v8 v9)/\(ps.length:Int)=many/\Rising ps/\NoLine ps/\(∀ q∈ps,-5<=q.1/\q.1<=100/\-17000<=q.2/\q.2<=17000):=by
 obtain ⟨Z',e,g,h,ps,v6,v7,v8,v9,rfl,hl,c,f,bnd,h1,h2⟩:=cT (bnd:=aC 6) (b:=cM) (λi Z=>∃ (n x:Int) (ps:List Pt) (v6 v7 v8 v9:Option (L3.D×Fl)),Z=c5 n most many kd x ps v6 v7 v8 v9/\ps.length=i/\Rising ps/\NoLine ps/\(∀ q∈ps,q.1<=x/\-5<=q.1/\-17000<=q.2/\q.2<=17000)/\-4<=x/\x<=4+3 * (i:Int))
  (ds:=bo 0 many.toNat) (Z:=c5 n most many kd x [] none none none none) (k:=0) #[n,x,[],none,none,none,none,rfl,rfl,λ_ _ _ _ _ e _=>by simp at e,λ_ _ _ _ _ _ _ _ e _ _=>by simp at e,λ_ e=>by simp at e,by lia,by lia] (by
   rintro i d Z hd ⟨n,x,ps,v6,v7,v8,v9,rfl,hl,c,f,bnd,h1,h2⟩
   obtain ⟨hi,rfl⟩:=cj hd
   have j:∀ q∈ps,Small q:=λq a=>by
    obtain ⟨a1,a2,l,a4⟩:=bnd q a
    exact #[by lia,by lia,by lia,by lia]
   obtain ⟨g,dd,y,r,p,m,e,t,d1,fr,y0,s⟩:=wA (n:=n) (most:=most) (many:=many) (kd:=kd) (x:=x) (i:=i) (ps:=ps) (v7:=v7) (v8:=v8) (v9:=v9) c j (by lia) (by lia) k0 k1
   refine #[c5 n most many kd x ps #v[.int i] v7 v8 v9,_,by rw[Int.zero_add];rfl,.inl e,g,x+1+dd,ps++[(x+1+dd,y)],_,_,_,_,rfl,by simp;lia,c.snoc λq a=>?_,f.snoc fr,λq a=>?_,by lia,by lia]
   .show q.1 < x+1+dd
    have:=(bnd q a).1
    lia
   .rcases Fq.mp a with a | a
    .obtain ⟨a1,a2,l,a4⟩:=bnd q a
     exact #[by lia,by lia,by lia,by lia]
    .have e:q=(x+1+dd,y):=by simpa using a
     subst e
     exact #[Int.le_refl _,by show -5<=x+1+dd;lia,by show -17000<=y;lia,by show y<=17000;lia])
 rw[dl] at hl h2
 have o:fL [.int many]=some (bo 0 many.toNat):=ib (by lia) rfl
 refine #[g,h,ps,v6,v7,v8,v9,?_,by lia,c,f,λq a=>?_]
 .apply cS
  ·(repeat' (first | with_reducible apply gm (h3:=o) | infer_instance | eq_refl))
  .rfl
  .exact e
 .obtain ⟨a1,a2,l,a4⟩:=bnd q a
  exact #[by lia,by lia,by lia,by lia]
abbrev scJ (p:Pt):Pt:=iN 1000000000000 1000000000 7 p
theorem pow12:rh (.int 10) (.int 12)=#v[.int 1000000000000]:=rfl
theorem pow9:rh (.int 10) (.int 9)=#v[.int 1000000000]:=rfl
def zf (p:Pt):Prop:=-(2 ^ 50) < p.1/\p.1 < 2 ^ 50/\-(2 ^ 50) < p.2/\p.2 < 2 ^ 50
theorem uB (ps:List Pt) (hl:ps.length<=24) {n most many kd x:Int} {v6 v7 v8 v9:Option (L3.D×Fl)}:aJ 5 dJ (c5 n most many kd x ps v6 v7 v8 v9)=some (.ok .nx,c5 n most many kd x (ps.map scJ) v6 v7 v8 v9):=by
 obtain ⟨Y',e,a,b,rfl⟩:=eQ (bnd:=gz 2 (a9 (aC 0) (a9 (aC 1) fB))) (c:=fw) (elt:=fj) (λY=>∃ a b,Y=[a,b]) Pd (λ_=>true) (λp=>Pd (scJ p)) (xs:=ps) (Y:=[none,none]) #[none,none,rfl] (by
  rintro p f Y ⟨a,b,rfl⟩
  exact #[[#v[.int p.1],#v[.int p.2]],_,rfl,rfl,(λh=>by cases h),λ_=>#[.val (Pd (scJ p)) .z,[#v[.int p.1],#v[.int p.2]],(Pd (scJ p),.z),_,by unfold fj;(exists pow12,pow9,iI (by decide)),rfl,rfl,_,_,rfl]])
 rw[F5.mpr (λ_ _=>rfl)] at e
 have d:dJ (c5 n most many kd x ps v6 v7 v8 v9)=some (.ok (.val (.lst (ps.map λp=>Pd (scJ p))) .u),c5 n most many kd x ps v6 v7 v8 v9):=cO (rs:=[.pl 5]) (Z1:=c5 n most many kd x ps v6 v7 v8 v9) (Z2:=[some (.lst [.int n],.u),#v[.int most],#v[.int many],#v[.int kd],#v[.int x],some (.lst (ps.map Pd),.l),v6,v7,v8,v9]) rfl e (by simp;lia) rfl
 rw[show (ps.map λp=>Pd (scJ p))=(ps.map scJ).map Pd by simp] at d
 exact bA d rfl (Nat.le_of_ble_eq_true rfl) rfl
theorem uA (n most:Int) (h1:1<=most) (h2:most<=12):∃ (c:Int) (ps:List Pt),eU [(.lst [.int n],.u),(.int most,.z)]=some (.ok (.tup (ps.map Pd),.z),[(.lst [.int c],.u),(.int most,.z)])/\GoodSh ps/\(ps.length:Int)<=most/\∀ p∈ps,zf p:=by
 have t:=dj
 have a0:=ee n most (by lia)
 have b0:=ee (n / most) 6 (by decide)
 have k:=ee (n / most / 6) 9 (by decide)
 obtain ⟨c,j,ps,v6,v7,v8,v9,e,hl,d,g,bnd⟩:=wC (n:=n / most / 6 / 9) (most:=most) (many:=1+n % most) (kd:=n / most % 6) (x:=n / most / 6 % 9 - 4) #[by lia,by lia] b0.1 b0.2 (by lia) (by lia)
 have good:GoodSh ps:=⟨by lia,by lia,λq b=>by
  obtain ⟨a1,a2,h,a4⟩:=bnd q b
  exact ⟨by lia,by lia,by lia,by lia⟩,d,g⟩
 have a:GoodSh (ps.map scJ):=⟨by simpa using good.pos,by simpa using good.most,λq b=>by
  obtain ⟨r,f,rfl⟩:=Fy.mp b
  obtain ⟨a1,a2,h,a4⟩:=bnd r f
  exact ⟨by show -(2 ^ 62) < (1000000000000:Int) * r.1+7;lia,by show (1000000000000:Int) * r.1+7 < 2 ^ 62;lia,by show -(2 ^ 62) < (1000000000:Int) * r.2;lia,by show (1000000000:Int) * r.2 < 2 ^ 62;lia⟩,d.scale (by decide),g.scale (by decide) (by decide)⟩
 have pre:∀ {r:Option (Except L3.D Flw×Sto)},aB (sIf (cB (af eqX (ay aX (aa (ac 0) (aa (mC (.int 6)) ak))) (mC (.int 5)))) (aJ 5 dJ) bK) (aN 2 (au lJ (aa (ac 5) ak))) (c5 c most (1+n % most) (n / most % 6) j ps v6 v7 v8 v9)=r->mG [some (.lst [.int n],.u),#v[.int most],none,none,none,none,none,none,none,none]=r:=by
  intro r f
  apply am (Z1:=[some (.lst [.int (n / most)],.u),#v[.int most],#v[.int (1+n % most)],none,none,none,none,none,none,none])
  .nomatch [(t n most (by lia))]
  apply am (Z1:=[some (.lst [.int (n / most / 6)],.u),#v[.int most],#v[.int (1+n % most)],#v[.int (n / most % 6)],none,none,none,none,none,none])
  .nomatch [(t _ _ (by decide))]
  apply am (Z1:=[some (.lst [.int (n / most / 6 / 9)],.u),#v[.int most],#v[.int (1+n % most)],#v[.int (n / most % 6)],#v[.int (n / most / 6 % 9 - 4)],none,none,none,none,none])
  .nomatch [(t _ _ (by decide))]
  apply am (Z1:=c5 (n / most / 6 / 9) most (1+n % most) (n / most % 6) (n / most / 6 % 9 - 4) [] none none none none)
  .nofun
  exact am e f
 by_cases i:c % 6=5
 .refine ⟨c / 6,ps.map scJ,?_,a,by rw[Ft];omega,λq b=>by
   obtain ⟨r,f,rfl⟩:=Fy.mp b
   obtain ⟨a1,a2,h,a4⟩:=bnd r f
   exact ⟨by show -(2 ^ 50) < (1000000000000:Int) * r.1+7;omega,by show (1000000000000:Int) * r.1+7 < 2 ^ 50;omega,by show -(2 ^ 50) < (1000000000:Int) * r.2;omega,by show (1000000000:Int) * r.2 < 2 ^ 50;omega⟩⟩
  apply aT (Z:=[some (.lst [.int n],.u),#v[.int most],none,none,none,none,none,none,none,none]) rfl rfl
  .apply pre
   apply am
   .apply cr
    .nomatch [(t _ _ (by decide))]
    .exact FH i
    .exact uB ps (by lia)
   .nofun
  .rfl
 .refine ⟨c / 6,ps,?_,good,by omega,λq b=>by
   obtain ⟨a1,a2,h,a4⟩:=bnd q b
   exact ⟨by omega,by omega,by omega,by omega⟩⟩
  apply aT (Z:=[some (.lst [.int n],.u),#v[.int most],none,none,none,none,none,none,none,none]) rfl rfl
  .apply pre
   apply am
   .apply bE
    .nomatch [(t _ _ (by decide))]
    .exact FI i
    .rfl
   .nofun
  .rfl
section
variable {Z Z1 Z2:Sto} {ms:M3 (List R3)} {rs:List R3} {d:L3.D} {fl:Fl} {e:L3.D} {m:EM} {sa sb:SM} {n:Nat}
theorem A9 {F:Fn} {ps qs:List (L3.D×Fl)} (b:F ps=some (.ok (d,fl),qs)) (h1:ms Z=some (.ok rs,Z1)) (h2:prs (frz (fu rs) Z1) rs=some ps) (h3:qs.length=ps.length) (a:back rs ps qs (frz (fu rs) Z1)=Z2):lc F ms Z=some (.ok (.val d fl),Z2):=by
 simp only[lc,ai,h1,h2,b,h3,if_true,a]
theorem tJ {F:Fn} {ps qs:List (L3.D×Fl)} (b:F ps=some (.error e,qs)) (h1:ms Z=some (.ok rs,Z1)) (h2:prs (frz (fu rs) Z1) rs=some ps) (h3:qs.length=ps.length) (a:back rs ps qs (frz (fu rs) Z1)=Z2):lc F ms Z=some (.error e,Z2):=by
 simp only[lc,ai,h1,h2,b,h3,if_true,a]
theorem yl (h:m Z=some (.error e,Z1)):aN n m Z=some (.error e,Z1):=by simp only[aN,ai,h]
theorem ui {mask:List Bool} {ps qs:List (L3.D×Fl)} (h1:ps.length=mask.length) (h0:entry n (List.zipWith uV mask ps)=Z) (h2:sa Z=some (.error e,Z1)) (h3:dM Z1 0 (List.zipWith uV mask ps)=some qs):fnM mask n sa ps=some (.error e,qs):=by
 subst h0;simp only[fnM,h1,if_true,fn0,h2,h3,FQ]
theorem EG {cs:List String} {i:Nat} (h1:sa Z=some (.ok (.rt d fl),Z1)):nF cs i sa sb Z=some (.ok (.rt d fl),Z1):=by
 simp only[nF,h1]
end
theorem ug {α:Type} (b:α->Bool):∀ xs:List α,fK (xs.map λx=>L3.D.bl (b x))=some (xs.map b)
 | []=>rfl
 | x::xs=>by simp[fK,ug b xs]
theorem sy {α:Type} (b:α->Bool) (xs:List α):vI [.lst (xs.map λx=>L3.D.bl (b x))]=#v[.bl (xs.all b)]:=by
 show (fK _).map _=_
 rw[ug]
 simp[List.all_map]
def nox:L3.D->Bool
 | .exc _ _=>false
 | .desk _ _=>false
 | _=>true
def wh:L3.D->Bool
 | .int _=>true
 | _=>false
theorem wh_p {d:L3.D} (h:nox d=true):cz [(d,.z)]=some (.ok (.bl (wh d),.z),[(d,.z)]):=by
 cases d <;> first | exact (FC h).elim | kernel_rfl
theorem yq {f c:L3.D->L3.D->Option (L3.D×Fl)} {ma mb mc:EM} {ra rb:R3} {Z Z1 Z2:Sto} {da db:L3.D} {fl:Fl} (h1:ma Z=some (.ok ra,Z1)) (h2:mb Z1=some (.ok rb,Z2)) (h3:der ra Z2=some (.ok da,Z2)) (a:der rb Z2=some (.ok db,Z2)) (b:f da db=some (.bl false,fl)):iV f c ma mb mc Z=some (.ok (.val (.bl false) .z),Z2):=by
 simp only[iV,ai,h1,h2,h3,a,b,bc,Option.bind_some,asB,FQ,FU,if_false]
 rfl
def okp:L3.D->Bool
 | .exc _ _=>false
 | .desk _ _=>false
 | .tup xs=>xs.all nox && decide (xs.length<=16000)
 | _=>true
def iW:L3.D->Bool
 | .tup [.int _,.int _]=>true
 | _=>false
theorem DC {a b:L3.D}:iW (.tup [a,b])=(wh a && wh b):=by
 cases a <;> cases b <;> rfl
set_option tactic.hygienic true in
theorem q9 {xs:List L3.D} (h:xs.length≠2):iW (.tup xs)=false:=by
 unfold iW
 split
 .rename_i e
  cases e
  exact absurd rfl h
 .rfl
theorem yr {ma mb:EM} {r:R3} {Z Z1:Sto} {x y:Bool} (h1:ma Z=some (.ok r,Z1)) (h2:der r Z1=some (.ok (.bl x),Z1)) (h3:x=true->mb Z1=some (.ok (.val (.bl y) .z),Z1)):gi ma mb Z=some (.ok (.val (.bl (x && y)) .z),Z1):=by
 cases x with
 | false=>exact jw h1 h2 rfl
 | true=>exact iw h1 h2 rfl (h3 rfl)
theorem Co {xs:List L3.D} (h:xs.length=2):∃ a b,xs=[a,b]:=by
 match xs,h with
 | [a,b],_=>exact #[a,b,rfl]
theorem n9 (xs:List L3.D):bL [.tup xs]=#v[.int (xs.length:Int)]:=by simp[Eo,c1]
theorem pt_p {d:L3.D} (h:okp d=true):dY [(d,.z)]=some (.ok (.bl (iW d),.z),[(d,.z)]):=by
 have run:∀ {x:Bool},gi (mUn (eP "tuple") (ac 0)) (gi (af eqX (au bL (aa (ac 0) ak)) (mC (.int 2))) (gi (ay cz (aa (af aw (ac 0) (mC (.int 0))) ak)) (ay cz (aa (af aw (ac 0) (mC (.int 1))) ak)))) [#v[d]]=some (.ok (.val (.bl x) .z),[#v[d]])->dY [(d,.z)]=some (.ok (.bl x,.z),[(d,.z)]):=λe =>
  aT (Z:=[#v[d]]) (Z1:=[#v[d]]) rfl rfl (a7 e rfl) rfl
 by_cases g:∃ xs,d=.tup xs
 .obtain ⟨xs,rfl⟩:=g
  have f:=List.all_eq_true.mp (Bool.and_eq_true_iff.mp (show (xs.all nox && decide (xs.length<=16000))=true from h)).1
  have i:=n9 xs
  have c:eP "tuple" (.tup xs)=#v[.bl true]:=rfl
  have eq:eqX (.int (xs.length:Int)) (.int 2)=#v[.bl (decide ((xs.length:Int)=2))]:=rfl
  by_cases h2:xs.length=2
  .obtain ⟨a,b,rfl⟩:=Co h2
   have j:=wh_p (f a (by simp))
   have k:=wh_p (f b (by simp))
   have sa:aw (.tup [a,b]) (.int 0)=#v[a]:=bq rfl
   have sb:aw (.tup [a,b]) (.int 1)=#v[b]:=bq rfl
   rw[DC]
   refine run ?_
   clear h f h2 run
   generalize L3.D.tup [a,b]=T at *
   exact iw (ft (ag rfl) rfl c) rfl rfl (iw (aq (aD (aj (ag rfl) ao) rfl i) i_c rfl rfl eq) rfl rfl (yr (aE j (aj (aq (ag rfl) i_c rfl rfl sa) ao) rfl rfl rfl) rfl λ_=>aE k (aj (aq (ag rfl) i_c rfl rfl sb) ao) rfl rfl rfl))
  .rw[q9 h2]
   refine run ?_
   clear h f run
   generalize L3.D.tup xs=T at *
   exact iw (ft (ag rfl) rfl c) rfl rfl (jw (aq (aD (aj (ag rfl) ao) rfl i) i_c rfl rfl eq) rfl (FI (by omega)))
 .have e:iW d=false:=by
   unfold iW
   split
   .exact absurd #[_,rfl] g
   .rfl
  have c:eP "tuple" d=#v[.bl false]:=by
   cases d <;> first | exact (FC h).elim | exact absurd #[_,rfl] g | rfl
  rw[e]
  exact run (jw (ft (ag rfl) rfl c) rfl rfl)
theorem zb {xs:List L3.D} (f:∀ d∈xs,okp d=true) (hl:xs.length<=16000):cX [(.tup xs,.z)]=some (.ok (.bl (decide (1<=xs.length/\xs.length<=24) && xs.all iW),.z),[(.tup xs,.z)]):=by
 have g:=n9 xs
 by_cases h1:1<=xs.length
 .by_cases h2:xs.length<=24
  .obtain ⟨Y',e,a,rfl⟩:=gr (bnd:=aC 0) (c:=fw) (elt:=dC) (λY=>∃ a,Y=[a]) (λ_=>true) (λd=>.bl (iW d)) (ds:=xs) (Y:=[none]) #[none,rfl] (by
    rintro d hd Y ⟨a,rfl⟩
    have pt:=pt_p (f d hd)
    exact #[[#v[d]],_,rfl,rfl,(λh=>by cases h),λ_=>#[.val (.bl (iW d)) .z,[#v[d]],(.bl (iW d),.z),[#v[d]],by unfold dC;exact aE pt (aj (ag rfl) ao) rfl rfl rfl,rfl,rfl,_,rfl]])
   rw[F5.mpr λ_ _=>rfl] at e
   have i:=sy iW xs
   have j:fG [#v[.tup xs]]=some (.ok (.val (.lst (xs.map λd=>L3.D.bl (iW d))) .u),[#v[.tup xs]]):=cO (im:=d8 (ac 0)) (ix:=[none]) (Z1:=[#v[.tup xs]]) (Z2:=[#v[.tup xs]]) (ds:=xs) (rs:=[.pl 0]) rfl e (by omega) rfl
   have g1:leI (.int 1) (.int (xs.length:Int))=#v[.bl true]:=by simp[dZ];omega
   have g2:leI (.int (xs.length:Int)) (.int 24)=#v[.bl true]:=by simp[dZ];omega
   rw[FH #[h1,h2],Bool.true_and]
   clear e f
   generalize (xs.map λd=>L3.D.bl (iW d))=out at *
   generalize xs.all iW=b at *
   generalize L3.D.int (xs.length:Int)=N at *
   generalize L3.D.tup xs=T at *
   refine aT (Z:=[#v[T]]) (Z1:=[#v[T]]) rfl rfl (a7 (iw (tH i_c (aD (aj (ag rfl) ao) rfl g) rfl rfl g1 i_c rfl rfl g2) rfl rfl (aD (aj j ao) rfl i)) rfl) rfl
  .have g1:leI (.int 1) (.int (xs.length:Int))=#v[.bl true]:=by simp[dZ];omega
   have g2:leI (.int (xs.length:Int)) (.int 24)=#v[.bl false]:=by simp[dZ];omega
   rw[FI (λh=>h2 h.2),Bool.false_and]
   clear f
   generalize L3.D.int (xs.length:Int)=N at *
   generalize L3.D.tup xs=T at *
   refine aT (Z:=[#v[T]]) (Z1:=[#v[T]]) rfl rfl (a7 (jw (tH i_c (aD (aj (ag rfl) ao) rfl g) rfl rfl g1 i_c rfl rfl g2) rfl rfl) rfl) rfl
 .have g1:leI (.int 1) (.int (xs.length:Int))=#v[.bl false]:=by simp[dZ];omega
  rw[FI (λh=>h1 h.1),Bool.false_and]
  clear f
  generalize L3.D.int (xs.length:Int)=N at *
  generalize L3.D.tup xs=T at *
  refine aT (Z:=[#v[T]]) (Z1:=[#v[T]]) rfl rfl (a7 (jw (yq i_c (aD (aj (ag rfl) ao) rfl g) rfl rfl g1) rfl rfl) rfl) rfl
theorem iz {bnd:L3.D->Sto->Option Sto} {b:SM} (P:Sto->Prop) (hit:Nat->Prop) {ds:List L3.D} {Z:Sto} (h0:P Z)
  (m:∀ i d Z,ds[i]?=some d->P Z->∃ Z1 Z2,bnd d Z=some Z1/\P Z2/\((b Z1=some (.ok .nx,Z2)/\¬ hit i)\/∃ q,b Z1=some (.ok (.rt (.tup q) .z),Z2)/\hit i)) :
  ∃ Z',P Z'/\((bZ bnd b ds Z=some (.ok .nx,Z')/\∀ i,i < ds.length->¬ hit i)\/∃ q,bZ bnd b ds Z=some (.ok (.rt (.tup q) .z),Z')/\∃ i,i < ds.length/\hit i):=by
 obtain ⟨Z',h⟩:=kC (bnd:=bnd) (b:=b) (λk Z=>P Z/\∀ i,i < k->¬ hit i) (λi r f Z=>P Z/\(∃ q,r=.tup q)/\f=.z/\hit i) (ds:=ds) (Z:=Z) (k:=0) #[h0,λi h=>by omega] (by
  rintro i d Z hi ⟨a,g⟩
  rw[FK] at g ⊢
  obtain ⟨Z1,Z2,e1,c,h | ⟨q,n,l⟩⟩:=m i d Z hi a
  .refine #[Z1,Z2,e1,.inl #[.inl h.1,c,λj o=>?_]]
   by_cases z:j=i
   .subst z;exact h.2
   .exact g j (by omega)
  .exact #[Z1,Z2,e1,.inr #[_,_,n,c,#[q,rfl],rfl,l]])
 rcases h with ⟨e,a,g⟩ | ⟨i,r,f,hi,e,a,⟨q,rfl⟩,rfl,l⟩
 .exact #[Z',a,.inl #[e,λi hi=>g i (by omega)]]
 .exact #[Z',a,.inr #[q,e,i,hi,by rwa [FK] at l]]
theorem uT {n i j k:Nat} (h1:i < j) (h2:j < k) (h3:k < n):(i,j,k)∈po n:=by
 refine F6.mpr #[i,List.mem_range.mpr (by lia),F6.mpr #[j - (i+1),List.mem_range.mpr (by lia),Fy.mpr #[k - (j+1),List.mem_range.mpr (by lia),?_]]]
 refine Prod.ext rfl (Prod.ext ?_ ?_) <;> simp <;> lia
def rb (ps:List Pt):L3.D->Bool
 | .int i=>decide ((ps.getD i.toNat (0,0)).1 < (ps.getD (i.toNat+1) (0,0)).1)
 | _=>false
set_option tactic.hygienic true in
theorem wM (ps:List Pt) (h0:0 < ps.length) (h1:ps.length<=24):cW [(Shd ps,.z)]=some (.ok (.bl ((bo 0 (ps.length - 1)).all (rb ps)),.z),[(Shd ps,.z)]):=by
 obtain ⟨Y',e,a,rfl⟩:=gr (bnd:=aC 0) (c:=fw) (elt:=cN) (λY=>∃ a,Y=[a,#v[Shd ps]]) (λ_=>true) (λd=>.bl (rb ps d)) (ds:=bo 0 (ps.length - 1)) (Y:=[none,#v[Shd ps]]) #[none,rfl] (by
  rintro d hd Y ⟨a,rfl⟩
  obtain ⟨i,hi⟩:=List.getElem?_of_mem hd
  obtain ⟨hi,rfl⟩:=cj hi
  have g:ps[i]?=some (ps[i]'(by omega)):=Fo _
  have f:ps[i+1]?=some (ps[i+1]'(by omega)):=Fo _
  have l:rb ps (.int (0+(i:Int)))=decide ((ps[i]'(by omega)).1 < (ps[i+1]'(by omega)).1):=by
   rw[Int.zero_add]
   show decide ((ps.getD (i:Int).toNat (0,0)).1 < (ps.getD ((i:Int).toNat+1) (0,0)).1)=_
   rw[Int.toNat_natCast,List.getD_eq_getElem?_getD,List.getD_eq_getElem?_getD,g,f]
   rfl
  have a1:aw (Shd ps) (.int (0+(i:Int)))=#v[Pd (ps[i]'(by omega))]:=bq (by rw[Int.zero_add];exact i5 g)
  have a2:aw (Shd ps) (.int (0+(i:Int)+1))=#v[Pd (ps[i+1]'(by omega))]:=bq (by rw[Int.zero_add];exact i5 f)
  have hl:ltI (.int (ps[i]'(by omega)).1) (.int (ps[i+1]'(by omega)).1)=#v[.bl (rb ps (.int (0+(i:Int))))]:=by rw[l];simp[dZ]
  generalize rb ps (.int (0+(i:Int)))=c at *
  generalize (0+(i:Int))=j at *
  refine #[[#v[.int j],#v[Shd ps]],_,rfl,rfl,(λh=>by cases h),λ_=>#[.val (.bl c) .z,[#v[.int j],#v[Shd ps]],(.bl c,.z),[#v[.int j],#v[Shd ps]],?_,rfl,rfl,_,rfl]]
  unfold cN
  (exists a1,a2,hl))
 rw[F5.mpr λ_ _=>rfl] at e
 have k:fL [.int (((ps.map Pd).length:Int) - 1)]=some (bo 0 (ps.length - 1)):=ib (by simp;lia) (by simp)
 have n:=sy (rb ps) (bo 0 (ps.length - 1))
 generalize ((bo 0 (ps.length - 1)).map λd=>L3.D.bl (rb ps d))=out at *
 have m:d7 [#v[Shd ps]]=some (.ok (.val (.lst out) .u),[#v[Shd ps]]):=cO (Z1:=[#v[Shd ps]]) (rs:=[]) (by (repeat' (first | with_reducible apply gm (h3:=k) | infer_instance | eq_refl))) e (by rw[dl];lia) rfl
 generalize (bo 0 (ps.length - 1)).all (rb ps)=b at *
 exact aT (Z:=[#v[Shd ps]]) (Z1:=[#v[Shd ps]]) rfl rfl (a7 (aD (aj m ao) rfl n) rfl) rfl
theorem Ac (ps:List Pt):(bo 0 (ps.length - 1)).all (rb ps)=true ↔ Rising ps:=by
 rw[List.all_eq_true]
 constructor
 .intro h
  have st:∀ (i:Nat) (p q:Pt),ps[i]?=some p->ps[i+1]?=some q->p.1 < q.1:=λi p q b a=>by
   have hi:=(Fu.mp a).1
   have:=h (.int (0+(i:Int))) (by unfold bo;exact Fy.mpr #[i,List.mem_range.mpr (by omega),rfl])
   rw[Int.zero_add] at this
   have this:decide ((ps.getD (i:Int).toNat (0,0)).1 < (ps.getD ((i:Int).toNat+1) (0,0)).1)=true:=this
   rw[Int.toNat_natCast,List.getD_eq_getElem?_getD,List.getD_eq_getElem?_getD,b,a] at this
   exact of_decide_eq_true this
  have up:∀ (m i:Nat) (p q:Pt),ps[i]?=some p->ps[i+1+m]?=some q->p.1 < q.1:=by
   intro m
   induction m with
   | zero=>exact λi p q b a=>st i p q b a
   | succ m ih =>
    intro i p q b a
    have hl:=(Fu.mp a).1
    have hm:ps[i+1+m]?=some (ps[i+1+m]'(by omega)):=Fo _
    exact Int.lt_trans (ih i p _ b hm) (st (i+1+m) _ q hm a)
  intro i j p q f b a
  exact up (j - (i+1)) i p q b (by rwa [show i+1+(j - (i+1))=j by omega])
 .intro R d hd
  obtain ⟨i,hi⟩:=List.getElem?_of_mem hd
  obtain ⟨hi,rfl⟩:=cj hi
  have e:ps[i]?=some (ps[i]'(by omega)):=Fo _
  have c:ps[i+1]?=some (ps[i+1]'(by omega)):=Fo _
  rw[Int.zero_add]
  show decide ((ps.getD (i:Int).toNat (0,0)).1 < (ps.getD ((i:Int).toNat+1) (0,0)).1)=true
  rw[Int.toNat_natCast,List.getD_eq_getElem?_getD,List.getD_eq_getElem?_getD,e,c]
  exact FH (R i (i+1) _ _ (by omega) e c)
abbrev Lhd (ps:List Pt):L3.D:=.lst (ps.map Pd)
theorem fm (xs:List L3.D):bL [.lst xs]=#v[.int (xs.length:Int)]:=by simp[Eo,c1]
theorem ll_b1 {ps:List Pt} {i j k:Nat} {p q r:Pt} (e:ps[i]?=some p) (f:ps[j]?=some q) (c:ps[k]?=some r) (sp:Wd p) (sq:Wd q) (d:Wd r):cD [some (Lhd ps,.u),#v[.int (i:Int)],#v[.int (j:Int)],#v[.int (k:Int)]]=some (.ok (if aW p q r=0 then .rt (.tup [Pd p,Pd q,Pd r]) .z else .nx),[some (Lhd ps,.u),#v[.int (i:Int)],#v[.int (j:Int)],#v[.int (k:Int)]]):=by
 have b:=uD p q r sp sq d
 have a1:aw (Lhd ps) (.int (i:Int))=#v[Pd p]:=bM (i5 e)
 have a2:aw (Lhd ps) (.int (j:Int))=#v[Pd q]:=bM (i5 f)
 have a:aw (Lhd ps) (.int (k:Int))=#v[Pd r]:=bM (i5 c)
 have eq:eqX (.int (aW p q r)) (.int 0)=#v[.bl (decide (aW p q r=0))]:=rfl
 by_cases h:aW p q r=0
 .rw[if_pos h]
  rw[FH h] at eq
  generalize L3.D.int (aW p q r)=B at *
  generalize L3.D.int (i:Int)=I at *
  generalize L3.D.int (j:Int)=J at *
  generalize L3.D.int (k:Int)=KK at *
  generalize Lhd ps=T at *
  generalize Pd p=X1 at *
  generalize Pd q=X2 at *
  generalize Pd r=X3 at *
  unfold cD
  refine cr (b:=true) (aQ (aq (aE b (aj (aq (ag rfl) (ag rfl) rfl rfl a1) (aj (aq (ag rfl) (ag rfl) rfl rfl a2) (aj (aq (ag rfl) (ag rfl) rfl rfl a) ao))) rfl rfl rfl) i_c rfl rfl eq) rfl) rfl ?_
  apply a7
  .exists a1,a2,a
  .rfl
 .rw[if_neg h]
  rw[FI h] at eq
  generalize L3.D.int (aW p q r)=B at *
  generalize L3.D.int (i:Int)=I at *
  generalize L3.D.int (j:Int)=J at *
  generalize L3.D.int (k:Int)=KK at *
  generalize Lhd ps=T at *
  generalize Pd p=X1 at *
  generalize Pd q=X2 at *
  generalize Pd r=X3 at *
  unfold cD
  exact bE (b:=false) (aQ (aq (aE b (aj (aq (ag rfl) (ag rfl) rfl rfl a1) (aj (aq (ag rfl) (ag rfl) rfl rfl a2) (aj (aq (ag rfl) (ag rfl) rfl rfl a) ao))) rfl rfl rfl) i_c rfl rfl eq) rfl) rfl rfl
set_option tactic.hygienic true in
theorem ll_b2 {ps:List Pt} (hl:ps.length<=24) (g:∀ p∈ps,Wd p) {i j:Nat} {p q:Pt} (s:i < j) (n:ps[i]?=some p) (f:ps[j]?=some q) (a:Option (L3.D×Fl)):∃ w,(bX [some (Lhd ps,.u),#v[.int (i:Int)],#v[.int (j:Int)],a]=some (.ok .nx,[some (Lhd ps,.u),#v[.int (i:Int)],#v[.int (j:Int)],w])/\∀ k r,j < k->ps[k]?=some r->aW p q r≠0)\/∃ x,bX [some (Lhd ps,.u),#v[.int (i:Int)],#v[.int (j:Int)],a]=some (.ok (.rt (.tup x) .z),[some (Lhd ps,.u),#v[.int (i:Int)],#v[.int (j:Int)],w])/\∃ k r,j < k/\ps[k]?=some r/\aW p q r=0:=by
 have A:=(Fu.mp f).1
 have v:bL [Lhd ps]=#v[.int (ps.length:Int)]:=by
  have:=fm (ps.map Pd)
  rwa [Ft] at this
 have l:iP [.int ((j:Int)+1),.int (ps.length:Int)]=some (bo ((j:Int)+1) (ps.length - (j+1))):=ku (by omega) (by omega) (by omega)
 obtain ⟨Z',⟨w,rfl⟩,h⟩:=iz (bnd:=aC 3) (b:=cD) (λZ=>∃ w,Z=[some (Lhd ps,.u),#v[.int (i:Int)],#v[.int (j:Int)],w]) (λm=>∃ r,ps[j+1+m]?=some r/\aW p q r=0) (ds:=bo ((j:Int)+1) (ps.length - (j+1))) (Z:=[some (Lhd ps,.u),#v[.int (i:Int)],#v[.int (j:Int)],a]) #[a,rfl] (by
  rintro m d Z hd ⟨w,rfl⟩
  obtain ⟨hm,rfl⟩:=cj hd
  have c:ps[j+1+m]?=some (ps[j+1+m]'(by omega)):=Fo _
  have one:=ll_b1 n f c (g p (Fv n)) (g q (Fv f)) (g _ (Fv c))
  rw[show ((j+1+m:Nat):Int)=(j:Int)+1+(m:Int) by omega] at one
  refine #[[some (Lhd ps,.u),#v[.int (i:Int)],#v[.int (j:Int)],#v[.int ((j:Int)+1+(m:Int))]],[some (Lhd ps,.u),#v[.int (i:Int)],#v[.int (j:Int)],#v[.int ((j:Int)+1+(m:Int))]],rfl,#[_,rfl],?_]
  by_cases h:aW p q (ps[j+1+m]'(by omega))=0
  .rw[if_pos h] at one
   exact .inr #[_,one,_,c,h]
  .rw[if_neg h] at one
   exact .inl #[one,λ#[r,h1,h2]=>by rw[c] at h1;cases h1;exact h h2])
 have run:∀ {o:Except L3.D Flw},bZ (aC 3) cD (bo ((j:Int)+1) (ps.length - (j+1))) [some (Lhd ps,.u),#v[.int (i:Int)],#v[.int (j:Int)],a]=some (o,[some (Lhd ps,.u),#v[.int (i:Int)],#v[.int (j:Int)],w])->bX [some (Lhd ps,.u),#v[.int (i:Int)],#v[.int (j:Int)],a]=some (o,[some (Lhd ps,.u),#v[.int (i:Int)],#v[.int (j:Int)],w]):=λ{o} e=>by
  unfold bX
  apply cS
  ·(repeat' (first | with_reducible apply gm (h3:=l) | infer_instance | exact v | eq_refl))
  .rfl
  .exact e
 rcases h with ⟨e,t⟩ | ⟨x,e,m,hm,r,h1,h2⟩
 .refine #[w,.inl #[run e,λk r B l h0=>?_]]
  have y:=(Fu.mp l).1
  exact t (k - (j+1)) (by rw[dl];omega) #[r,by rwa [show j+1+(k - (j+1))=k by omega],h0]
 .exact #[w,.inr #[x,run e,j+1+m,r,by omega,h1,h2]]
set_option tactic.hygienic true in
theorem ll_b3 {ps:List Pt} (hl:ps.length<=24) (s:∀ p∈ps,Wd p) {i:Nat} {p:Pt} (n:ps[i]?=some p) (v2 a:Option (L3.D×Fl)):∃ J I,(cC [some (Lhd ps,.u),#v[.int (i:Int)],v2,a]=some (.ok .nx,[some (Lhd ps,.u),#v[.int (i:Int)],J,I])/\∀ j k q r,i < j->j < k->ps[j]?=some q->ps[k]?=some r->aW p q r≠0)\/∃ x,cC [some (Lhd ps,.u),#v[.int (i:Int)],v2,a]=some (.ok (.rt (.tup x) .z),[some (Lhd ps,.u),#v[.int (i:Int)],J,I])/\∃ j k q r,i < j/\j < k/\ps[j]?=some q/\ps[k]?=some r/\aW p q r=0:=by
 have A:=(Fu.mp n).1
 have t:bL [Lhd ps]=#v[.int (ps.length:Int)]:=by
  have:=fm (ps.map Pd)
  rwa [Ft] at this
 have c:iP [.int ((i:Int)+1),.int (ps.length:Int)]=some (bo ((i:Int)+1) (ps.length - (i+1))):=ku (by omega) (by omega) (by omega)
 obtain ⟨Z',⟨J,I,rfl⟩,h⟩:=iz (bnd:=aC 2) (b:=bX) (λZ=>∃ J I,Z=[some (Lhd ps,.u),#v[.int (i:Int)],J,I]) (λm=>∃ k q r,i+1+m < k/\ps[i+1+m]?=some q/\ps[k]?=some r/\aW p q r=0) (ds:=bo ((i:Int)+1) (ps.length - (i+1))) (Z:=[some (Lhd ps,.u),#v[.int (i:Int)],v2,a]) #[v2,a,rfl] (by
  rintro m d Z hd ⟨J,I,rfl⟩
  obtain ⟨hm,rfl⟩:=cj hd
  have f:ps[i+1+m]?=some (ps[i+1+m]'(by omega)):=Fo _
  obtain ⟨w,one⟩:=ll_b2 hl s (i:=i) (j:=i+1+m) (by omega) n f I
  rw[show ((i+1+m:Nat):Int)=(i:Int)+1+(m:Int) by omega] at one
  refine #[[some (Lhd ps,.u),#v[.int (i:Int)],#v[.int ((i:Int)+1+(m:Int))],I],[some (Lhd ps,.u),#v[.int (i:Int)],#v[.int ((i:Int)+1+(m:Int))],w],rfl,#[_,_,rfl],?_]
  rcases one with ⟨e,g⟩ | ⟨x,e,k,r,h1,h2,h3⟩
  .exact .inl #[e,λ#[k,q,r,h1,h2,h3,l]=>by rw[f] at h2;cases h2;exact g k r h1 h3 l]
  .exact .inr #[x,e,k,_,r,h1,f,h2,h3])
 have run:∀ {o:Except L3.D Flw},bZ (aC 2) bX (bo ((i:Int)+1) (ps.length - (i+1))) [some (Lhd ps,.u),#v[.int (i:Int)],v2,a]=some (o,[some (Lhd ps,.u),#v[.int (i:Int)],J,I])->cC [some (Lhd ps,.u),#v[.int (i:Int)],v2,a]=some (o,[some (Lhd ps,.u),#v[.int (i:Int)],J,I]):=λ{o} e=>by
  unfold cC
  apply cS
  ·(repeat' (first | with_reducible apply gm (h3:=c) | infer_instance | exact t | eq_refl))
  .rfl
  .exact e
 rcases h with ⟨e,g⟩ | ⟨x,e,m,hm,k,q,r,h1,h2,h3,l⟩
 .refine #[J,I,.inl #[run e,λj k q r y C v c h0=>?_]]
  have B:=(Fu.mp c).1
  exact g (j - (i+1)) (by rw[dl];omega) #[k,q,r,by omega,by rwa [show i+1+(j - (i+1))=j by omega],c,h0]
 .exact #[J,I,.inr #[x,run e,i+1+m,k,q,r,by omega,h1,h2,h3,l]]
set_option tactic.hygienic true in
theorem xV {ps:List Pt} (hl:ps.length<=24) (C:∀ p∈ps,Wd p):∃ d,gJ [(Lhd ps,.u)]=some (.ok (d,.z),[(Lhd ps,.u)])/\(iK d=true ↔ NoLine ps):=by
 have D:bL [Lhd ps]=#v[.int (ps.length:Int)]:=by
  have:=fm (ps.map Pd)
  rwa [Ft] at this
 have s:fL [.int (ps.length:Int)]=some (bo 0 ps.length):=ib (by lia) (by lia)
 obtain ⟨Z',⟨f,a,c,rfl⟩,h⟩:=iz (bnd:=aC 1) (b:=cC) (λZ=>∃ f a c,Z=[some (Lhd ps,.u),f,a,c]) (λi=>∃ j k p q r,i < j/\j < k/\ps[i]?=some p/\ps[j]?=some q/\ps[k]?=some r/\aW p q r=0) (ds:=bo 0 ps.length) (Z:=[some (Lhd ps,.u),none,none,none]) #[none,none,none,rfl] (by
  rintro i d Z hd ⟨f,a,c,rfl⟩
  obtain ⟨hi,rfl⟩:=cj hd
  have t:ps[i]?=some (ps[i]'hi):=Fo _
  obtain ⟨A,w,one⟩:=ll_b3 hl C t a c
  rw[Int.zero_add]
  refine #[[some (Lhd ps,.u),#v[.int (i:Int)],a,c],[some (Lhd ps,.u),#v[.int (i:Int)],A,w],rfl,#[_,_,_,rfl],?_]
  rcases one with ⟨e,n⟩ | ⟨x,e,j,k,q,r,h1,h2,h3,g,l⟩
  .exact .inl #[e,λ#[j,k,p,q,r,h1,h2,h3,g,l,h6]=>by rw[t] at h3;cases h3;exact n j k q r h1 h2 g l h6]
  .exact .inr #[x,e,j,k,_,q,r,h1,h2,t,h3,g,l])
 have im:bY fL (aa (au bL (aa (ac 0) ak)) ak) [some (Lhd ps,.u),none,none,none]=some (.ok ([],bo 0 ps.length),[some (Lhd ps,.u),none,none,none]):=by
  (repeat' (first | with_reducible apply gm (h3:=s) | infer_instance | exact D | eq_refl))
 rcases h with ⟨e,n⟩ | ⟨x,e,i,hi,j,k,p,q,r,h1,h2,h3,g,l,h6⟩
 .refine #[.non,aT (Z:=[some (Lhd ps,.u),none,none,none]) (Z1:=[some (Lhd ps,.u),f,a,c]) rfl rfl (am (cS im rfl e) (a7 i_c rfl)) rfl,λ_=>?_,λ_=>rfl]
  intro i j k p q r m o v y s h0
  have B:=(Fu.mp v).1
  exact n i (by rw[dl];exact B) #[j,k,p,q,r,m,o,v,y,s,h0]
 .refine #[.tup x,aT (Z:=[some (Lhd ps,.u),none,none,none]) (Z1:=[some (Lhd ps,.u),f,a,c]) rfl rfl (bC (cS im rfl e)) rfl,λh=>(by cases h),λh=>?_]
  exact absurd h6 (h i j k p q r h1 h2 h3 g l)
set_option tactic.hygienic true in
theorem u9 {S:List L3.D} {i j k:Int} {p q r:Pt} {v2:Option (L3.D×Fl)} (a1:aw (.tup S) (.int i)=#v[Pd p]) (a2:aw (.tup S) (.int j)=#v[Pd q]) (e:aw (.tup S) (.int k)=#v[Pd r]) (g:Wd p) (l:Wd q) (f:Wd r) (h0:aW p q r=0):aV [#v[.tup S],#v[.tup [.int i,.int j,.int k]],v2]=some (.ok (.rt (.tup [Pd p,Pd q,Pd r]) .z),[#v[.tup S],#v[.tup [.int i,.int j,.int k]],#v[.tup [Pd p,Pd q,Pd r]]]):=by
 have b:=mq p q r g l f
 have one:∀ (x d:L3.D) (a:Option (L3.D×Fl)),aw (.tup S) x=#v[d]->bh [#v[x],#v[.tup S]]=some (.ok (.val d .z),[#v[x],#v[.tup S]]):=λx d a h=>by unfold bh;(exists h)
 have c:cw [#v[.tup S],#v[.tup [.int i,.int j,.int k]],v2]=some (.ok (.val (.lst [Pd p,Pd q,Pd r]) .u),[#v[.tup S],#v[.tup [.int i,.int j,.int k]],v2]):=by
  refine cO (Z1:=[#v[.tup S],#v[.tup [.int i,.int j,.int k]],v2]) (Z2:=[#v[.tup S],#v[.tup [.int i,.int j,.int k]],v2]) (ds:=[.int i,.int j,.int k]) (rs:=[.pl 1]) (Y:=[#v[.int k],#v[.tup S]]) rfl ?_ (by simp) rfl
  have e1:=one (.int i) _ none a1
  have m:=one (.int j) _ none a2
  have o:=one (.int k) _ none e
  have n:∀ d a,aC 0 d [a,#v[L3.D.tup S]]=some [#v[d],#v[.tup S]]:=λ_ _=>rfl
  have cs:qE [none,some 0] (aO cQ (us [#v[L3.D.tup S],#v[.tup [.int i,.int j,.int k]],v2] (pls [R3.pl 1])) [#v[.tup S],#v[.tup [.int i,.int j,.int k]],v2])=[none,#v[.tup S]]:=rfl
  rw[cs]
  simp only[cg,n,fw,ai,bb,if_true,e1,m,o,eI,nol]
 unfold aV
 apply am (Z1:=[#v[.tup S],#v[.tup [.int i,.int j,.int k]],#v[.tup [Pd p,Pd q,Pd r]]])
 ·(repeat' (first | with_reducible exact c | infer_instance | eq_refl))
 .apply cr
  .nomatch [b]
  .exact FH h0
  .exact a7 (ag rfl) rfl
theorem Bd {ps:List Pt} (hl:ps.length<=24) (c:∀ p∈ps,Wd p):∃ d,bT [(Shd ps,.z)]=some (.ok (d,.z),[(Shd ps,.z)])/\(iK d=true ↔ NoLine ps):=by
 have o:=kU ps.length (by lia)
 have I:bL [Shd ps]=#v[.int (ps.length:Int)]:=by
  have:=n9 (ps.map Pd)
  rwa [Ft] at this
 by_cases s:NoLine ps
 .exact #[.non,zU ps hl c s,λ_=>s,λ_=>rfl]
 obtain ⟨Z',⟨v,a,rfl⟩,h⟩:=iz (bnd:=aC 1) (b:=aV) (λZ=>∃ v a,Z=[#v[Shd ps],v,a]) (λm=>∃ t p q r,(po ps.length)[m]?=some t/\ps[t.1]?=some p/\ps[t.2.1]?=some q/\ps[t.2.2]?=some r/\aW p q r=0) (ds:=(po ps.length).map Td) (Z:=[#v[Shd ps],none,none]) #[none,none,rfl] (by
  rintro m d Z hd ⟨v,a,rfl⟩
  rw[Fz,Fh] at hd
  obtain ⟨t,o,rfl⟩:=hd
  obtain ⟨L,M,K⟩:=qb (Fv o)
  have g:ps[t.1]?=some (ps[t.1]'(by lia)):=Fo _
  have f:ps[t.2.1]?=some (ps[t.2.1]'(by lia)):=Fo _
  have l:ps[t.2.2]?=some (ps[t.2.2]'(by lia)):=Fo _
  refine #[[#v[Shd ps],#v[Td t],a],[#v[Shd ps],#v[Td t],#v[.tup [Pd (ps[t.1]'(by omega)),Pd (ps[t.2.1]'(by omega)),Pd (ps[t.2.2]'(by omega))]]],rfl,#[_,_,rfl],?_]
  by_cases h0:aW (ps[t.1]'(by omega)) (ps[t.2.1]'(by omega)) (ps[t.2.2]'(by omega))=0
  .exact .inr #[_,u9 (v2:=a) (bq (i5 g)) (bq (i5 f)) (bq (i5 l)) (c _ (Fv g)) (c _ (Fv f)) (c _ (Fv l)) h0,t,_,_,_,o,g,f,l,h0]
  .refine .inl #[qt (v2:=a) (bq (i5 g)) (bq (i5 f)) (bq (i5 l)) (c _ (Fv g)) (c _ (Fv f)) (c _ (Fv l)) h0,λ#[t',p,q,r,e1,C,D,A,E]=>?_]
   rw[o] at e1
   cases e1
   rw[g] at C
   rw[f] at D
   rw[l] at A
   cases C
   cases D
   cases A
   exact h0 E)
 rcases h with ⟨e,J⟩ | ⟨x,e,_⟩
 .refine absurd (λi j k p q r w y F G B h0=>?_) s
  have H:=(Fu.mp B).1
  obtain ⟨m,hm⟩:=List.getElem?_of_mem (uT (n:=ps.length) w y H)
  exact J m (by rw[Ft];exact (Fu.mp hm).1) #[_,p,q,r,hm,F,G,B,h0]
 .refine #[.tup x,aT (Z:=[#v[Shd ps],none,none]) (Z1:=[#v[Shd ps],v,a]) rfl rfl (bC (cS (rs:=[.val (.lst ((po ps.length).map Td)) .u]) (Z1:=[#v[Shd ps],none,none]) ?_ rfl e)) rfl,λh=>(by cases h),λh=>absurd h s]
  exact iy (aE o (aj (aD (aj (ag rfl) ao) rfl I) ao) rfl rfl rfl) rfl rfl
def iD (c:Nat):Bool:=!(Builtin.Str.occurrences (Str.ofString "0123456789") #[(List.toArray [c])] 0 (Str.ofString "0123456789").length 1).isEmpty
theorem ER:∀ c:Nat,c < 48->iD c=false:=by decide +kernel
theorem Bi (k:Nat):iD (k+58)=false:=by kernel_rfl
theorem yI (c:Nat):iD c=decide (48<=c/\c<=57):=by
 by_cases h:c < 48
 .rw[ER c h,FI (by omega)]
 .by_cases k:c<=57
  .rw[show iD c=true from rN c #[by omega,k],FH #[by omega,k]]
  .rw[show c=(c - 58)+58 by omega,Bi,FI (by omega)]
theorem qa:("-":Str)=#[(List.toArray [45])]:=by decide +kernel
theorem m8:("0":Str)=#[(List.toArray [48])]:=by decide +kernel
theorem xE:("-0":Str)=#[(List.toArray [45,48])]:=by decide +kernel
theorem qw:("":Str)=#[(List.toArray [])]:=by decide +kernel
theorem jT {x y:Str}:decide (x=y)=decide (cod x=cod y):=by
 rw[decide_eq_decide]
 exact #[λh=>by rw[h],kH]
def neg (w:Str):Bool:=(cod w).head? == some 45
def fig (w:Str):Str:=if neg w then Txt.slice w (some 1) none else w
def aL (l:List Nat):List Nat:=if l.head? == some 45 then l.tail else l
theorem bW (w:Str):cod (fig w)=aL (cod w):=by
 unfold fig aL neg
 by_cases h:((cod w).head? == some 45)=true
 .rw[if_pos h,if_pos h]
  have:1<=w.length:=by
   rw[b9]
   cases e:cod w with
   | nil=>rw[e] at h;cases h
   | cons a r=>simp
  rw[CP w this,List.drop_one]
 .rw[if_neg h,if_neg h]
def gx (l f:List Nat):Bool:=decide (f=[]) || !f.all iD
def o4 (l f:List Nat):Bool:=(f.head? == some 48) && !decide (l=[48])
def num (w:Str):Option Int:=if gx (cod w) (aL (cod w)) || o4 (cod w) (aL (cod w)) then none else some (if neg w then -(NumText.digitsVal (aL (cod w)):Int) else (NumText.digitsVal (aL (cod w)):Int))
def oD:Option Int->L3.D
 | none=>.non
 | some i=>.int i
theorem mj (w:Str) (c:Nat) {t:Str} (a:t=#[(List.toArray [c])]):d5 [.str w,.str t]=#v[.bl ((cod w).head? == some c)]:=by
 show some (L3.D.bl (Txt.startswith w t),Fl.z)=_
 rw[a,zH]
theorem jG (z:Str):(iG z).length=z.length:=by
 unfold iG
 rw[Ft,b9]
theorem jF (z:Str):iG z=(cod z).map λc=>L3.D.str #[(List.toArray [c])]:=rfl
theorem wj (m c:Nat):aH (.int ((m:Int) * 10)) (.int ((c - 48:Nat):Int))=#v[.int ((m * 10+(c - 48):Nat):Int)]:=by
 have:aH (.int ((m:Int) * 10)) (.int ((c - 48:Nat):Int))=#v[.int ((m:Int) * 10+((c - 48:Nat):Int))]:=rfl
 rw[this,show (m:Int) * 10+((c - 48:Nat):Int)=((m * 10+(c - 48):Nat):Int) by omega]
theorem mul10 (m:Int):cK (.int m) (.int 10)=#v[.int (m * 10)]:=if_pos (FH (.inr (by omega)))
theorem vS (l:List Nat) (m:Nat) (c:Nat) (h:l[m]?=some c):NumText.digitsVal (l.take (m+1))=NumText.digitsVal (l.take m) * 10+(c - 48):=by
 unfold NumText.digitsVal
 rw[List.take_add_one,h,List.foldl_append]
 rfl
abbrev nS (W:Str) (F:Option (L3.D×Fl)) (N a:Option (L3.D×Fl)):Sto:=[#v[.str W],F,N,a]
section
variable {w:Str} (hw:w.length<=500)
include hw
theorem oJ:(fig w).length<=500:=by
 rw[b9,bW]
 unfold aL
 rw[b9] at hw
 split
 .rw[List.length_tail];omega
 .exact hw
theorem sK:bD [(.str w,.z)]=some (.ok (oD (num w),.z),[(.str w,.z)]):=by
 have fl:=oJ hw
 have s1:=mj w 45 qa
 have s2:=mj (fig w) 48 m8
 have sl:neg w=true->slS (.str w) (some 1) none=#v[.str (fig w)]:=λh=>by
  show (if w.length<=16777216 then some (L3.D.str (Txt.slice w (some 1) none),Fl.z) else none)=_
  rw[if_pos (by omega)]
  unfold fig
  rw[if_pos h]
 have fn:neg w=false->fig w=w:=λh=>by unfold fig;rw[h];rfl
 have first:aJ 1 (mIf (cB (bR isS d5 (ac 0) (aa (mC (.str "-")) ak))) (mSl slS (ac 0) (aY (mC (.int 1))) aZ) (ac 0)) (nS w none none none)=some (.ok .nx,nS w #v[.str (fig w)] none none):=by
  cases e:neg w with
  | true =>
   have s1:d5 [.str w,.str "-"]=#v[.bl true]:=by rw[s1];exact congrArg (λb=>some (L3.D.bl b,Fl.z)) e
   exact bA (yn (b:=true) (aQ (df (ag rfl) rfl rfl (aj i_c ao) rfl s1) rfl) rfl (iE (ag rfl) (bF i_c rfl) bG rfl (sl e))) rfl (Nat.le_of_ble_eq_true rfl) rfl
  | false =>
   have s1:d5 [.str w,.str "-"]=#v[.bl false]:=by rw[s1];exact congrArg (λb=>some (L3.D.bl b,Fl.z)) e
   rw[fn e]
   exact bA (yo (b:=false) (aQ (df (ag rfl) rfl rfl (aj i_c ao) rfl s1) rfl) rfl (ag rfl)) rfl (Nat.le_of_ble_eq_true rfl) rfl
 have j:eqX (.str (fig w)) (.str "")=#v[.bl (decide (aL (cod w)=[]))]:=by
  show some (L3.D.bl (decide (fig w=("":Str))),Fl.z)=_
  rw[jT,bW,qw]
 have e1:neX (.str w) (.str "0")=#v[.bl (!decide (cod w=[48]))]:=by
  show some (L3.D.bl (!decide (w=("0":Str))),Fl.z)=_
  rw[jT,m8]
 have i:eqX (.str (fig w)) (.str w)=#v[.bl (!neg w)]:=by
  show some (L3.D.bl (decide (fig w=w)),Fl.z)=_
  cases e:neg w with
  | false=>rw[fn e,FH rfl];rfl
  | true =>
   rw[FI]
   .rfl
   .intro h
    have h:(cod (fig w)).length=(cod w).length:=congrArg (λz=>(cod z).length) h
    rw[bW] at h
    unfold aL at h
    rw[if_pos (show ((cod w).head? == some 45)=true from e),List.length_tail] at h
    have:(cod w)≠[]:=λz=>by unfold neg at e;rw[z] at e;cases e
    have:=List.length_pos_iff.mpr this
    lia
 obtain ⟨Y',c1,a1,rfl⟩:=eQ (bnd:=aC 0) (c:=fw) (elt:=c9) (λY=>∃ a,Y=[a]) (λc:Nat=>L3.D.str #[(List.toArray [c])]) (λ_=>true) (λc=>.bl (iD c)) (xs:=aL (cod w)) (Y:=[none]) #[none,rfl] (by
  rintro c g Y ⟨a,rfl⟩
  have s:yi (.str #[(List.toArray [c])]) (.str "0123456789")=#v[.bl (iD c)]:=rfl
  exact #[_,_,rfl,rfl,(λh=>by cases h),λ_=>#[.val (.bl (iD c)) .z,[#v[.str #[(List.toArray [c])]]],_,_,by unfold c9;exact aq (ag rfl) i_c rfl rfl s,rfl,rfl,_,rfl]])
 rw[F5.mpr (λ_ _=>rfl),<- bW,<- jF] at c1
 have o:c8 (nS w #v[.str (fig w)] none none)=some (.ok (.val (.lst ((cod (fig w)).map λc=>L3.D.bl (iD c))) .u),nS w #v[.str (fig w)] none none):=cO (rs:=[.pl 1]) (Z1:=nS w #v[.str (fig w)] none none) rfl c1 (by rw[jG];omega) rfl
 have al:=sy iD (cod (fig w))
 rw[bW] at al o
 have out:gx (cod w) (aL (cod w))=true\/o4 (cod w) (aL (cod w))=true->num w=none:=λh=>by
  unfold num
  rw[if_pos (Bool.or_eq_true_iff.mpr h)]
 have b1:cOr (cB (af eqX (ac 1) (mC (.str "")))) (gw (cB (au vI (aa c8 ak)))) (nS w #v[.str (fig w)] none none)=some (.ok (gx (cod w) (aL (cod w))),nS w #v[.str (fig w)] none none):=by
  unfold gx
  cases q:decide (aL (cod w)=[]) with
  | true =>
   rw[q] at j
   exact lj (aQ (aq (ag rfl) i_c rfl rfl j) rfl) rfl
  | false =>
   rw[q] at j
   exact d9 (aQ (aq (ag rfl) i_c rfl rfl j) rfl) rfl (cy (aQ (aD (aj o ao) rfl al) rfl))
 rw[bW] at s2
 have b2:eR (cB (bR isS d5 (ac 1) (aa (mC (.str "0")) ak))) (cB (af neX (ac 0) (mC (.str "0")))) (nS w #v[.str (fig w)] none none)=some (.ok (o4 (cod w) (aL (cod w))),nS w #v[.str (fig w)] none none):=by
  unfold o4
  cases q:(aL (cod w)).head? == some 48 with
  | false =>
   rw[q] at s2
   exact lr (aQ (df (ag rfl) rfl rfl (aj i_c ao) rfl s2) rfl) rfl
  | true =>
   rw[q] at s2
   exact lp (aQ (df (ag rfl) rfl rfl (aj i_c ao) rfl s2) rfl) rfl (aQ (aq (ag rfl) i_c rfl rfl e1) rfl)
 cases h1:gx (cod w) (aL (cod w)) with
 | true =>
  rw[out (.inl h1)]
  rw[h1] at b1
  apply aT (Z:=nS w none none none) (Z1:=nS w #v[.str (fig w)] none none) rfl rfl
  .exact am first (bC (cr b1 rfl (a7 i_c rfl)))
  .rfl
 | false =>
  rw[h1] at b1
  cases h2:o4 (cod w) (aL (cod w)) with
  | true =>
   rw[out (.inr h2)]
   rw[h2] at b2
   apply aT (Z:=nS w none none none) (Z1:=nS w #v[.str (fig w)] none none) rfl rfl
   .exact am first (am (bE b1 rfl rfl) (bC (cr b2 rfl (a7 i_c rfl))))
   .rfl
  | false =>
   rw[h2] at b2
   have l:∀ c∈aL (cod w),48<=c/\c<=57:=λc g=>by
    unfold gx at h1
    rw[Bool.or_eq_false_iff,Bool.not_eq_false'] at h1
    have:=List.all_eq_true.mp h1.2 c g
    rw[yI] at this
    exact of_decide_eq_true this
   obtain ⟨Z',lo,f,rfl⟩:=cT (bnd:=aC 3) (b:=de) (λm Z=>∃ f,Z=nS w #v[.str (fig w)] #v[.int ((NumText.digitsVal ((aL (cod w)).take m):Nat):Int)] f) (ds:=iG (fig w)) (Z:=nS w #v[.str (fig w)] #v[.int 0] none) (k:=0) #[none,rfl] (by
    rintro m d Z hd ⟨f,rfl⟩
    rw[FK]
    rw[jF,bW,Fz] at hd
    obtain ⟨c,g,rfl⟩:=Fh.mp hd
    have p:ql [.str #[(List.toArray [c])]]=#v[.int ((c - 48:Nat):Int)]:=by
     show (if (#[(List.toArray [c])]:Str).length<=640 then (PySem.intText? #[(List.toArray [c])]).map λn=>((.int n,.z):L3.D×Fl) else none)=_
     rw[if_pos (by show 1<=640;decide),rL (l c (Fv g))]
     rfl
    rw[vS _ _ _ g]
    have sv:=wj (NumText.digitsVal ((aL (cod w)).take m)) c
    have t:=mul10 (NumText.digitsVal ((aL (cod w)).take m):Int)
    generalize NumText.digitsVal ((aL (cod w)).take m)=V at *
    refine #[_,_,rfl,.inl ?_,#v[.str #[(List.toArray [c])]],rfl]
    unfold de
    exact bA (aq (aq (ag rfl) i_c rfl rfl t) (aD (aj (ag rfl) ao) rfl p) rfl rfl sv) rfl (Nat.le_of_ble_eq_true rfl) rfl)
   rw[FK,jG,b9,bW,List.take_length] at lo
   have im:mN (ac 1) (nS w #v[.str (fig w)] #v[.int 0] none)=some (.ok ([.pl 1],iG (fig w)),nS w #v[.str (fig w)] #v[.int 0] none):=rfl
   have r:num w=some (if neg w then -(NumText.digitsVal (aL (cod w)):Int) else (NumText.digitsVal (aL (cod w)):Int)):=by
    unfold num
    rw[h1,h2]
    rfl
   rw[r]
   generalize NumText.digitsVal (aL (cod w))=V at *
   have last:mIf (cB (af eqX (ac 1) (ac 0))) (ac 2) (mUn fN (ac 2)) (nS w #v[.str (fig w)] #v[.int (V:Int)] f)=some (.ok (if neg w then .val (.int (-(V:Int))) .z else .pl 2),nS w #v[.str (fig w)] #v[.int (V:Int)] f):=by
    cases e:neg w with
    | true =>
     rw[e] at i
     exact yo (b:=false) (aQ (aq (ag rfl) (ag rfl) rfl rfl i) rfl) rfl (ft (ag rfl) rfl rfl)
    | false =>
     rw[e] at i
     exact yn (b:=true) (aQ (aq (ag rfl) (ag rfl) rfl rfl i) rfl) rfl (ag rfl)
   apply aT (Z:=nS w none none none) (Z1:=nS w #v[.str (fig w)] #v[.int (V:Int)] f) rfl rfl
   .refine am first (am (bE b1 rfl rfl) (am (bE b2 rfl rfl) (am (Z1:=nS w #v[.str (fig w)] #v[.int 0] none) (bA i_c rfl (Nat.le_of_ble_eq_true rfl) rfl) (am (cS im rfl lo) (a7 last ?_)))))
    cases neg w <;> rfl
   .rfl
end
theorem sV:∀ ts:List Str,(∀ t∈ts,PyData.strOk t=true)->fM (ts.map L3.D.str)=some (ts.map PyData.str)/\PyData.canLayAll0 (ts.map PyData.str)=true/\PyData.depthAll (ts.map PyData.str)<=1
 | [],_=>#[rfl,rfl,by simp[PyData.depthAll]]
 | t::ts,h=>by
  obtain ⟨a,b,c⟩:=sV ts λx d=>h x (Ff _ d)
  refine #[?_,by simp[PyData.canLayAll0,PyData.canLay0,b,h t Fe],by simp[PyData.depthAll,PyData.depth];omega]
  show (match pyD (L3.D.str t),fM (ts.map L3.D.str) with | some p,some ps=>some (p::ps) | _,_=>none)=_
  rw[a]
  rfl
theorem AH:∀ c:Nat,c < 128->PyData.strOk #[(List.toArray [c])]=true:=by decide +kernel
theorem AU (ts:List Str) (h:∀ t∈ts,PyData.strOk t=true):neX (.lst (ts.map L3.D.str)) (.lst [])=#v[.bl (!ts.isEmpty)]:=by
 obtain ⟨a,b,c⟩:=sV ts h
 have d:pyD (.lst (ts.map L3.D.str))=some (.list (ts.map PyData.str)):=by unfold pyD;rw[a];rfl
 have p2:pyD (.lst [])=some (.list []):=rfl
 have e:eqA (.lst (ts.map L3.D.str)) (.lst [])=some ts.isEmpty:=by
  show eqP _ _=_
  unfold eqP
  rw[d,p2]
  show (if _ then _ else _)=_
  rw[if_pos (by simp[PyData.canLay0,PyData.canLayAll0,b,PyData.depth,PyData.depthAll])]
  cases ts <;> simp[PyData.eqv,PyData.eqvAll]
 show (eqA _ _).map _=_
 rw[e]
 rfl
theorem ly (p:Nat->Bool):∀ l:List Nat,(l.filter λc=>!p c).isEmpty=l.all p
 | []=>rfl
 | a::l=>by
  rw[List.filter_cons,List.all_cons]
  cases p a with
  | true=>simp[ly p l]
  | false=>simp
theorem Ba (w:Str):decide (Txt.slice w none (some 1)=("-":Str))=neg w:=by
 have h:=PyProof.Rows.slice_to_min_closes (x:=w) (n:=1) (m:=if (w.length:Int) < 1 then (w.length:Int) else 1) (by decide) rfl
 have h:=eq_of_beq h
 rw[h,jT,qa]
 unfold neg
 show decide (List.take _ (List.drop 0 (cod w))=[45])=_
 rw[List.drop_zero,b9]
 cases e:cod w with
 | nil=>simp
 | cons a r =>
  rw[if_neg (by simp;lia)]
  show decide (List.take 1 (a::r)=[45])=(some a == some 45)
  rw[Bool.eq_iff_iff]
  simp
theorem uu (w:Str):Txt.slice w (some 0) none=w:=by
 apply kH
 rw[PyProof.Rows.slice_from_eq (b:=w.length) (by decide) (by omega) rfl]
 show List.take _ (List.drop 0 (cod w))=_
 rw[List.drop_zero,F2]
 rw[<- b9]
 lia
def Bw (l f:List Nat):Bool:=decide (l=[45,48]) || (decide (1 < f.length) && (f.head? == some 48))
theorem yZ {l:List Nat} (h:gx l (aL l)=false):Bw l (aL l)=o4 l (aL l):=by
 have hf:aL l≠[]:=λe=>by
  unfold gx at h
  rw[FH e] at h
  cases h
 unfold Bw o4
 have hl:l=aL l/\l.head?≠some 45\/l=45::aL l:=by
  unfold aL
  cases l with
  | nil=>exact .inl #[rfl,by simp]
  | cons a r =>
   by_cases q:a=45
   .subst q;exact .inr rfl
   .refine .inl #[?_,by simpa using q]
    rw[if_neg (by simpa using q)]
 generalize aL l=f at *
 cases f with
 | nil=>exact absurd rfl hf
 | cons a r =>
  rcases hl with ⟨rfl,b⟩ | rfl
  .have c:¬ (a::r)=[45,48]:=λe=>b (by rw[e];rfl)
   rw[FI c,Bool.false_or,Bool.eq_iff_iff]
   cases r <;> simp
  .rw[Bool.eq_iff_iff]
   cases r <;> simp
theorem By (a:Nat) (r:List Nat):L2.atI (a::r) 0=some a:=by
 unfold L2.atI L2.ixN
 rw[if_pos (by omega),if_pos (by simp)]
 rfl
section
variable {w:Str} (hw:w.length<=500) (ha:∀ c∈cod w,c < 128)
include hw ha
theorem pE:bP [(.str w,.z)]=some (.ok (oD (num w),.z),[(.str w,.z)]):=by
 have fl:=oJ hw
 have h0:slS (.str w) none (some 1)=#v[.str (Txt.slice w none (some 1))]:=if_pos (by omega)
 have x:eqX (.str (Txt.slice w none (some 1))) (.str "-")=#v[.bl (neg w)]:=by
  show some (L3.D.bl (decide (Txt.slice w none (some 1)=("-":Str))),Fl.z)=_
  rw[Ba]
 have p:lh [.bl (neg w)]=#v[.int (if neg w then 1 else 0)]:=rfl
 have h1:slS (.str w) (some (if neg w then 1 else 0)) none=#v[.str (fig w)]:=by
  show (if w.length<=16777216 then some (L3.D.str (Txt.slice w _ none),Fl.z) else none)=_
  rw[if_pos (by omega)]
  unfold fig
  cases neg w with
  | true=>rfl
  | false=>exact congrArg (λz=>some (L3.D.str z,Fl.z)) (uu w)
 have e1:eqX (.str (fig w)) (.str "")=#v[.bl (decide (aL (cod w)=[]))]:=by
  show some (L3.D.bl (decide (fig w=("":Str))),Fl.z)=_
  rw[jT,bW,qw]
 have h:eqX (.str w) (.str "-0")=#v[.bl (decide (cod w=[45,48]))]:=by
  show some (L3.D.bl (decide (w=("-0":Str))),Fl.z)=_
  rw[jT,xE]
 have ln:mI [.str (fig w)]=#v[.int (((aL (cod w)).length:Nat):Int)]:=by
  have:(fig w).length=(aL (cod w)).length:=by rw[b9,bW]
  rw[<- this]
  refine if_pos ?_
  by_cases z:(fig w).length=0
  .rw[z];decide
  .exact (Nat.log2_lt z).mpr (by omega)
 have gt:gtI (.int (((aL (cod w)).length:Nat):Int)) (.int 1)=#v[.bl (decide (1 < (aL (cod w)).length))]:=by
  show some (L3.D.bl (decide ((1:Int) < ((aL (cod w)).length:Int))),Fl.z)=_
  rw[show decide ((1:Int) < ((aL (cod w)).length:Int))=decide (1 < (aL (cod w)).length) by rw[decide_eq_decide];omega]
 obtain ⟨Y',c1,a1,rfl⟩:=eQ (bnd:=aC 0) (c:=eC) (elt:=iJ) (λY=>∃ a,Y=[a]) (λc:Nat=>L3.D.str #[(List.toArray [c])]) (λc=>!iD c) (λc=>.str #[(List.toArray [c])]) (xs:=aL (cod w)) (Y:=[none]) #[none,rfl] (by
  rintro c b Y ⟨a,rfl⟩
  have s:rn (.str #[(List.toArray [c])]) (.str "0123456789")=#v[.bl (!iD c)]:=rfl
  exact #[[#v[.str #[(List.toArray [c])]]],[#v[.str #[(List.toArray [c])]]],rfl,by unfold eC;exact aQ (aq (ag rfl) i_c rfl rfl s) rfl,λ_=>#[_,rfl],λ_=>#[_,_,(.str #[(List.toArray [c])],.z),_,rfl,rfl,rfl,_,rfl]])
 rw[<- bW,<- jF,bW] at c1
 have v:eB [#v[.str w],#v[.str (fig w)]]=some (.ok (.val (.lst (((aL (cod w)).filter λc=>!iD c).map λc=>L3.D.str #[(List.toArray [c])])) .u),[#v[.str w],#v[.str (fig w)]]):=cO (rs:=[.pl 1]) (Z1:=[#v[.str w],#v[.str (fig w)]]) rfl c1 (by rw[jG];omega) rfl
 have ne:=AU (((aL (cod w)).filter λc=>!iD c).map λc=>(#[(List.toArray [c])]:Str)) λt m=>by
  obtain ⟨c,b,rfl⟩:=Fy.mp m
  have b:=(FV.mp b).1
  refine AH c (ha c ?_)
  unfold aL at b
  split at b
  .exact List.mem_of_mem_tail b
  .exact b
 rw[F7,List.isEmpty_map,ly] at ne
 have ne:neX (.lst (((aL (cod w)).filter λc=>!iD c).map λc=>L3.D.str #[(List.toArray [c])])) (.lst [])=#v[.bl (!(aL (cod w)).all iD)]:=ne
 have first:aJ 1 (mSl slS (ac 0) (aY (au lh (aa (af eqX (mSl slS (ac 0) aZ (aY (mC (.int 1)))) (mC (.str "-"))) ak))) aZ) [#v[.str w],none]=some (.ok .nx,[#v[.str w],#v[.str (fig w)]]) :=
  bA (iE (ag rfl) (bF (aD (aj (aq (iE (ag rfl) bG (bF i_c rfl) rfl h0) i_c rfl rfl x) ao) rfl p) rfl) bG rfl h1) rfl (Nat.le_of_ble_eq_true rfl) rfl
 have b1:cOr (cB (af eqX (ac 1) (mC (.str "")))) (cB (af neX eB (bd ak))) [#v[.str w],#v[.str (fig w)]]=some (.ok (gx (cod w) (aL (cod w))),[#v[.str w],#v[.str (fig w)]]):=by
  unfold gx
  cases q:decide (aL (cod w)=[]) with
  | true =>
   rw[q] at e1
   exact lj (aQ (aq (ag rfl) i_c rfl rfl e1) rfl) rfl
  | false =>
   rw[q] at e1
   exact d9 (aQ (aq (ag rfl) i_c rfl rfl e1) rfl) rfl (aQ (aq v (bO ao rfl (Nat.le_of_ble_eq_true rfl)) rfl rfl ne) rfl)
 have b2:cOr (cB (af eqX (ac 0) (mC (.str "-0")))) (eR (cB (af gtI (au mI (aa (ac 1) ak)) (mC (.int 1)))) (cB (af eqX (af ixS (ac 1) (mC (.int 0))) (mC (.str "0"))))) [#v[.str w],#v[.str (fig w)]]=some (.ok (Bw (cod w) (aL (cod w))),[#v[.str w],#v[.str (fig w)]]):=by
  unfold Bw
  cases q:decide (cod w=[45,48]) with
  | true =>
   rw[q] at h
   exact lj (aQ (aq (ag rfl) i_c rfl rfl h) rfl) rfl
  | false =>
   rw[q] at h
   refine d9 (aQ (aq (ag rfl) i_c rfl rfl h) rfl) rfl ?_
   cases i:decide (1 < (aL (cod w)).length) with
   | false =>
    rw[i] at gt
    exact lr (aQ (aq (aD (aj (ag rfl) ao) rfl ln) i_c rfl rfl gt) rfl) rfl
   | true =>
    rw[i] at gt
    have k:=of_decide_eq_true i
    obtain ⟨a,r,j⟩:∃ a r,aL (cod w)=a::r:=by
     cases g:aL (cod w) with
     | nil=>rw[g] at k;cases k
     | cons a r=>exact #[a,r,rfl]
    have ix:ixS (.str (fig w)) (.int 0)=#v[.str #[(List.toArray [a])]]:=by
     show (if (fig w).length<=16777216 then (L2.atI (cod (fig w)) 0).map λc=>((.str #[(List.toArray [c])],.z):L3.D×Fl) else none)=_
     rw[if_pos (by omega),bW,j,By]
     rfl
    have y:eqX (.str #[(List.toArray [a])]) (.str "0")=#v[.bl ((aL (cod w)).head? == some 48)]:=by
     show some (L3.D.bl (decide ((#[(List.toArray [a])]:Str)=("0":Str))),Fl.z)=_
     rw[jT,m8,j]
     show some (L3.D.bl (decide ([a]=[48])),Fl.z)=_
     congr 3
     rw[Bool.eq_iff_iff]
     simp
    exact lp (aQ (aq (aD (aj (ag rfl) ao) rfl ln) i_c rfl rfl gt) rfl) rfl (aQ (aq (aq (ag rfl) i_c rfl rfl ix) i_c rfl rfl y) rfl)
 cases g1:gx (cod w) (aL (cod w)) with
 | true =>
  rw[show num w=none by unfold num;rw[g1];rfl]
  rw[g1] at b1
  apply aT (Z:=[#v[.str w],none]) (Z1:=[#v[.str w],#v[.str (fig w)]]) rfl rfl
  .exact am first (bC (cr b1 rfl (a7 i_c rfl)))
  .rfl
 | false =>
  rw[yZ g1] at b2
  rw[g1] at b1
  cases g2:o4 (cod w) (aL (cod w)) with
  | true =>
   rw[show num w=none by unfold num;rw[g1,g2];rfl]
   rw[g2] at b2
   apply aT (Z:=[#v[.str w],none]) (Z1:=[#v[.str w],#v[.str (fig w)]]) rfl rfl
   .exact am first (am (bE b1 rfl rfl) (bC (cr b2 rfl (a7 i_c rfl))))
   .rfl
  | false =>
   rw[g2] at b2
   have hf:aL (cod w)≠[]:=λe=>by
    unfold gx at g1
    rw[FH e] at g1
    cases g1
   have f:NumText.AllDigits (aL (cod w)):=λc b=>by
    unfold gx at g1
    rw[Bool.or_eq_false_iff,Bool.not_eq_false'] at g1
    have:=List.all_eq_true.mp g1.2 c b
    rw[yI] at this
    exact of_decide_eq_true this
   have o:num w=some (if neg w then -(NumText.digitsVal (aL (cod w)):Int) else (NumText.digitsVal (aL (cod w)):Int)):=by
    unfold num
    rw[g1,g2]
    rfl
   have l:ql [.str w]=#v[oD (num w)]:=by
    show (if w.length<=640 then (PySem.intText? w).map λn=>((.int n,.z):L3.D×Fl) else none)=_
    rw[if_pos (by omega),o]
    cases d:neg w with
    | true =>
     have g:cod w=45::aL (cod w):=by
      unfold neg at d
      unfold aL
      rw[if_pos d]
      cases e:cod w with
      | nil=>rw[e] at d;cases d
      | cons a r =>
       rw[e] at d
       have:a=45:=by simpa using d
       rw[this];rfl
     rw[PySem.intText_neg g f hf (by omega)]
     rfl
    | false =>
     have g:aL (cod w)=cod w:=by
      unfold neg at d
      unfold aL
      rw[if_neg (by rw[d];decide)]
     rw[g] at f hf ⊢
     rw[PySem.intText_digits f hf (by omega)]
     rfl
   apply aT (Z:=[#v[.str w],none]) (Z1:=[#v[.str w],#v[.str (fig w)]]) rfl rfl
   .exact am first (am (bE b1 rfl rfl) (am (bE b2 rfl rfl) (a7 (aD (aj (ag rfl) ao) rfl l) rfl)))
   .rfl
end
theorem qk:∀ {ts:List Str} {sep p:Str},p∈ts->∃ A B,cod (Str.join sep ts)=A++cod p++B
 | [a],sep,p,h=>by
  cases FT.mp h
  exact #[[],[],by rw[List.append_nil,List.nil_append];rfl]
 | a::b::r,sep,p,h=>by
  rw[dO]
  rcases Fm.mp h with rfl | h
  .exact #[[],cod sep++cod (Str.join sep (b::r)),by rw[ba,ba,List.nil_append,List.append_assoc]]
  .obtain ⟨A,B,e⟩:=qk (sep:=sep) h
   exact #[cod a++cod sep++A,B,by rw[ba,ba,e];simp]
structure Txt1 (w:Str):Prop where
 l:w.length<=500
 a:∀ c∈cod w,c < 128
theorem Txt1.part {w sep p:Str} (h:Txt1 w) (b:p∈Txt.split w sep):Txt1 p:=by
 obtain ⟨A,B,e⟩:=qk (sep:=sep) b
 rw[StrLaws.join_split] at e
 refine #[?_,λc d=>h.a c (by rw[e];simp[d])]
 have:=h.l
 rw[b9] at this ⊢
 rw[e,FN,FN] at this
 lia
def pt2:Option Int->Option Int->Option Pt
 | some x,some y=>some (x,y)
 | _,_=>none
def pt (w:Str):Option Pt:=match Txt.split w "," with
 | [a,b]=>pt2 (num a) (num b)
 | _=>none
theorem vT:∀ (l:List Nat) (acc:Nat),(∀ c∈l,c<=57)->l.foldl (λacc c=>acc * 10+(c - 48)) acc < (acc+1) * 10 ^ l.length
 | [],acc,_=>by simp
 | c::l,acc,h=>by
  rw[List.foldl_cons,FO]
  have h1:=vT l (acc * 10+(c - 48)) λx a=>h x (Ff _ a)
  have h2:=h c Fe
  refine FJ h1 ?_
  rw[Nat.pow_succ',<- Nat.mul_assoc]
  exact Nat.mul_le_mul_right _ (by omega)
def Ten (x:Int):Prop:=x.natAbs < 10 ^ 500
def BA (p:Pt):Prop:=Ten p.1/\Ten p.2
theorem ni {x:Int} (h:Ten x):Wi x:=by
 have e:(10:Nat) ^ 500<=2 ^ 1700:=by decide +kernel
 have c:((2 ^ 1700:Nat):Int)=(2:Int) ^ 1700:=by norm_cast
 unfold Wi
 unfold Ten at h
 rw[<- c]
 generalize (2:Nat) ^ 1700=A at *
 generalize (10:Nat) ^ 500=B at *
 lia
theorem tf {w:Str} (h:w.length<=500) {x:Int} (e:num w=some x):Ten x:=by
 unfold num at e
 by_cases g:(gx (cod w) (aL (cod w)) || o4 (cod w) (aL (cod w)))=true
 .rw[if_pos g] at e;cases e
 .rw[if_neg g] at e
  have g1:gx (cod w) (aL (cod w))=false:=by
   cases q:gx (cod w) (aL (cod w)) with
   | false=>rfl
   | true=>rw[q] at g;exact absurd rfl g
  have a:∀ c∈aL (cod w),c<=57:=λc b=>by
   unfold gx at g1
   rw[Bool.or_eq_false_iff,Bool.not_eq_false'] at g1
   have:=List.all_eq_true.mp g1.2 c b
   rw[yI] at this
   exact (of_decide_eq_true this).2
  have v:=vT (aL (cod w)) 0 a
  rw[FK,Nat.one_mul] at v
  have fl:=oJ h
  rw[b9,bW] at fl
  have v2:NumText.digitsVal (aL (cod w)) < 10 ^ 500:=FJ v (Nat.pow_le_pow_right (by decide) fl)
  unfold Ten
  generalize NumText.digitsVal (aL (cod w))=V at *
  generalize (10:Nat) ^ 500=B at *
  cases e
  split <;> lia
set_option tactic.hygienic true in
theorem DD {w:Str} (h:Txt1 w) {p:Pt} (e:pt w=some p):BA p:=by
 unfold pt at e
 split at e
 .rename_i a b q
  have ha:=(h.part (sep:=",") (p:=a) (by rw[q];simp)).l
  have f:=(h.part (sep:=",") (p:=b) (by rw[q];simp)).l
  cases c:num a with
  | none=>rw[c] at e;cases e
  | some x =>
   cases d:num b with
   | none=>rw[c,d] at e;cases e
   | some y =>
    rw[c,d] at e
    cases e
    exact #[tf ha c,tf f d]
 .cases e
def pD:Option Pt->L3.D
 | none=>.non
 | some p=>Pd p
theorem mU:((",":Str).length == 0)=false:=by decide +kernel
theorem jZ:((" ":Str).length == 0)=false:=by decide +kernel
theorem fU {w sep:Str} (h:w.length<=500) (a:(sep.length == 0)=false):cI [.str w,.str sep]=some (.lst ((Txt.split w sep).map L3.D.str),.u):=if_pos #[a,by omega]
theorem ow (o:Option Int):isN (oD o) .non=#v[.bl o.isNone]:=by cases o <;> rfl
theorem EC (o:Option Pt):isN (pD o) .non=#v[.bl o.isNone]:=by cases o <;> rfl
theorem md (l:List Str):l.length≠2\/∃ a b,l=[a,b]:=by
 match l with
 | []=>exact .inl (by decide)
 | [_]=>exact .inl (by simp)
 | [a,b]=>exact .inr #[a,b,rfl]
 | _::_::_::_=>exact .inl (by simp)
set_option tactic.hygienic true in
theorem sY {w:Str} (h:(Txt.split w ",").length≠2):pt w=none:=by
 unfold pt
 split
 .rename_i q
  rw[q] at h
  exact absurd rfl h
 .rfl
theorem sX {w a b:Str} (h:Txt.split w ","=[a,b]):pt w=pt2 (num a) (num b):=by
 unfold pt
 rw[h]
abbrev qS (W:L3.D) (a1 a2 a:Option (L3.D×Fl)):Sto:=[#v[W],a1,a2,a]
theorem C5 {w:Str} (h:Txt1 w):cb [(.str w,.z)]=some (.ok (pD (pt w),.z),[(.str w,.z)]):=by
 have sp:=fU h.l mU
 have ln:bL [.lst ((Txt.split w ",").map L3.D.str)]=#v[.int ((Txt.split w ",").length:Int)]:=by
  have:=fm ((Txt.split w ",").map L3.D.str)
  rwa [Ft] at this
 have ne:neX (.int ((Txt.split w ",").length:Int)) (.int 2)=#v[.bl (!decide ((Txt.split w ",").length=2))]:=by
  rw[tj,show decide (((Txt.split w ",").length:Int)=2)=decide ((Txt.split w ",").length=2) by rw[decide_eq_decide];omega]
 rcases md (Txt.split w ",") with h2 | ⟨a,b,h2⟩
 .rw[sY h2]
  rw[FI h2] at ne
  generalize (Txt.split w ",").map L3.D.str=L at *
  generalize L3.D.int ((Txt.split w ",").length:Int)=N at *
  apply aT (Z:=qS (.str w) none none none) (Z1:=qS (.str w) (some (.lst L,.u)) none none) rfl rfl
  .unfold fh
   apply am (Z1:=qS (.str w) (some (.lst L,.u)) none none)
   .exact bA (df (ag rfl) rfl rfl (aj i_c ao) rfl sp) rfl (Nat.le_of_ble_eq_true rfl) rfl
   exact bC (cr (b:=true) (aQ (aq (aD (aj (ag rfl) ao) rfl ln) i_c rfl rfl ne) rfl) rfl (a7 i_c rfl))
  .rfl
 .rw[sX h2]
  have ra:=sK (h.part (sep:=",") (p:=a) (by rw[h2];simp)).l
  have rb:=sK (h.part (sep:=",") (p:=b) (by rw[h2];simp)).l
  rw[h2] at sp ln ne
  have s0:aw (.lst [.str a,.str b]) (.int 0)=#v[.str a]:=bM rfl
  have s1:aw (.lst [.str a,.str b]) (.int 1)=#v[.str b]:=bM rfl
  have d:=ow (num a)
  have g:=ow (num b)
  have ln:bL [.lst [.str a,.str b]]=#v[.int 2]:=ln
  have ne:neX (.int 2) (.int 2)=#v[.bl false]:=ne
  have sp:cI [.str w,.str ","]=some (.lst [.str a,.str b],.u):=sp
  have t1:aJ 1 (bR isS cI (ac 0) (aa (mC (.str ",")) ak)) (qS (.str w) none none none)=some (.ok .nx,qS (.str w) (some (.lst [.str a,.str b],.u)) none none):=bA (df (ag rfl) rfl rfl (aj i_c ao) rfl sp) rfl (Nat.le_of_ble_eq_true rfl) rfl
  generalize L3.D.lst [.str a,.str b]=L at *
  have t2:sIf (cB (af neX (au bL (aa (ac 1) ak)) (mC (.int 2)))) (aN 1 (mC .non)) bK (qS (.str w) (some (L,.u)) none none)=some (.ok .nx,qS (.str w) (some (L,.u)) none none):=bE (b:=false) (aQ (aq (aD (aj (ag rfl) ao) rfl ln) i_c rfl rfl ne) rfl) rfl rfl
  have t3:aJ 2 (ay bD (aa (af aw (ac 1) (mC (.int 0))) ak)) (qS (.str w) (some (L,.u)) none none)=some (.ok .nx,qS (.str w) (some (L,.u)) #v[oD (num a)] none):=bA (aE ra (aj (aq (ag rfl) i_c rfl rfl s0) ao) rfl rfl rfl) rfl (Nat.le_of_ble_eq_true rfl) rfl
  have f:aJ 3 (ay bD (aa (af aw (ac 1) (mC (.int 1))) ak)) (qS (.str w) (some (L,.u)) #v[oD (num a)] none)=some (.ok .nx,qS (.str w) (some (L,.u)) #v[oD (num a)] #v[oD (num b)]):=bA (aE rb (aj (aq (ag rfl) i_c rfl rfl s1) ao) rfl rfl rfl) rfl (Nat.le_of_ble_eq_true rfl) rfl
  have c:cOr (cB (af isN (ac 2) (mC .non))) (cB (af isN (ac 3) (mC .non))) (qS (.str w) (some (L,.u)) #v[oD (num a)] #v[oD (num b)])=some (.ok ((num a).isNone || (num b).isNone),qS (.str w) (some (L,.u)) #v[oD (num a)] #v[oD (num b)]):=by
   generalize oD (num a)=A at *
   generalize oD (num b)=B at *
   cases q:(num a).isNone with
   | true =>
    rw[q] at d
    exact lj (aQ (aq (ag rfl) i_c rfl rfl d) rfl) rfl
   | false =>
    rw[q] at d
    exact d9 (aQ (aq (ag rfl) i_c rfl rfl d) rfl) rfl (aQ (aq (ag rfl) i_c rfl rfl g) rfl)
  have fin:∀ {r:L3.D} {Z1:Sto},dM Z1 0 [(L3.D.str w,Fl.z)]=some [(L3.D.str w,Fl.z)]->aB (sIf (cOr (cB (af isN (ac 2) (mC .non))) (cB (af isN (ac 3) (mC .non)))) (aN 1 (mC .non)) bK) (aN 1 (cn (aa (ac 2) (aa (ac 3) ak)))) (qS (.str w) (some (L,.u)) #v[oD (num a)] #v[oD (num b)])=some (.ok (.rt r .z),Z1)->cb [(.str w,.z)]=some (.ok (r,.z),[(.str w,.z)]):=λ{r Z1} hf j=>by
   apply aT (Z:=qS (.str w) none none none) rfl rfl
   .unfold fh
    exact am t1 (am t2 (am t3 (am f j)))
   .exact hf
  clear t1 t2 t3 f ra rb d g
  cases e:num a with
  | none =>
   rw[e] at c fin
   exact fin rfl (bC (cr c rfl (a7 i_c rfl)))
  | some x =>
   cases i:num b with
   | none =>
    rw[e,i] at c fin
    exact fin rfl (bC (cr c rfl (a7 i_c rfl)))
   | some y =>
    rw[e,i] at c fin
    exact fin rfl (am (bE c rfl rfl) (a7 (bO (aj (ag rfl) (aj (ag rfl) ao)) rfl (Nat.le_of_ble_eq_true rfl)) rfl))
def bad (acc:List Pt) (p:Pt):Bool:=match acc.getLast? with
 | none=>false
 | some q=>decide (p.1<=q.1)
def go:List Str->List Pt->Bool×List Pt
 | [],acc=>(true,acc)
 | w::ws,acc=>match pt w with
  | none=>(false,acc)
  | some p=>if bad acc p then (false,acc) else go ws (acc++[p])
theorem oF {w:Str} {ws:List Str} {acc:List Pt} (h:pt w=none):go (w::ws) acc=(false,acc):=by
 conv=>lhs;unfold go
 rw[h]
theorem rQ {w:Str} {ws:List Str} {acc:List Pt} {p:Pt} (h:pt w=some p) (a:bad acc p=true):go (w::ws) acc=(false,acc):=by
 conv=>lhs;unfold go
 rw[h]
 exact if_pos a
theorem oG {w:Str} {ws:List Str} {acc:List Pt} {p:Pt} (h:pt w=some p) (a:bad acc p=false):go (w::ws) acc=go ws (acc++[p]):=by
 conv=>lhs;unfold go
 rw[h]
 exact if_neg (by rw[a];decide)
theorem uc (acc:List Pt) (q:Pt):aw (.lst ((acc++[q]).map Pd)) (.int (-1))=#v[Pd q]:=by
 refine bM ?_
 unfold L2.atI L2.ixN
 rw[if_neg (by omega),if_pos (by simp;omega)]
 have e:(-1+(((acc++[q]).map Pd).length:Int)).toNat=acc.length:=by simp;omega
 show ((acc++[q]).map Pd)[(-1+(((acc++[q]).map Pd).length:Int)).toNat]?=_
 rw[e,List.map_append,List.getElem?_append_right (by simp)]
 simp
abbrev xL (acc:List Pt):L3.D:=.lst (acc.map Pd)
abbrev pS (T:L3.D) (acc:List Pt) (a2 a a4:Option (L3.D×Fl)):Sto:=[#v[T],some (xL acc,.u),a2,a,a4]
theorem xW (acc:List Pt):bL [xL acc]=#v[.int (acc.length:Int)]:=by
 have:=fm (acc.map Pd)
 rwa [Ft] at this
theorem o3 (acc:List Pt) (p:Pt):(acc=[]/\bad acc p=false)\/∃ q init,acc=init++[q]/\bad acc p=decide (p.1<=q.1):=by
 rcases List.eq_nil_or_concat acc with rfl | ⟨init,q,rfl⟩
 .exact .inl #[rfl,rfl]
 .rw[List.concat_eq_append]
  exact .inr #[q,init,rfl,by unfold bad;rw[List.getLast?_append];rfl]
theorem jv {c n:String} {ms:M3 (List R3)} {r:R3} {d:L3.D} {Z Z1:Sto} (h:ms Z=some (.ok [r],Z1)) (hd:der r Z1=some (.ok d,Z1)) (hi:imm d=true):dh c n ms Z=some (.error (.exc c [(n,d)]),Z1):=by
 simp only[dh,ai,h,hd,hi,if_true]
theorem qo {c:M3 Bool} {a b:SM} {Z Z1 Z2:Sto} {e:L3.D} (h1:c Z=some (.ok true,Z1)) (h2:a Z1=some (.error e,Z2)):sIf c a b Z=some (.error e,Z2):=by
 simp only[sIf,ai,h1,if_true,h2]
theorem jH {a b:SM} {Z Z1:Sto} {e:L3.D} (h:a Z=some (.error e,Z1)):aB a b Z=some (.error e,Z1):=by
 simp only[aB,ai,h]
abbrev noT (n:Nat):L3.D:=.exc "NoText" [("at",.int (n:Int))]
section
variable {T:L3.D} {a4:Option (L3.D×Fl)}
theorem DT {w:Str} (h:Txt1 w) {acc:List Pt} (hl:acc.length<=1000) (f:Option (L3.D×Fl)):∃ j,bv (pS T acc #v[.str w] f a4)=match pt w with
  | none=>some (.error (noT acc.length),pS T acc #v[.str w] j a4)
  | some p=>if bad acc p then some (.error (noT acc.length),pS T acc #v[.str w] j a4) else some (.ok .nx,pS T (acc++[p]) #v[.str w] j a4):=by
 have g:=C5 h
 have c:=EC (pt w)
 have ln:=xW acc
 refine #[#v[pD (pt w)],?_]
 have first:aJ 3 (ay cb (aa (ac 2) ak)) (pS T acc #v[.str w] f a4)=some (.ok .nx,pS T acc #v[.str w] #v[pD (pt w)] a4):=bA (aE g (aj (ag rfl) ao) rfl rfl rfl) rfl (Nat.le_of_ble_eq_true rfl) rfl
 have ra:∀ b:L3.D,dh "NoText" "at" (aa (au bL (aa (ac 1) ak)) ak) (pS T acc #v[.str w] #v[b] a4)=some (.error (noT acc.length),pS T acc #v[.str w] #v[b] a4):=λb=>jv (aj (aD (aj (ag rfl) ao) rfl ln) ao) rfl rfl
 unfold bv
 cases e:pt w with
 | none =>
  rw[e] at first c
  exact am first (jH (qo (aQ (aq (ag rfl) i_c rfl rfl c) rfl) (ra _)))
 | some p =>
  rw[e] at first c
  have second:∀ b:SM,sIf (cB (af isN (ac 3) (mC .non))) b bK (pS T acc #v[.str w] #v[Pd p] a4)=some (.ok .nx,pS T acc #v[.str w] #v[Pd p] a4):=λb=>bE (b:=false) (aQ (aq (ag rfl) i_c rfl rfl c) rfl) rfl rfl
  have s0:aw (Pd p) (.int 0)=#v[.int p.1]:=bq rfl
  have app:l5 (xL acc) [Pd p]=some (xL (acc++[p]),.non):=by
   have:=su (A:=acc.map Pd) (d:=Pd p) (by rw[Ft];omega)
   rw[this]
   show _=some (L3.D.lst ((acc++[p]).map Pd),_)
   rw[List.map_append];rfl
  have test:eR (cB (af gtI (au bL (aa (ac 1) ak)) (mC (.int 0)))) (cB (af leI (af aw (ac 3) (mC (.int 0))) (af aw (af aw (ac 1) (mUn fN (mC (.int 1)))) (mC (.int 0))))) (pS T acc #v[.str w] #v[Pd p] a4)=some (.ok (bad acc p),pS T acc #v[.str w] #v[Pd p] a4):=by
   rcases o3 acc p with ⟨rfl,a⟩ | ⟨q,init,rfl,a⟩
   .rw[a]
    have gt:gtI (.int 0) (.int 0)=#v[.bl false]:=rfl
    exact lr (aQ (aq (aD (aj (ag rfl) ao) rfl ln) i_c rfl rfl gt) rfl) rfl
   .rw[a]
    have al:=uc init q
    have s1:aw (Pd q) (.int 0)=#v[.int q.1]:=bq rfl
    have gt:gtI (.int ((init++[q]).length:Int)) (.int 0)=#v[.bl true]:=by
     show some (L3.D.bl (decide ((0:Int) < ((init++[q]).length:Int))),Fl.z)=_
     rw[FH (show (0:Int) < ((init++[q]).length:Int) by simp)]
    have le:leI (.int p.1) (.int q.1)=#v[.bl (decide (p.1<=q.1))]:=rfl
    have i:fN (.int 1)=#v[.int (-1)]:=rfl
    generalize decide (p.1<=q.1)=dd at *
    exact lp (aQ (aq (aD (aj (ag rfl) ao) rfl ln) i_c rfl rfl gt) rfl) rfl (aQ (aq (aq (ag rfl) i_c rfl rfl s0) (aq (aq (ag rfl) (ft i_c rfl i) rfl rfl al) i_c rfl rfl s1) rfl rfl le) rfl)
  dsimp only
  cases a:bad acc p with
  | true =>
   rw[a] at test
   rw[if_pos rfl]
   exact am first (am (second _) (jH (qo test (ra _))))
  | false =>
   rw[a] at test
   rw[if_neg (by decide)]
   refine am first (am (second _) (am (bE test rfl rfl) ?_))
   exact rO (ym rfl rfl (aj (ag rfl) ao) rfl rfl app rfl)
theorem Cc {bnd:L3.D->Sto->Option Sto} {b:SM} {d:L3.D} {ds:List L3.D} {Z Z1 Z2:Sto} {e:L3.D} (h1:bnd d Z=some Z1) (h2:b Z1=some (.error e,Z2)):bZ bnd b (d::ds) Z=some (.error e,Z2):=by
 unfold bZ
 simp only[h1,ai,h2]
theorem Ca {bnd:L3.D->Sto->Option Sto} {b:SM} {d:L3.D} {ds:List L3.D} {Z Z1 Z2:Sto} {x:Option (Except L3.D Flw×Sto)} (h1:bnd d Z=some Z1) (h2:b Z1=some (.ok .nx,Z2)) (h3:bZ bnd b ds Z2=x):bZ bnd b (d::ds) Z=x:=by
 unfold bZ
 simp only[h1,ai,h2]
 exact h3
theorem xn:∀ (ws:List Str) (acc:List Pt) (a2 a:Option (L3.D×Fl)),(∀ w∈ws,Txt1 w)->acc.length+ws.length<=1000->∃ I j,bZ (aC 2) bv (ws.map L3.D.str) (pS T acc a2 a a4)=some (if (go ws acc).1 then .ok .nx else .error (noT (go ws acc).2.length),pS T (go ws acc).2 I j a4)
 | [],acc,a2,a,_,_=>#[a2,a,rfl]
 | w::ws,acc,a2,a,h,hl=>by
  rw[FO] at hl
  obtain ⟨j,e⟩:=DT (T:=T) (a4:=a4) (h w Fe) (acc:=acc) (by omega) a
  rw[FF]
  cases q:pt w with
  | none =>
   rw[q] at e
   refine #[#v[.str w],j,?_]
   rw[oF q]
   exact Cc rfl e
  | some p =>
   rw[q] at e
   dsimp only at e
   cases b:bad acc p with
   | true =>
    rw[b,if_pos rfl] at e
    refine #[#v[.str w],j,?_]
    rw[rQ q b]
    exact Cc rfl e
   | false =>
    rw[b,if_neg (by decide)] at e
    obtain ⟨d,c,r⟩:=xn ws (acc++[p]) #v[.str w] j (λy f=>h y (Ff _ f)) (by rw[FN];simp;omega)
    refine #[d,c,?_]
    rw[oG q b]
    exact Ca rfl e r
end
abbrev lS (T:L3.D) (acc:List Pt) (a2 a a4 b c:Option (L3.D×Fl)):Sto:=[#v[T],some (xL acc,.u),a2,a,a4,b,c]
abbrev Py2 (p:Pt):PyData:=.tuple [.int p.1,.int p.2]
theorem wY:∀ ps:List Pt,fM (ps.map Pd)=some (ps.map Py2)/\PyData.canLayAll0 (ps.map Py2)=true/\PyData.depthAll (ps.map Py2)<=1
 | []=>#[rfl,rfl,by simp[PyData.depthAll]]
 | p::ps=>by
  obtain ⟨a,b,c⟩:=wY ps
  refine #[?_,by simp[PyData.canLayAll0,PyData.canLay0,b],by simp[PyData.depthAll,PyData.depth];omega]
  show (match pyD (Pd p),fM (ps.map Pd) with | some p,some ps=>some (p::ps) | _,_=>none)=_
  rw[a]
  rfl
theorem Ei (acc:List Pt):neX (xL acc) (.lst [])=#v[.bl (!acc.isEmpty)]:=by
 obtain ⟨a,b,c⟩:=wY acc
 have d:pyD (xL acc)=some (.list (acc.map Py2)):=by unfold pyD;rw[a];rfl
 have p2:pyD (.lst [])=some (.list []):=rfl
 have e:eqA (xL acc) (.lst [])=some acc.isEmpty:=by
  show eqP _ _=_
  unfold eqP
  rw[d,p2]
  show (if _ then _ else _)=_
  rw[if_pos (by simp[PyData.canLay0,PyData.canLayAll0,b,PyData.depth,PyData.depthAll])]
  cases acc <;> simp[PyData.eqv,PyData.eqvAll]
 show (eqA _ _).map _=_
 rw[e]
 rfl
section
variable {T:L3.D}
theorem Eu {w:Str} (h:Txt1 w) {acc:List Pt} (hl:acc.length<=1000) (a4 c f:Option (L3.D×Fl)):∃ R O J,d6 (lS T acc #v[.int (acc.length:Int)] #v[.str w] a4 c f)=match pt w with
  | none=>some (.ok (.rt (.int (acc.length:Int)) .z),lS T acc #v[.int (acc.length:Int)] #v[.str w] R O J)
  | some p=>if bad acc p then some (.ok (.rt (.int (acc.length:Int)) .z),lS T acc #v[.int (acc.length:Int)] #v[.str w] R O J) else some (.ok .nx,lS T (acc++[p]) #v[.int (acc.length:Int)] #v[.str w] R O J):=by
 have sp:=fU h.l mU
 have ln:bL [.lst ((Txt.split w ",").map L3.D.str)]=#v[.int ((Txt.split w ",").length:Int)]:=by
  have:=fm ((Txt.split w ",").map L3.D.str)
  rwa [Ft] at this
 have ne:neX (.int ((Txt.split w ",").length:Int)) (.int 2)=#v[.bl (!decide ((Txt.split w ",").length=2))]:=by
  rw[tj,show decide (((Txt.split w ",").length:Int)=2)=decide ((Txt.split w ",").length=2) by rw[decide_eq_decide];omega]
 unfold d6
 rcases md (Txt.split w ",") with h2 | ⟨a,b,h2⟩
 .rw[sY h2]
  rw[FI h2] at ne
  generalize (Txt.split w ",").map L3.D.str=L at *
  generalize L3.D.int ((Txt.split w ",").length:Int)=N at *
  refine #[some (.lst L,.u),c,f,?_]
  apply am (Z1:=lS T acc #v[.int (acc.length:Int)] #v[.str w] (some (.lst L,.u)) c f)
  .exact bA (df (ag rfl) rfl rfl (aj i_c ao) rfl sp) rfl (Nat.le_of_ble_eq_true rfl) rfl
  exact bC (cr (b:=true) (aQ (aq (aD (aj (ag rfl) ao) rfl ln) i_c rfl rfl ne) rfl) rfl (a7 (ag rfl) rfl))
 .rw[sX h2]
  have r:=h.part (sep:=",") (p:=a) (by rw[h2];simp)
  have o:=h.part (sep:=",") (p:=b) (by rw[h2];simp)
  have ra:=pE r.l r.a
  have rb:=pE o.l o.a
  rw[h2] at sp ln ne
  have s0:aw (.lst [.str a,.str b]) (.int 0)=#v[.str a]:=bM rfl
  have s1:aw (.lst [.str a,.str b]) (.int 1)=#v[.str b]:=bM rfl
  have k:=ow (num a)
  have i:=ow (num b)
  have ln:bL [.lst [.str a,.str b]]=#v[.int 2]:=ln
  have ne:neX (.int 2) (.int 2)=#v[.bl false]:=ne
  have sp:cI [.str w,.str ","]=some (.lst [.str a,.str b],.u):=sp
  refine #[some (.lst [.str a,.str b],.u),#v[oD (num a)],#v[oD (num b)],?_]
  generalize C:L3.D.int (acc.length:Int)=I
  generalize L3.D.lst [.str a,.str b]=L at *
  have t1:aJ 4 (bR isS cI (ac 3) (aa (mC (.str ",")) ak)) (lS T acc #v[I] #v[.str w] a4 c f)=some (.ok .nx,lS T acc #v[I] #v[.str w] (some (L,.u)) c f):=bA (df (ag rfl) rfl rfl (aj i_c ao) rfl sp) rfl (Nat.le_of_ble_eq_true rfl) rfl
  have t2:sIf (cB (af neX (au bL (aa (ac 4) ak)) (mC (.int 2)))) (aN 1 (ac 2)) bK (lS T acc #v[I] #v[.str w] (some (L,.u)) c f)=some (.ok .nx,lS T acc #v[I] #v[.str w] (some (L,.u)) c f):=bE (b:=false) (aQ (aq (aD (aj (ag rfl) ao) rfl ln) i_c rfl rfl ne) rfl) rfl rfl
  have t3:nG 5 6 (aa (ay bP (aa (af aw (ac 4) (mC (.int 0))) ak)) (aa (ay bP (aa (af aw (ac 4) (mC (.int 1))) ak)) ak)) (lS T acc #v[I] #v[.str w] (some (L,.u)) c f)=some (.ok .nx,lS T acc #v[I] #v[.str w] (some (L,.u)) #v[oD (num a)] #v[oD (num b)]) :=
   B3 (aj (aE ra (aj (aq (ag rfl) i_c rfl rfl s0) ao) rfl rfl rfl) (aj (aE rb (aj (aq (ag rfl) i_c rfl rfl s1) ao) rfl rfl rfl) ao)) rfl (Nat.le_of_ble_eq_true rfl) (Nat.le_of_ble_eq_true rfl) rfl
  have test:∀ rest:M3 Bool,∀ x:Bool,((num a).isNone=false->(num b).isNone=false->rest (lS T acc #v[I] #v[.str w] (some (L,.u)) #v[oD (num a)] #v[oD (num b)])=some (.ok x,lS T acc #v[I] #v[.str w] (some (L,.u)) #v[oD (num a)] #v[oD (num b)]))->cOr (cB (af isN (ac 5) (mC .non))) (cOr (cB (af isN (ac 6) (mC .non))) rest) (lS T acc #v[I] #v[.str w] (some (L,.u)) #v[oD (num a)] #v[oD (num b)])=some (.ok ((num a).isNone || ((num b).isNone || x)),lS T acc #v[I] #v[.str w] (some (L,.u)) #v[oD (num a)] #v[oD (num b)]):=λrest x v=>by
   generalize oD (num a)=A at *
   generalize oD (num b)=B at *
   cases q:(num a).isNone with
   | true =>
    rw[q] at k
    exact lj (aQ (aq (ag rfl) i_c rfl rfl k) rfl) rfl
   | false =>
    rw[q] at k
    refine d9 (aQ (aq (ag rfl) i_c rfl rfl k) rfl) rfl ?_
    cases m:(num b).isNone with
    | true =>
     rw[m] at i
     exact lj (aQ (aq (ag rfl) i_c rfl rfl i) rfl) rfl
    | false =>
     rw[m] at i
     exact d9 (aQ (aq (ag rfl) i_c rfl rfl i) rfl) rfl (v q m)
  have fin:∀ {x:Option (Except L3.D Flw×Sto)},aB (sIf (cOr (cB (af isN (ac 5) (mC .non))) (cOr (cB (af isN (ac 6) (mC .non))) (eR (cB (af neX (ac 1) (bd ak))) (cB (af leI (ac 5) (af aw (af aw (ac 1) (mUn fN (mC (.int 1)))) (mC (.int 0)))))))) (aN 1 (ac 2)) bK) (iH (lV isL l5 1 (aa (cn (aa (ac 5) (aa (ac 6) ak))) ak))) (lS T acc #v[I] #v[.str w] (some (L,.u)) #v[oD (num a)] #v[oD (num b)])=x->aB (aJ 4 (bR isS cI (ac 3) (aa (mC (.str ",")) ak))) (aB (sIf (cB (af neX (au bL (aa (ac 4) ak)) (mC (.int 2)))) (aN 1 (ac 2)) bK) (aB (nG 5 6 (aa (ay bP (aa (af aw (ac 4) (mC (.int 0))) ak)) (aa (ay bP (aa (af aw (ac 4) (mC (.int 1))) ak)) ak))) (aB (sIf (cOr (cB (af isN (ac 5) (mC .non))) (cOr (cB (af isN (ac 6) (mC .non))) (eR (cB (af neX (ac 1) (bd ak))) (cB (af leI (ac 5) (af aw (af aw (ac 1) (mUn fN (mC (.int 1)))) (mC (.int 0)))))))) (aN 1 (ac 2)) bK) (iH (lV isL l5 1 (aa (cn (aa (ac 5) (aa (ac 6) ak))) ak)))))) (lS T acc #v[I] #v[.str w] a4 c f)=x:=λe=>am t1 (am t2 (am t3 e))
  refine fin ?_
  clear fin t1 t2 t3
  cases j:num a with
  | none =>
   have:=test (eR (cB (af neX (ac 1) (bd ak))) (cB (af leI (ac 5) (af aw (af aw (ac 1) (mUn fN (mC (.int 1)))) (mC (.int 0)))))) true (λz _=>by rw[j] at z;cases z)
   rw[j] at this
   exact bC (cr this rfl (a7 (ag rfl) rfl))
  | some x =>
   cases n:num b with
   | none =>
    have:=test (eR (cB (af neX (ac 1) (bd ak))) (cB (af leI (ac 5) (af aw (af aw (ac 1) (mUn fN (mC (.int 1)))) (mC (.int 0)))))) true (λ_ z=>by rw[n] at z;cases z)
    rw[j,n] at this
    exact bC (cr this rfl (a7 (ag rfl) rfl))
   | some y =>
    rw[j,n] at test
    have tt:eR (cB (af neX (ac 1) (bd ak))) (cB (af leI (ac 5) (af aw (af aw (ac 1) (mUn fN (mC (.int 1)))) (mC (.int 0))))) (lS T acc #v[I] #v[.str w] (some (L,.u)) #v[.int x] #v[.int y])=some (.ok (bad acc (x,y)),lS T acc #v[I] #v[.str w] (some (L,.u)) #v[.int x] #v[.int y]):=by
     have np:=Ei acc
     rcases o3 acc (x,y) with ⟨rfl,g⟩ | ⟨q,init,rfl,g⟩
     .rw[g]
      exact lr (aQ (aq (ag rfl) (bO ao rfl (Nat.le_of_ble_eq_true rfl)) rfl rfl np) rfl) rfl
     .rw[g]
      have al:=uc init q
      have s1:aw (Pd q) (.int 0)=#v[.int q.1]:=bq rfl
      have le:leI (.int x) (.int q.1)=#v[.bl (decide (x<=q.1))]:=rfl
      have s:fN (.int 1)=#v[.int (-1)]:=rfl
      have np:neX (xL (init++[q])) (.lst [])=#v[.bl true]:=by
       rw[np,show (init++[q]).isEmpty=false by cases init <;> rfl]
       rfl
      exact lp (aQ (aq (ag rfl) (bO ao rfl (Nat.le_of_ble_eq_true rfl)) rfl rfl np) rfl) rfl (aQ (aq (ag rfl) (aq (aq (ag rfl) (ft i_c rfl s) rfl rfl al) i_c rfl rfl s1) rfl rfl le) rfl)
    have t:=test _ _ λ_ _=>tt
    have app:l5 (xL acc) [.tup [.int x,.int y]]=some (xL (acc++[(x,y)]),.non):=by
     have:=su (A:=acc.map Pd) (d:=Pd (x,y)) (by rw[Ft];omega)
     rw[this]
     show _=some (L3.D.lst ((acc++[(x,y)]).map Pd),_)
     rw[List.map_append];rfl
    show _=if bad acc (x,y) then _ else _
    cases g:bad acc (x,y) with
    | true =>
     rw[g] at t
     rw[if_pos rfl]
     exact bC (cr t rfl (a7 (ag rfl) rfl))
    | false =>
     rw[g] at t
     rw[if_neg (by decide)]
     refine am (bE t rfl rfl) ?_
     exact rO (ym rfl rfl (aj (bO (aj (ag rfl) (aj (ag rfl) ao)) rfl (Nat.le_of_ble_eq_true rfl)) ao) rfl rfl app rfl)
end
theorem B9 {bnd:L3.D->Sto->Option Sto} {b:SM} {d:L3.D} {ds:List L3.D} {Z Z1 Z2:Sto} {y:L3.D} {g:Fl} (h1:bnd d Z=some Z1) (h2:b Z1=some (.ok (.rt y g),Z2)):bZ bnd b (d::ds) Z=some (.ok (.rt y g),Z2):=by
 unfold bZ
 simp only[h1,ai,h2,bb]
theorem xZ {T:L3.D}:∀ (ws:List Str) (acc:List Pt) (a2 c a4 a b:Option (L3.D×Fl)),(∀ w∈ws,Txt1 w)->acc.length+ws.length<=1000->∃ R O J I j,bZ (gz 2 (a9 (aC 2) (a9 (aC 3) fB))) d6 (dX acc.length (ws.map L3.D.str)) (lS T acc a2 c a4 a b)=some (if (go ws acc).1 then .ok .nx else .ok (.rt (.int ((go ws acc).2.length:Int)) .z),lS T (go ws acc).2 R O J I j)
 | [],acc,a2,c,a4,a,b,_,_=>#[a2,c,a4,a,b,rfl]
 | w::ws,acc,a2,c,a4,a,b,h,hl=>by
  rw[FO] at hl
  obtain ⟨J,I,j,e⟩:=Eu (T:=T) (h w Fe) (acc:=acc) (by omega) a4 a b
  rw[FF]
  show ∃ R O J I j,bZ _ _ (.tup [.int (acc.length:Int),.str w]::dX (acc.length+1) (ws.map L3.D.str)) _=_
  cases q:pt w with
  | none =>
   rw[q] at e
   refine #[#v[.int (acc.length:Int)],#v[.str w],J,I,j,?_]
   rw[oF q]
   exact B9 rfl e
  | some p =>
   rw[q] at e
   dsimp only at e
   cases d:bad acc p with
   | true =>
    rw[d,if_pos rfl] at e
    refine #[#v[.int (acc.length:Int)],#v[.str w],J,I,j,?_]
    rw[rQ q d]
    exact B9 rfl e
   | false =>
    rw[d,if_neg (by decide)] at e
    have f:(acc++[p]).length=acc.length+1:=by rw[FN];rfl
    obtain ⟨m,i,n,g,k,r⟩:=xZ (T:=T) ws (acc++[p]) #v[.int (acc.length:Int)] #v[.str w] J I j (λy l=>h y (Ff _ l)) (by rw[f];omega)
    rw[f] at r
    refine #[m,i,n,g,k,?_]
    rw[oG q d]
    exact Ca rfl e r
structure Okp (acc:List Pt):Prop where
 r:Rising acc
 t:∀ p∈acc,BA p
theorem xw {acc:List Pt} {p:Pt} (h:Okp acc) (d:BA p) (b:bad acc p=false):Okp (acc++[p]):=by
 refine #[h.r.snoc λq a=>?_,λq a=>?_]
 .rcases o3 acc p with ⟨rfl,_⟩ | ⟨z,init,rfl,hz⟩
  .cases a
  .rw[hz] at b
   have lt:z.1 < p.1:=Int.not_le.mp (of_decide_eq_false b)
   rcases Fq.mp a with a | a
   .obtain ⟨i,hi⟩:=List.getElem?_of_mem a
    have c:=(Fu.mp hi).1
    have:=h.r i init.length q z c (by rw[FW c];exact hi) (by rw[List.getElem?_append_right (FA _)];simp)
    lia
   .cases FT.mp a
    exact lt
 .rcases Fq.mp a with a | a
  .exact h.t q a
  .cases FT.mp a;exact d
theorem tL:∀ (ws:List Str) (acc:List Pt),Okp acc->(∀ w∈ws,Txt1 w)->Okp (go ws acc).2/\((go ws acc).1=true->(go ws acc).2.length=acc.length+ws.length)/\(go ws acc).2.length<=acc.length+ws.length
 | [],acc,h,_=>#[h,λ_=>rfl,FA _]
 | w::ws,acc,h,hw=>by
  cases q:pt w with
  | none=>rw[oF q];exact #[h,λz=>(by cases z),Nat.le_add_right ..]
  | some p =>
   cases j:bad acc p with
   | true=>rw[rQ q j];exact #[h,λz=>(by cases z),Nat.le_add_right ..]
   | false =>
    rw[oG q j]
    obtain ⟨a,b,c⟩:=tL ws (acc++[p]) (xw h (DD (hw w Fe) q) j) λy d=>hw y (Ff _ d)
    rw[FN,List.length_singleton] at b c
    rw[FO]
    exact #[a,λz=>by rw[b z];omega,by omega]
theorem Aq (ps:List Pt):(ps.map Pd).all iW=true:=by
 refine List.all_eq_true.mpr λd hd=>?_
 obtain ⟨p,_,rfl⟩:=Fy.mp hd
 rfl
theorem DA (ps:List Pt):∀ d∈ps.map Pd,okp d=true:=λd hd=>by
 obtain ⟨p,_,rfl⟩:=Fy.mp hd
 rfl
theorem zT {acc:List Pt} (h:Okp acc) (h1:1<=acc.length) (hl:acc.length<=1000):∃ b,fD [(Shd acc,.z)]=some (.ok (.bl b,.z),[(Shd acc,.z)])/\(b=true ↔ acc.length<=24/\NoLine acc):=by
 have ap:=zb (DA acc) (by rw[Ft];omega)
 rw[Aq,Ft,Bool.and_true] at ap
 have ap:cX [(Shd acc,.z)]=_:=ap
 by_cases a:acc.length<=24
 .rw[FH #[h1,a]] at ap
  have c:=wM acc h1 a
  rw[(Ac acc).mpr h.r] at c
  obtain ⟨d,f,hd⟩:=Bd a λp e=>#[ni (h.t p e).1,ni (h.t p e).2]
  have is:isN d .non=#v[.bl (iK d)]:=by cases d <;> rfl
  refine #[iK d,?_,by rw[hd];exact #[λz=>#[a,z],λz=>z.2]]
  have it:eP "tuple" (Shd acc)=#v[.bl true]:=rfl
  generalize Shd acc=T at *
  apply aT (Z:=[#v[T]]) (Z1:=[#v[T]]) rfl rfl
  .unfold iU
   apply am (Z1:=[#v[T]])
   .exact bE (b:=false) (d9 (b:=false) (cy (b:=true) (aQ (ft (ag rfl) rfl it) rfl)) rfl (cy (b:=true) (aQ (aE ap (aj (ag rfl) ao) rfl rfl rfl) rfl))) rfl rfl
   .exact a7 (yr (aE c (aj (ag rfl) ao) rfl rfl rfl) rfl λ_=>aq (aE f (aj (ag rfl) ao) rfl rfl rfl) i_c rfl rfl is) rfl
  .rfl
 .rw[FI λz=>a z.2] at ap
  refine #[false,?_,#[λz=>(by cases z),λz=>absurd z.1 a]]
  have it:eP "tuple" (Shd acc)=#v[.bl true]:=rfl
  generalize Shd acc=T at *
  apply aT (Z:=[#v[T]]) (Z1:=[#v[T]]) rfl rfl
  .unfold iU
   exact bC (cr (b:=true) (d9 (b:=false) (cy (b:=true) (aQ (ft (ag rfl) rfl it) rfl)) rfl (cy (b:=false) (aQ (aE ap (aj (ag rfl) ao) rfl rfl rfl) rfl))) rfl (a7 i_c rfl))
  .rfl
def Res (t:Str) (d:L3.D):Prop:=∃ acc,acc=(go (Txt.split t " ") []).2/\(((go (Txt.split t " ") []).1=true/\acc.length<=24/\NoLine acc/\d=Shd acc)\/(¬ ((go (Txt.split t " ") []).1=true/\acc.length<=24/\NoLine acc)/\d=.int (acc.length:Int)))
theorem i_enu {ms:M3 (List R3)} {Z Z1:Sto} {rs:List R3} {xs:List L3.D} (h1:ms Z=some (.ok rs,Z1)) (h2:dw rs Z1=some (.ok [.lst xs],Z1)):iX ms Z=some (.ok (rs,dX 0 xs),Z1):=by
 simp only[iX,ai,h1,h2,bc,FQ]
section
variable {t:Str} (h:Txt1 t)
include h
theorem vP:(∀ w∈Txt.split t " ",Txt1 w)/\1<=(Txt.split t " ").length/\(Txt.split t " ").length<=502:=by
 have:=PyProof.Rows.split_le t " "
 have:=h.l
 exact #[λw hw=>h.part hw,PyProof.Rows.split_pos t " ",by omega]
theorem uC:∃ d,Res t d/\eV [(.str t,.z)]=some (.ok (d,.z),[(.str t,.z)]):=by
 obtain ⟨hw,o,n⟩:=vP h
 obtain ⟨v2,m,v4,v5,v6,lo⟩:=xZ (T:=.str t) (Txt.split t " ") [] none none none none none hw (by simp;omega)
 obtain ⟨ok,len,le⟩:=tL (Txt.split t " ") [] #[λi j p q _ e=>(by simp at e),λp c=>(by cases c)] hw
 have sp:=fU h.l jZ
 rw[List.length_nil] at lo
 have im:iX (aa (bR isS cI (ac 0) (aa (mC (.str " ")) ak)) ak) (lS (.str t) [] none none none none none)=some (.ok ([.val (.lst ((Txt.split t " ").map L3.D.str)) .u],dX 0 ((Txt.split t " ").map L3.D.str)),lS (.str t) [] none none none none none):=by
  exact i_enu (aj (df (ag rfl) rfl rfl (aj i_c ao) rfl sp) ao) rfl
 unfold Res
 generalize go (Txt.split t " ") []=G at *
 obtain ⟨g1,acc⟩:=G
 dsimp only at lo ok len le ⊢
 cases g1 with
 | false =>
  refine #[.int (acc.length:Int),#[acc,rfl,.inr #[λz=>(by cases z.1),rfl]],?_]
  rw[if_neg (by decide)] at lo
  apply aT (Z:=[#v[.str t],none,none,none,none,none,none]) rfl rfl
  .unfold la
   apply am (Z1:=lS (.str t) [] none none none none none)
   .exact bA (bO ao rfl (Nat.le_of_ble_eq_true rfl)) rfl (Nat.le_of_ble_eq_true rfl) rfl
   exact bC (cS im rfl lo)
  .rfl
 | true =>
  rw[if_pos rfl] at lo
  have len:=len rfl
  rw[List.length_nil,FK] at len
  have ln:=xW acc
  have pre:∀ {r:L3.D} {Z1:Sto},dM Z1 0 [(L3.D.str t,Fl.z)]=some [(L3.D.str t,Fl.z)]->aB (sIf (cOr (cB (af gtI (au bL (aa (ac 1) ak)) (mC (.int 24)))) (cB (af xB (ay gJ (aa (ac 1) ak)) (mC .non)))) (aN 1 (au bL (aa (ac 1) ak))) bK) (aN 1 (au lJ (aa (ac 1) ak))) (lS (.str t) acc v2 m v4 v5 v6)=some (.ok (.rt r .z),Z1)->eV [(.str t,.z)]=some (.ok (r,.z),[(.str t,.z)]):=λ{r Z1} hf g=>by
   apply aT (Z:=[#v[.str t],none,none,none,none,none,none]) rfl rfl
   .unfold la
    apply am (Z1:=lS (.str t) [] none none none none none)
    .exact bA (bO ao rfl (Nat.le_of_ble_eq_true rfl)) rfl (Nat.le_of_ble_eq_true rfl) rfl
    exact am (cS im rfl lo) g
   .exact hf
  have gt:gtI (.int (acc.length:Int)) (.int 24)=#v[.bl (decide (24 < acc.length))]:=by
   show some (L3.D.bl (decide ((24:Int) < (acc.length:Int))),Fl.z)=_
   rw[show decide ((24:Int) < (acc.length:Int))=decide (24 < acc.length) by rw[decide_eq_decide];omega]
  by_cases a:acc.length<=24
  .rw[FI (by omega)] at gt
   obtain ⟨d,li,hd⟩:=xV a λp c=>#[ni (ok.t p c).1,ni (ok.t p c).2]
   have is:xB d .non=#v[.bl (!iK d)]:=by cases d <;> rfl
   cases f:iK d with
   | true =>
    have k:lJ [xL acc]=#v[Shd acc]:=rfl
    rw[f] at is
    exact #[Shd acc,#[acc,rfl,.inl #[rfl,a,hd.mp f,rfl]],pre rfl (am (bE (b:=false) (d9 (b:=false) (aQ (aq (aD (aj (ag rfl) ao) rfl ln) i_c rfl rfl gt) rfl) rfl (aQ (aq (aE li (aj (ag rfl) ao) rfl rfl rfl) i_c rfl rfl is) rfl)) rfl rfl) (a7 (aD (aj (ag rfl) ao) rfl k) rfl))]
   | false =>
    rw[f] at is
    refine #[.int (acc.length:Int),#[acc,rfl,.inr #[λz=>?_,rfl]],pre rfl (bC (cr (b:=true) (d9 (b:=false) (aQ (aq (aD (aj (ag rfl) ao) rfl ln) i_c rfl rfl gt) rfl) rfl (aQ (aq (aE li (aj (ag rfl) ao) rfl rfl rfl) i_c rfl rfl is) rfl)) rfl (a7 (aD (aj (ag rfl) ao) rfl ln) rfl)))]
    have:=hd.mpr z.2.2
    rw[f] at this
    cases this
  .rw[FH (by omega)] at gt
   exact #[.int (acc.length:Int),#[acc,rfl,.inr #[λz=>a z.2.1,rfl]],pre rfl (bC (cr (b:=true) (lj (b:=true) (aQ (aq (aD (aj (ag rfl) ao) rfl ln) i_c rfl rfl gt) rfl) rfl) rfl (a7 (aD (aj (ag rfl) ao) rfl ln) rfl)))]
end
theorem Dj {t:Str} {d d':L3.D} (h:Res t d) (h':Res t d'):d=d':=by
 obtain ⟨a,rfl,q⟩:=h
 obtain ⟨f,rfl,b⟩:=h'
 rcases q with ⟨a1,a2,c,rfl⟩ | ⟨a1,rfl⟩
 .rcases b with ⟨_,_,_,rfl⟩ | ⟨b1,_⟩
  .rfl
  .exact absurd #[a1,a2,c] b1
 .rcases b with ⟨b1,b2,e,_⟩ | ⟨_,rfl⟩
  .exact absurd #[b1,b2,e] a1
  .rfl
theorem yk {cs:List String} {i:Nat} {c:String} {fs:List (String×L3.D)} {sa sb:SM} {Z Z1 Z2:Sto} {d:L3.D} {fl:Fl} (h1:sa Z=some (.error (.exc c fs),Z1)) (a:c∈cs) (h2:sb (Z1.set i #v[.exc c fs])=some (.ok (.rt d fl),Z2)):nF cs i sa sb Z=some (.ok (.rt d fl),Z2):=by
 simp only[nF,h1,a,if_true,h2]
theorem iu {a b:SM} {Z Z1 Z2:Sto} {e:L3.D} (h1:a Z=some (.ok .nx,Z1)) (h2:b Z1=some (.error e,Z2)):aB a b Z=some (.error e,Z2):=by
 simp only[aB,ai,h1,h2]
theorem mk_t (n:Int):cG [(.exc "NoText" [("at",.int n)],.z)]=some (.ok (.str "text",.z),[(.exc "NoText" [("at",.int n)],.z)]):=by kernel_rfl
theorem wh_n (n:Int):eh [(.int n,.z)]=some (.ok (.bl true,.z),[(.int n,.z)]):=by kernel_rfl
theorem nX (s:Str):neX (.str s) (.str s)=#v[.bl false]:=by
 show (some (decide (s=s))).map _=_
 rw[FH rfl];rfl
theorem nC {x:L3.D} {n:Nat} (h:bj [(x,.z)]=some (.error (noT n),[(x,.z)])):bB [(x,.z)]=some (.ok (.int (n:Int),.z),[(x,.z)]):=by
 have c:cG [(noT n,.z)]=some (.ok (.str "text",.z),[(noT n,.z)]):=mk_t (n:Int)
 have wn:=wh_n (n:Int)
 have a:iY ["NoText"] "at" (noT n)=#v[.int (n:Int)]:=by simp[iY]
 have ne:=nX "text"
 apply aT (Z:=[#v[x],none]) (Z1:=[#v[x],#v[noT n]]) rfl rfl
 .unfold jq
  refine yk (Z1:=[#v[x],none]) (yl (tJ h (aj (ag rfl) ao) rfl rfl rfl)) (by decide) ?_
  show dn [#v[x],#v[noT n]]=_
  generalize noT n=E at *
  unfold dn
  apply am (Z1:=[#v[x],#v[E]])
  .exact bE (b:=false) (d9 (b:=false) (aQ (aq (aE c (aj (ag rfl) ao) rfl rfl rfl) i_c rfl rfl ne) rfl) rfl (cy (b:=true) (aQ (aE wn (aj (ft (ag rfl) rfl a) ao) rfl rfl rfl) rfl))) rfl rfl
  exact a7 (ft (ag rfl) rfl a) rfl
 .rfl
theorem zO {x d:L3.D} (h:bj [(x,.z)]=some (.ok (d,.z),[(x,.z)])):bB [(x,.z)]=some (.ok (d,.z),[(x,.z)]):=by
 apply aT (Z:=[#v[x],none]) (Z1:=[#v[x],none]) rfl rfl
 .unfold jq j6
  exact EG (a7 (A9 h (aj (ag rfl) ao) rfl rfl rfl) rfl)
 .rfl
theorem Ah {x:L3.D} (h:eP "str" x=#v[.bl false]):bj [(x,.z)]=some (.error (noT 0),[(x,.z)]):=by
 apply ui (Z:=[#v[x],none,none,none,none]) (Z1:=[#v[x],none,none,none,none]) rfl rfl
 .unfold bJ
  exact jH (qo (cy (b:=false) (aQ (ft (ag rfl) rfl h) rfl)) (jv (aj i_c ao) rfl rfl))
 .rfl
section
variable {t:Str} (h:Txt1 t)
include h
theorem wB:∃ d,Res t d/\bB [(.str t,.z)]=some (.ok (d,.z),[(.str t,.z)]):=by
 obtain ⟨hw,o,n⟩:=vP h
 obtain ⟨v2,c,lo⟩:=xn (T:=.str t) (a4:=none) (Txt.split t " ") [] none none hw (by simp;omega)
 obtain ⟨ok,len,le⟩:=tL (Txt.split t " ") [] #[λi j p q _ e=>(by simp at e),λp m=>(by cases m)] hw
 have sp:=fU h.l jZ
 have im:d8 (bR isS cI (ac 0) (aa (mC (.str " ")) ak)) (pS (.str t) [] none none none)=some (.ok ([.val (.lst ((Txt.split t " ").map L3.D.str)) .u],(Txt.split t " ").map L3.D.str),pS (.str t) [] none none none):=iy (df (ag rfl) rfl rfl (aj i_c ao) rfl sp) rfl rfl
 have is:eP "str" (.str t)=#v[.bl true]:=rfl
 have t1:sIf (gw (cB (mUn (eP "str") (ac 0)))) (dh "NoText" "at" (aa (mC (.int 0)) ak)) bK [#v[.str t],none,none,none,none]=some (.ok .nx,[#v[.str t],none,none,none,none]):=bE (b:=false) (cy (b:=true) (aQ (ft (ag rfl) rfl is) rfl)) rfl rfl
 have t2:aJ 1 (bd ak) [#v[.str t],none,none,none,none]=some (.ok .nx,pS (.str t) [] none none none):=bA (bO ao rfl (Nat.le_of_ble_eq_true rfl)) rfl (Nat.le_of_ble_eq_true rfl) rfl
 unfold Res
 generalize go (Txt.split t " ") []=G at *
 obtain ⟨g1,acc⟩:=G
 dsimp only at lo ok len le ⊢
 cases g1 with
 | false =>
  refine #[.int (acc.length:Int),#[acc,rfl,.inr #[λz=>(by cases z.1),rfl]],nC ?_]
  rw[if_neg (by decide)] at lo
  apply ui (Z:=[#v[.str t],none,none,none,none]) (Z1:=pS (.str t) acc v2 c none) rfl rfl
  .unfold bJ
   refine iu t1 (iu t2 (jH ?_))
   exact cS im rfl lo
  .rfl
 | true =>
  rw[if_pos rfl] at lo
  have len:=len rfl
  rw[List.length_nil,FK] at len
  rw[List.length_nil,FK] at le
  have ln:=xW acc
  obtain ⟨b,a,f⟩:=zT ok (by omega) (by omega)
  have k:lJ [xL acc]=#v[Shd acc]:=rfl
  have t3:=cS (sb:=bv) im rfl lo
  have g:aJ 4 (au lJ (aa (ac 1) ak)) (pS (.str t) acc v2 c none)=some (.ok .nx,pS (.str t) acc v2 c #v[Shd acc]):=bA (aD (aj (ag rfl) ao) rfl k) rfl (Nat.le_of_ble_eq_true rfl) rfl
  cases b with
  | true =>
   refine #[Shd acc,#[acc,rfl,.inl #[rfl,(f.mp rfl).1,(f.mp rfl).2,rfl]],zO ?_]
   apply aT (Z:=[#v[.str t],none,none,none,none]) rfl rfl
   .unfold bJ
    refine am t1 (am t2 (am t3 (am g (am (Z1:=pS (.str t) acc v2 c #v[Shd acc]) ?_ (a7 (ag rfl) rfl)))))
    exact bE (b:=false) (cy (b:=true) (aQ (aE a (aj (ag rfl) ao) rfl rfl rfl) rfl)) rfl rfl
   .rfl
  | false =>
   refine #[.int (acc.length:Int),#[acc,rfl,.inr #[λz=>?_,rfl]],nC ?_]
   .have:=f.mpr z.2
    cases this
   apply ui (Z:=[#v[.str t],none,none,none,none]) (Z1:=pS (.str t) acc v2 c #v[Shd acc]) rfl rfl
   .unfold bJ
    refine iu t1 (iu t2 (iu t3 (iu g (jH ?_))))
    exact qo (cy (b:=false) (aQ (aE a (aj (ag rfl) ao) rfl rfl rfl) rfl)) (jv (aj (aD (aj (ag rfl) ao) rfl ln) ao) rfl rfl)
   .rfl
end
theorem pP {m:Nat}:∀ {ts:List Str},(∀ t∈ts,t.length<=m)->piled ts<=ts.length * (m+2)
 | [],_=>by simp[piled]
 | t::ts,h=>by
  have h1:=h t Fe
  have h2:=pP (ts:=ts) λu hu=>h u (Ff _ hu)
  rw[piled_cons,FO,Nat.succ_mul]
  lia
theorem qN {m:Nat} {ts:List Str} (h:∀ t∈ts,t.length<=m):(tupleText ts).length<=ts.length * (m+2)+3:=by
 have b:=pP h
 have a:(Str.join ", " ts).length<=ts.length * (m+2):=by
  by_cases e:ts=[]
  .subst e;exact Nat.zero_le _
  .have:=join_length_add ts e
   lia
 unfold tupleText
 rw[strLen_append,strLen_append]
 have e1:(("(":String):Str).length=1:=rfl
 have c:((if ts.length == 1 then ",)" else ")":String):Str).length<=2:=by
  cases ts.length == 1 <;> decide
 lia
mutual
theorem xb:∀ (d:L3.D) (p:PyData),pyD d=some p->p.hasDict=false
 | .non,p,e=>by unfold pyD at e;cases e;rfl
 | .bl _,p,e=>by unfold pyD at e;cases e;rfl
 | .int _,p,e=>by unfold pyD at e;cases e;rfl
 | .str _,p,e=>by unfold pyD at e;cases e;rfl
 | .tup xs,p,e=>by
  unfold pyD at e
  obtain ⟨ps,e1,rfl⟩:=Fh.mp e
  simpa[PyData.hasDict] using kz xs ps e1
 | .lst xs,p,e=>by
  unfold pyD at e
  obtain ⟨ps,e1,rfl⟩:=Fh.mp e
  simpa[PyData.hasDict] using kz xs ps e1
 | .fls xs,p,e=>by
  unfold pyD at e
  obtain ⟨ps,e1,rfl⟩:=Fh.mp e
  simpa[PyData.hasDict] using kz xs ps e1
 | .dk _,p,e=>by unfold pyD at e;cases e
 | .dt _,p,e=>by unfold pyD at e;cases e
 | .exc _ _,p,e=>by unfold pyD at e;cases e
 | .desk _ _,p,e=>by unfold pyD at e;cases e
theorem kz:∀ (ds:List L3.D) (ps:List PyData),fM ds=some ps->PyData.hasDictAll ps=false
 | [],ps,e=>by unfold fM at e;cases e;rfl
 | d::ds,ps,e=>by
  unfold fM at e
  cases h1:pyD d with
  | none=>rw[h1] at e;cases e
  | some p =>
   cases h2:fM ds with
   | none=>rw[h1,h2] at e;cases e
   | some qs =>
    rw[h1,h2] at e
    cases e
    simp[PyData.hasDictAll,xb d p h1,kz ds qs h2]
end
def sm (f:L3.D->Option PyData) (k m:Nat) (d:L3.D):Bool:=match f d with
 | some p=>p.showable && decide (p.depth<=k) && decide (p.shown.length<=m)
 | none=>false
structure Sml (k m:Nat) (p:PyData):Prop where
 s:p.showable=true
 d:p.depth<=k
 l:p.shown.length<=m
theorem qT {f:L3.D->Option PyData} {k m:Nat} {d:L3.D} (h:sm f k m d=true):∃ p,f d=some p/\Sml k m p:=by
 unfold sm at h
 cases e:f d with
 | none=>rw[e] at h;cases h
 | some p =>
  rw[e] at h
  simp only[Bool.and_eq_true,decide_eq_true_eq] at h
  exact #[p,rfl,h.1.1,h.1.2,h.2]
theorem wq {f:L3.D->Option PyData} {k m:Nat} {d:L3.D} {p:PyData} (e:f d=some p) (h:Sml k m p):sm f k m d=true:=by
 unfold sm
 rw[e]
 simp[h.s,h.d,h.l]
theorem zI {f:L3.D->Option PyData} {k m b a:Nat} {d:L3.D} (h:sm f k m d=true) (c:k<=b) (hm:m<=a):sm f b a d=true:=by
 obtain ⟨p,e,q⟩:=qT h
 exact wq e #[q.s,F1 q.d c,F1 q.l hm]
structure Rdg (f:L3.D->Option PyData) (fs:List L3.D->Option (List PyData)):Prop where
 n:fs []=some []
 c:∀ d ds p ps,f d=some p->fs ds=some ps->fs (d::ds)=some (p::ps)
 t:∀ xs ps,fs xs=some ps->f (.tup xs)=some (.tuple ps)
theorem rdD:Rdg pyD fM:=#[rfl,λd ds p ps h1 h2=>by unfold fM;rw[h1,h2],λxs ps h=>by unfold pyD;rw[h];rfl]
theorem wr {f:L3.D->Option PyData} {fs:List L3.D->Option (List PyData)} (R:Rdg f fs) {k m:Nat}:∀ {xs:List L3.D},(∀ x∈xs,sm f k m x=true)->∃ ps,fs xs=some ps/\PyData.showableAll ps=true/\PyData.depthAll ps<=k/\(∀ t∈PyData.shownAll ps,t.length<=m)/\(PyData.shownAll ps).length=xs.length
 | [],_=>#[[],R.n,rfl,Nat.zero_le _,(λt j=>by cases j),rfl]
 | x::xs,h=>by
  obtain ⟨p,a1,a2⟩:=qT (h x Fe)
  obtain ⟨ps,b1,b2,g,a,e⟩:=wr R (xs:=xs) λy b=>h y (Ff _ b)
  refine #[p::ps,R.c _ _ _ _ a1 b1,by simp[PyData.showableAll,a2.s,b2],by have:=a2.d;simp only[PyData.depthAll];lia,λt j=>?_,by simp[PyData.shownAll,e]]
  rcases Fm.mp (show t∈p.shown::PyData.shownAll ps from j) with rfl | j
  .exact a2.l
  .exact a t j
theorem wm {f:L3.D->Option PyData} {fs:List L3.D->Option (List PyData)} (R:Rdg f fs) {k m:Nat} {xs:List L3.D} (h:∀ x∈xs,sm f k m x=true):sm f (k+1) (xs.length * (m+2)+3) (.tup xs)=true:=by
 obtain ⟨ps,b1,b2,c,a,b⟩:=wr R h
 have:=qN a
 rw[b] at this
 exact wq (R.t xs ps b1) #[by simpa[PyData.showable] using b2,by simp only[PyData.depth];lia,by simpa only [PyData.shown] using this]
def Sh' (d:L3.D):Prop:=∃ t,nJ d=#v[.str t]
theorem sh_of {d:L3.D} {p:PyData} (e:nJ d=shA d) (h:pyA d=some p) (q:Sml 16 16777216 p):Sh' d:=⟨p.shown,by
 have a:kO p=true:=by unfold kO;simp[q.s,q.d,q.l]
 rw[e]
 unfold shA
 rw[h]
 show (if kO p=true then _ else _)=_
 rw[if_pos a]⟩
theorem sh_D {d:L3.D} (e:nJ d=shA d) (h:sm pyD 16 16777216 d=true):Sh' d:=by
 obtain ⟨p,h1,q⟩:=qT h
 refine sh_of e ?_ q
 unfold pyA
 rw[h1]
 show (if p.hasDict then none else some p)=_
 rw[xb d p h1]
 rfl
theorem zt {x:Int} (h:Ten x):x.natAbs.log2 < 1920:=by
 by_cases z:x.natAbs=0
 .rw[z];decide
 .rw[Nat.log2_lt z]
  have e:(10:Nat) ^ 500 < 2 ^ 1920:=by decide +kernel
  exact Nat.lt_trans h e
theorem zr {x:Int} (h:Ten x):(bQ x).length<=501:=by
 have e:(bQ x).length=(bQ x).cps.toList.length:=by simp[Str.length]
 have hd:(dig x.natAbs).length<=500:=tU (by decide) h
 rw[e,AT]
 split
 .simp only[FO];lia
 .lia
theorem wo {x:Int} (h:Ten x):sm pyD 0 501 (.int x)=true:=wq (f:=pyD) (p:=.int x) (by unfold pyD;rfl) #[by simp only[PyData.showable,FH (zt h)],Nat.le_of_eq (by simp only[PyData.depth]),by simpa only [PyData.shown] using zr h]
theorem CT {acc:List Pt} (h:∀ p∈acc,BA p) (hl:acc.length<=1000):Sh' (Shd acc):=by
 have q:=wm rdD (k:=1) (m:=2 * (501+2)+3) (xs:=acc.map Pd) λd hd=>by
  obtain ⟨p,a,rfl⟩:=Fy.mp hd
  exact wm rdD (k:=0) (m:=501) (xs:=[.int p.1,.int p.2]) λd hd=>by
   rcases Fm.mp hd with rfl | hd
   .exact wo (h p a).1
   .cases FT.mp hd;exact wo (h p a).2
 rw[Ft] at q
 exact sh_D rfl (zI q (by decide) (by lia))
theorem CU {n:Nat} (h:n<=1000):Sh' (.int (n:Int)):=⟨bQ n,if_pos (by
 have:(n:Int).natAbs.log2<=(n:Int).natAbs:=Nat.log2_le_self _
 omega)⟩
theorem Di {t:Str} (h:Txt1 t) {d:L3.D} (r:Res t d):Sh' d:=by
 obtain ⟨hw,c,b⟩:=vP h
 obtain ⟨ok,len,le⟩:=tL (Txt.split t " ") [] #[λi j p q _ e=>(by simp at e),λp a=>(by cases a)] hw
 rw[List.length_nil,FK] at le
 obtain ⟨acc,rfl,q⟩:=r
 rcases q with ⟨_,_,_,rfl⟩ | ⟨_,rfl⟩
 .exact CT ok.t (by omega)
 .exact CU (by omega)
theorem both {t:Str} (h:Txt1 t):∃ d s,bB [(.str t,.z)]=some (.ok (d,.z),[(.str t,.z)])/\eV [(.str t,.z)]=some (.ok (d,.z),[(.str t,.z)])/\fZ [d]=#v[.str s]:=by
 obtain ⟨d,a,e1⟩:=wB h
 obtain ⟨d',b,e⟩:=uC h
 cases Dj a b
 obtain ⟨s,c⟩:=Di h a
 exact #[d,s,e1,e,c]
structure W1 (w:Str):Prop where
 l:w.length<=35
 a:∀ c∈cod w,c < 128
theorem mD {x:Int} (h:x.natAbs < 10 ^ 16):(bQ x).length<=17:=by
 have e:(bQ x).length=(bQ x).cps.toList.length:=by simp[Str.length]
 have hd:(dig x.natAbs).length<=16:=tU (by decide) h
 rw[e,AT]
 split
 .simp only[FO];lia
 .lia
theorem BU (x:Int):∀ c∈cod (bQ x),c < 128:=λc a=>by
 have e:cod (bQ x)=if x < 0 then 45::dig x.natAbs else dig x.natAbs:=AT x
 rw[e] at a
 split at a
 .rcases Fm.mp a with rfl | a
  .decide
  .have:=iA a;omega
 .have:=iA a;omega
theorem sE {x y:Int} (e:x.natAbs < 10 ^ 16) (f:y.natAbs < 10 ^ 16):W1 (bQ x++","++bQ y):=by
 have a:=mD e
 have b:=mD f
 refine #[?_,λc d=>?_]
 .rw[di,di]
  have:(",":Str).length=1:=by decide +kernel
  lia
 .rw[ba,ba,mV] at d
  rcases Fq.mp d with d | d
  .rcases Fq.mp d with d | d
   .exact BU x c d
   .cases FT.mp d;decide
  .exact BU y c d
theorem mW:cod (" ":Str)=[32]:=by decide +kernel
theorem iB:(" ":Str).length=1:=by decide +kernel
theorem oq:∀ {ts:List Str},(∀ w∈ts,W1 w)->(Str.join " " ts).length<=ts.length * 36/\∀ c∈cod (Str.join " " ts),c < 128
 | [],_=>#[FA 0,λc j=>(by cases j)]
 | [a],h=>#[by have:=(h a Fe).l;show a.length<=_;simp;omega,(h a Fe).a]
 | a::b::r,h=>by
  obtain ⟨h1,h2⟩:=oq (ts:=b::r) λw hw=>h w (Ff _ hw)
  rw[dO]
  have ha:=h a Fe
  have:=ha.l
  refine #[?_,λc j=>?_]
  .rw[di,di,iB,FO]
   lia
  .rw[ba,ba,mW] at j
   rcases Fq.mp j with j | j
   .rcases Fq.mp j with j | j
    .exact ha.a c j
    .cases FT.mp j;decide
   .exact h2 c j
theorem wg:∀ {ts:List Str},(∀ w∈ts,W1 w)->(ts.map (·.length)).sum<=ts.length * 35
 | [],_=>FA 0
 | a::r,h=>by
  have h1:=wg (ts:=r) λw hw=>h w (Ff _ hw)
  have:=(h a Fe).l
  rw[FF,List.sum_cons,FO]
  lia
def WL (ds:List L3.D):Prop:=∀ d∈ds,∃ w,d=.str w/\W1 w
theorem sD:∀ {ds:List L3.D},WL ds->∃ ts:List Str,ds=ts.map L3.D.str/\∀ w∈ts,W1 w
 | [],_=>#[[],rfl,λw hw=>by cases hw]
 | d::ds,h=>by
  obtain ⟨ts,rfl,j⟩:=sD (ds:=ds) λx a=>h x (Ff _ a)
  obtain ⟨w,rfl,hw⟩:=h d Fe
  exact ⟨w::ts,rfl,λx a=>by
   rcases Fm.mp a with rfl | a
   .exact hw
   .exact j x a⟩
theorem sI:∀ ts:List Str,fS (ts.map L3.D.str)=some ts
 | []=>rfl
 | t::ts=>by
  show (fS (ts.map L3.D.str)).map (t::·)=_
  rw[sI ts];rfl
theorem tD {ts:List Str} (h:∀ w∈ts,W1 w) (hl:ts.length<=1000):eO [.str " ",.lst (ts.map L3.D.str)]=#v[.str (Str.join " " ts)]:=by
 have s:=wg h
 simp only[eO,sI]
 exact if_pos (by rw[iB];omega)
theorem yh {ds:List L3.D} (h:WL ds) (hl:ds.length<=13):∃ s,eO [.str " ",.lst ds]=#v[.str s]/\Txt1 s:=by
 obtain ⟨ts,rfl,c⟩:=sD h
 rw[Ft] at hl
 obtain ⟨a,b⟩:=oq c
 exact #[_,tD c (by omega),#[by omega,b]]
theorem fO {a b:List L3.D} (ha:WL a) (c:WL b):WL (a++b):=λd hd=>by
 rcases Fq.mp hd with hd | hd
 .exact ha d hd
 .exact c d hd
theorem ET {xs:List L3.D} {d:L3.D} {lo hi:Option Int} (h:d∈eE xs lo hi):d∈xs:=by
 unfold eE at h
 first | exact List.mem_of_mem_drop (List.mem_of_mem_take h) | exact List.mem_of_mem_take (List.mem_of_mem_drop h)
theorem oO (xs:List L3.D) (lo hi:Option Int):(eE xs lo hi).length<=xs.length:=by
 unfold eE
 rw[FP,List.length_drop]
 lia
theorem qK {xs:List L3.D} (h:WL xs) (lo hi:Option Int):WL (eE xs lo hi):=λd hd=>h d (ET hd)
theorem m9 {w:Str} (h:W1 w):WL [.str w]:=λd hd=>by
 cases FT.mp hd
 exact #[w,rfl,h]
theorem vQ {xs:List L3.D} (h:WL xs) {i:Nat} {d:L3.D} (hd:∃ w,d=.str w/\W1 w):WL (xs.set i d):=λx a=>by
 rcases List.mem_or_eq_of_mem_set a with a | rfl
 .exact h x a
 .exact hd
theorem ml {x:Str} {lo hi:Option Int} {c:Nat} (h:c∈cod (Txt.slice x lo hi)):c∈cod x:=by
 unfold Txt.slice at h
 split at h
 .exact h
 .simp only[cod,List.toList_toArray,List.mem_filterMap] at h
  obtain ⟨i,_,hi⟩:=h
  exact Array.mem_toList_iff.mpr (Array.mem_of_getElem? hi)
theorem wu {x:Str} (h:x.length<=500) (lo hi:Option Int):slS (.str x) lo hi=#v[.str (Txt.slice x lo hi)]:=if_pos (by omega)
theorem atN {xs:List Nat} {i:Nat} {d:Nat} (h:xs[i]?=some d):L2.atI xs (i:Int)=some d:=by
 have lt:=(Fu.mp h).1
 unfold L2.atI L2.ixN
 rw[if_pos (by lia),if_pos (by lia)]
 simpa using h
theorem iZ {xs:List L3.D} {i:Nat} {d:L3.D} (h:xs[i]?=some d):L2.atI xs (i:Int)=some d:=by
 have lt:=(Fu.mp h).1
 unfold L2.atI L2.ixN
 rw[if_pos (by lia),if_pos (by lia)]
 simpa using h
abbrev sgnT:Str:="0123456789,, -\n.a+0"
theorem pA:(cod sgnT).length=19:=by decide +kernel
theorem CV:∀ c∈cod sgnT,c < 128:=by decide +kernel
theorem zL {y:Nat} (h:y < 19):∃ c,c < 128/\ixS (.str sgnT) (.int (y:Int))=#v[.str #[(List.toArray [c])]]:=by
 have hl:y < (cod sgnT).length:=by rw[pA];exact h
 refine #[(cod sgnT)[y],CV _ (List.getElem_mem hl),?_]
 show (if sgnT.length<=16777216 then (L2.atI (cod sgnT) (y:Int)).map λc=>((.str #[(List.toArray [c])],.z):L3.D×Fl) else none)=_
 rw[if_pos (by rw[b9,pA] <;> decide),atN (Fo hl)]
 rfl
theorem yK {t s:Str} (h:t.length<=216) (ha:∀ c∈cod t,c < 128) (e:s.length<=1) (sa:∀ c∈cod s,c < 128) (hi lo:Int):Txt1 (Txt.slice t none (some hi)++s++Txt.slice t (some lo) none):=by
 have b:=Txt.slice_le t none (some hi)
 have d:=Txt.slice_le t (some lo) none
 refine #[by rw[di,di];omega,λc a=>?_]
 rw[ba,ba] at a
 rcases Fq.mp a with a | a
 .rcases Fq.mp a with a | a
  .exact ha c (ml a)
  .exact sa c a
 .exact ha c (ml a)
theorem eg {a b:Str} (h:a.length+b.length<=16777216):aH (.str a) (.str b)=#v[.str (a++b)]:=by
 simp[orD,dZ,Bt,h]
theorem pB {xs:List L3.D} {a:Nat} {d:L3.D} (h:a < xs.length):kR (.lst xs) [.int (a:Int),d]=some (.lst (xs.set a d),.non):=by
 have e:uw (.lst xs) [.int (a:Int),d]=some (.lst (xs.set a d),.non):=by
  show (L2.ixN xs.length (a:Int)).map _=_
  unfold L2.ixN
  rw[if_pos (by omega),if_pos (by omega)]
  simp
 show xp uw pO (.lst xs) [.int (a:Int),d]=_
 unfold xp
 rw[e]
theorem qH {b:L3.D->Sto->Option Sto} {bs:List L3.D->Sto->Option Sto} {d:L3.D} {ds:List L3.D} {Z Z1 Z2:Sto} (h1:b d Z=some Z1) (h2:bs ds Z1=some Z2):a9 b bs (d::ds) Z=some Z2:=by
 show (match b d Z with | some r=>bs ds r | none=>none)=_
 rw[h1]
 exact h2
theorem ig (n:Int) {m:Nat} (h:0 < m):∃ x:Nat,x < m/\n % (m:Int)=(x:Int) :=
 #[(n % (m:Int)).toNat,by have:=Int.emod_lt_of_pos n (b:=(m:Int)) (by lia);have:=Int.emod_nonneg n (b:=(m:Int)) (by lia);lia,by have:=Int.emod_nonneg n (b:=(m:Int)) (by lia);lia]
abbrev bS (B H T:L3.D) (c v4 v5 v6 v7 v8 v9 v10 v11 a b:Option (L3.D×Fl)):Sto:=[some (B,.u),#v[H],#v[T],c,v4,v5,v6,v7,v8,v9,v10,v11,a,b]
def t9:SM:=(aB (nG 9 10 (aa (af aw (ac 1) (mC (.int 0))) (aa (af aw (ac 1) (mUn fN (mC (.int 1)))) ak))) (aB (aJ 11 (af aH (af aH (au lK (aa (af dB (af cK (mC (.int 2)) (af aw (ac 10) (mC (.int 0)))) (af aw (ac 9) (mC (.int 0)))) ak)) (mC (.str ","))) (au lK (aa (af dB (af cK (mC (.int 2)) (af aw (ac 10) (mC (.int 1)))) (af aw (ac 9) (mC (.int 1)))) ak)))) (aB (aJ 12 (au A3 (aa (ac 3) ak))) (aB (lP (gz 2 (a9 (eG 12 4) (a9 (eG 12 5) fB))) (cn (aa (af aw (ac 12) (ac 5)) (aa (af aw (ac 12) (ac 4)) ak)))) (aB (aJ 13 (bd (aa (af aH (mSl slD (ac 3) aZ (aY (ac 4))) (mSl slD (ac 3) (aY (af aH (ac 4) (mC (.int 1)))) aZ)) (aa (af aH (af aH (mSl slD (ac 3) aZ (aY (ac 4))) (bd (aa (af aw (ac 3) (ac 4)) ak))) (mSl slD (ac 3) (aY (ac 4)) aZ)) (aa (ac 12) (aa (af aH (ac 3) (bd (aa (ac 11) ak))) ak)))))) (aB (aJ 13 (af aH (ac 13) (bd (aa (af aH (af aH (mSl slD (ac 3) aZ (aY (ac 4))) (bd (aa (mC (.str "00,1")) ak))) (mSl slD (ac 3) (aY (ac 4)) aZ)) (aa (af aH (af aH (mSl slD (ac 3) aZ (aY (ac 4))) (bd (aa (mC (.str "1,-0")) ak))) (mSl slD (ac 3) (aY (af aH (ac 4) (mC (.int 1)))) aZ)) ak))))) (aN 3 (bR isS eO (mC (.str " ")) (aa (af aw (ac 13) (af dB (ac 8) (mC (.int 3)))) ak)))))))))
theorem w1_a:W1 "00,1":=#[by decide +kernel,by decide +kernel]
theorem w1_b:W1 "1,-0":=#[by decide +kernel,by decide +kernel]
theorem mul2 (m:Int):cK (.int 2) (.int m)=#v[.int (2 * m)]:=iI (by decide)
theorem nt {x:Int} (h:x.natAbs < 10 ^ 16):lK [.int x]=#v[.str (bQ x)]:=if_pos (by
 by_cases z:x.natAbs=0
 .rw[z];decide
 .rw[Nat.log2_lt z]
  exact Nat.lt_trans h (by decide +kernel))
theorem cU {A B:List L3.D} (h:A.length+B.length<=1000):aH (.lst A) (.lst B)=some (.lst (A++B),.u):=Bu (by omega)
section
variable {XW:List L3.D} (hw:WL XW) (hl:XW.length<=6) {f l:Pt} (hf:f.1.natAbs < 10 ^ 15 * 2/\f.2.natAbs < 10 ^ 15 * 2) (hl2:l.1.natAbs < 10 ^ 15 * 2/\l.2.natAbs < 10 ^ 15 * 2) {B H T:L3.D} (s0:aw H (.int 0)=#v[Pd f]) (s1:aw H (.int (-1))=#v[Pd l])
include hw hl hf hl2 s0 s1
theorem Bv {a c k:Nat} (ha:a < XW.length) (E:c < XW.length) (hk:3<=k) (σ:k < 9) (v6 v7:Option (L3.D×Fl)):∃ s Z1,Txt1 s/\dM Z1 0 [(B,Fl.u),(H,.z),(T,.z)]=some [(B,Fl.u),(H,.z),(T,.z)]/\t9 (bS B H T (some (.lst XW,.u)) #v[.int (a:Int)] #v[.int (c:Int)] v6 v7 #v[.int (k:Int)] none none none none none)=some (.ok (.rt (.str s) .z),Z1):=by
 obtain ⟨g,ea,w⟩:=hw XW[a] (List.getElem_mem ha)
 obtain ⟨j,ec,M⟩:=hw XW[c] (List.getElem_mem E)
 have ga:aw (.lst XW) (.int (a:Int))=#v[.str g]:=by rw[<- ea];exact bM (iZ (Fo ha))
 have X:aw (.lst XW) (.int (c:Int))=#v[.str j]:=by rw[<- ec];exact bM (iZ (Fo E))
 have J:(2 * l.1 - f.1).natAbs < 10 ^ 16:=by omega
 have x:(2 * l.2 - f.2).natAbs < 10 ^ 16:=by omega
 have t:=nt J
 have G:=nt x
 have I:=sE J x
 have τ:=mD J
 have ae:=mD x
 have cl:(",":Str).length=1:=by decide +kernel
 have j1:aH (.str (bQ (2 * l.1 - f.1))) (.str ",")=#v[.str (bQ (2 * l.1 - f.1)++",")]:=eg (by omega)
 have j2:aH (.str (bQ (2 * l.1 - f.1)++",")) (.str (bQ (2 * l.2 - f.2)))=#v[.str (bQ (2 * l.1 - f.1)++","++bQ (2 * l.2 - f.2))]:=eg (by rw[di];omega)
 have f0:aw (Pd f) (.int 0)=#v[.int f.1]:=bq rfl
 have f1:aw (Pd f) (.int 1)=#v[.int f.2]:=bq rfl
 have l0:aw (Pd l) (.int 0)=#v[.int l.1]:=bq rfl
 have l1:aw (Pd l) (.int 1)=#v[.int l.2]:=bq rfl
 have u1:=mul2 l.1
 have u2:=mul2 l.2
 have b1:dB (.int (2 * l.1)) (.int f.1)=#v[.int (2 * l.1 - f.1)]:=rfl
 have b2:dB (.int (2 * l.2)) (.int f.2)=#v[.int (2 * l.2 - f.2)]:=rfl
 have ad:aH (.int (a:Int)) (.int 1)=#v[.int ((a:Int)+1)]:=rfl
 have sk:dB (.int (k:Int)) (.int 3)=#v[.int ((k:Int) - 3)]:=rfl
 have ρ:fN (.int 1)=#v[.int (-1)]:=rfl
 have li:A3 [.lst XW]=some (.lst XW,.u):=rfl
 have w1:kR (.lst XW) [.int (a:Int),.str j]=some (.lst (XW.set a (.str j)),.non):=pB ha
 have w2:kR (.lst (XW.set a (.str j))) [.int (c:Int),.str g]=some (.lst ((XW.set a (.str j)).set c (.str g)),.non):=pB (by rw[List.length_set];exact E)
 have Q:WL ((XW.set a (.str j)).set c (.str g)):=vQ (vQ hw #[_,rfl,M]) #[_,rfl,w]
 have lO:((XW.set a (.str j)).set c (.str g)).length<=6:=by rw[List.length_set,List.length_set];exact hl
 generalize (XW.set a (.str j)).set c (.str g)=O at *
 have c1:=oO XW none (some (a:Int))
 have c2:=oO XW (some ((a:Int)+1)) none
 have c3:=oO XW (some (a:Int)) none
 have x1:=qK hw none (some (a:Int))
 have v:=qK hw (some ((a:Int)+1)) none
 have y:=qK hw (some (a:Int)) none
 have r:slD (.lst XW) none (some (a:Int))=some (.lst (eE XW none (some (a:Int))),.u):=rfl
 have S:slD (.lst XW) (some ((a:Int)+1)) none=some (.lst (eE XW (some ((a:Int)+1)) none),.u):=rfl
 have R:slD (.lst XW) (some (a:Int)) none=some (.lst (eE XW (some (a:Int)) none),.u):=rfl
 generalize eE XW none (some (a:Int))=b at *
 generalize eE XW (some ((a:Int)+1)) none=o at *
 generalize eE XW (some (a:Int)) none=C3 at *
 have K:=m9 I
 generalize L3.D.str (bQ (2 * l.1 - f.1)++","++bQ (2 * l.2 - f.2))=FAR at *
 have z1:aH (.lst b) (.lst o)=some (.lst (b++o),.u):=cU (by omega)
 have z2:aH (.lst b) (.lst [.str g])=some (.lst (b++[.str g]),.u):=cU (by simp;omega)
 have z3:aH (.lst (b++[.str g])) (.lst C3)=some (.lst (b++[.str g]++C3),.u):=cU (by simp;omega)
 have z4:aH (.lst XW) (.lst [FAR])=some (.lst (XW++[FAR]),.u):=cU (by simp;omega)
 have z5:aH (.lst b) (.lst [.str "00,1"])=some (.lst (b++[.str "00,1"]),.u):=cU (by simp;omega)
 have z6:aH (.lst (b++[.str "00,1"])) (.lst C3)=some (.lst (b++[.str "00,1"]++C3),.u):=cU (by simp;omega)
 have z7:aH (.lst b) (.lst [.str "1,-0"])=some (.lst (b++[.str "1,-0"]),.u):=cU (by simp;omega)
 have z8:aH (.lst (b++[.str "1,-0"])) (.lst o)=some (.lst (b++[.str "1,-0"]++o),.u):=cU (by simp;omega)
 have all:∀ L∈[b++o,b++[.str g]++C3,O,XW++[FAR],b++[.str "00,1"]++C3,b++[.str "1,-0"]++o],WL L/\L.length<=13:=λL N=>by
  simp only[Fm,List.not_mem_nil,or_false] at N
  rcases N with rfl | rfl | rfl | rfl | rfl | rfl
  .exact #[fO x1 v,by rw[FN];omega]
  .exact #[fO (fO x1 (m9 w)) y,by simp;omega]
  .exact #[Q,by omega]
  .exact #[fO hw K,by simp;omega]
  .exact #[fO (fO x1 (m9 w1_a)) y,by simp;omega]
  .exact #[fO (fO x1 (m9 w1_b)) v,by simp;omega]
 generalize b++o=h at *
 generalize b++[.str g]++C3=d at *
 generalize XW++[FAR]=i at *
 generalize b++[.str "00,1"]++C3=n at *
 generalize b++[.str "1,-0"]++o=m at *
 have cat:aH (.lst [.lst h,.lst d,.lst O,.lst i]) (.lst [.lst n,.lst m])=some (.lst [.lst h,.lst d,.lst O,.lst i,.lst n,.lst m],.u):=cU (by simp)
 obtain ⟨L,gL,F⟩:∃ L,aw (.lst [.lst h,.lst d,.lst O,.lst i,.lst n,.lst m]) (.int ((k:Int) - 3))=#v[.lst L]/\(WL L/\L.length<=13):=by
  have q:k - 3 < [h,d,O,i,n,m].length:=by show k - 3 < 6;omega
  have e:(k:Int) - 3=((k - 3:Nat):Int):=by omega
  refine #[[h,d,O,i,n,m][k - 3],?_,all _ (List.getElem_mem q)]
  rw[e]
  refine bM (iZ ?_)
  show ([h,d,O,i,n,m].map L3.D.lst)[k - 3]?=_
  rw[Fz,Fo q]
  rfl
 obtain ⟨s,W,os⟩:=yh F.1 F.2
 clear all F Q x1 v y c1 c2 c3 K hw hl hf hl2 w M
 refine #[s,bS B H T (some (.lst XW,.u)) #v[.int (a:Int)] #v[.int (c:Int)] v6 v7 #v[.int (k:Int)] #v[Pd f] #v[Pd l] #v[FAR] #v[.lst O] (some (.lst [.lst h,.lst d,.lst O,.lst i,.lst n,.lst m],.u)),os,rfl,?_]
 generalize P:L3.D.int (a:Int)=A at *
 generalize L3.D.int (c:Int)=C at *
 generalize L3.D.int ((k:Int) - 3)=K3 at *
 generalize L3.D.int (k:Int)=KK at *
 generalize Pd f=PF at *
 generalize Pd l=PL at *
 unfold t9
 apply am (Z1:=bS B H T (some (.lst XW,.u)) #v[A] #v[C] v6 v7 #v[KK] #v[PF] #v[PL] none none none)
 .exact B3 (aj (aq (ag rfl) i_c rfl rfl s0) (aj (aq (ag rfl) (ft i_c rfl ρ) rfl rfl s1) ao)) rfl (Nat.le_of_ble_eq_true rfl) (Nat.le_of_ble_eq_true rfl) rfl
 apply am (Z1:=bS B H T (some (.lst XW,.u)) #v[A] #v[C] v6 v7 #v[KK] #v[PF] #v[PL] #v[FAR] none none)
 .exact bA (aq (aq (aD (aj (aq (aq i_c (aq (ag rfl) i_c rfl rfl l0) rfl rfl u1) (aq (ag rfl) i_c rfl rfl f0) rfl rfl b1) ao) rfl t) i_c rfl rfl j1) (aD (aj (aq (aq i_c (aq (ag rfl) i_c rfl rfl l1) rfl rfl u2) (aq (ag rfl) i_c rfl rfl f1) rfl rfl b2) ao) rfl G) rfl rfl j2) rfl (Nat.le_of_ble_eq_true rfl) rfl
 apply am (Z1:=bS B H T (some (.lst XW,.u)) #v[A] #v[C] v6 v7 #v[KK] #v[PF] #v[PL] #v[FAR] (some (.lst XW,.u)) none)
 .exact bA (aD (aj (ag rfl) ao) rfl li) rfl (Nat.le_of_ble_eq_true rfl) rfl
 apply am (Z1:=bS B H T (some (.lst XW,.u)) #v[A] #v[C] v6 v7 #v[KK] #v[PF] #v[PL] #v[FAR] (some (.lst O,.u)) none)
 .refine B4 (p:=(.tup [.str j,.str g],.z)) (Z2:=bS B H T (some (.lst XW,.u)) #v[A] #v[C] v6 v7 #v[KK] #v[PF] #v[PL] #v[FAR] (some (.lst XW,.u)) none) (bO (aj (aq (ag rfl) (ag rfl) rfl rfl X) (aj (aq (ag rfl) (ag rfl) rfl rfl ga) ao)) rfl (Nat.le_of_ble_eq_true rfl)) rfl ?_
  refine qH (Z1:=bS B H T (some (.lst XW,.u)) #v[A] #v[C] v6 v7 #v[KK] #v[PF] #v[PL] #v[FAR] (some (.lst (XW.set a (.str j)),.u)) none) ?_ (qH ?_ rfl)
  .show (kR (.lst XW) [A,.str j]).map _=_
   rw[w1];rfl
  .show (kR (.lst (XW.set a (.str j))) [C,.str g]).map _=_
   rw[w2];rfl
 apply am (Z1:=bS B H T (some (.lst XW,.u)) #v[A] #v[C] v6 v7 #v[KK] #v[PF] #v[PL] #v[FAR] #v[.lst O] (some (.lst [.lst h,.lst d,.lst O,.lst i],.u)))
 .subst P
  have e1:af aH (mSl slD (ac 3) aZ (aY (ac 4))) (mSl slD (ac 3) (aY (af aH (ac 4) (mC (.int 1)))) aZ) (bS B H T (some (.lst XW,.u)) #v[.int (a:Int)] #v[C] v6 v7 #v[KK] #v[PF] #v[PL] #v[FAR] (some (.lst O,.u)) none)=some (.ok (.val (.lst h) .u),bS B H T (some (.lst XW,.u)) #v[.int (a:Int)] #v[C] v6 v7 #v[KK] #v[PF] #v[PL] #v[FAR] (some (.lst O,.u)) none):=aq (iE (ag rfl) bG (bF (ag rfl) rfl) rfl r) (iE (ag rfl) (bF (aq (ag rfl) i_c rfl rfl ad) rfl) bG rfl S) rfl rfl z1
  have e2:af aH (af aH (mSl slD (ac 3) aZ (aY (ac 4))) (bd (aa (af aw (ac 3) (ac 4)) ak))) (mSl slD (ac 3) (aY (ac 4)) aZ) (bS B H T (some (.lst XW,.u)) #v[.int (a:Int)] #v[C] v6 v7 #v[KK] #v[PF] #v[PL] #v[FAR] (some (.lst O,.u)) none)=some (.ok (.val (.lst d) .u),bS B H T (some (.lst XW,.u)) #v[.int (a:Int)] #v[C] v6 v7 #v[KK] #v[PF] #v[PL] #v[FAR] (some (.lst O,.u)) none):=aq (aq (iE (ag rfl) bG (bF (ag rfl) rfl) rfl r) (bO (aj (aq (ag rfl) (ag rfl) rfl rfl ga) ao) rfl (Nat.le_of_ble_eq_true rfl)) rfl rfl z2) (iE (ag rfl) (bF (ag rfl) rfl) bG rfl R) rfl rfl z3
  have e4:af aH (ac 3) (bd (aa (ac 11) ak)) (bS B H T (some (.lst XW,.u)) #v[.int (a:Int)] #v[C] v6 v7 #v[KK] #v[PF] #v[PL] #v[FAR] (some (.lst O,.u)) none)=some (.ok (.val (.lst i) .u),bS B H T (some (.lst XW,.u)) #v[.int (a:Int)] #v[C] v6 v7 #v[KK] #v[PF] #v[PL] #v[FAR] (some (.lst O,.u)) none):=aq (ag rfl) (bO (aj (ag rfl) ao) rfl (Nat.le_of_ble_eq_true rfl)) rfl rfl z4
  exact bA (bO (aj e1 (aj e2 (aj (ag rfl) (aj e4 ao)))) rfl (Nat.le_of_ble_eq_true rfl)) rfl (Nat.le_of_ble_eq_true rfl) rfl
 apply am (Z1:=bS B H T (some (.lst XW,.u)) #v[A] #v[C] v6 v7 #v[KK] #v[PF] #v[PL] #v[FAR] #v[.lst O] (some (.lst [.lst h,.lst d,.lst O,.lst i,.lst n,.lst m],.u)))
 .subst P
  have V:af aH (af aH (mSl slD (ac 3) aZ (aY (ac 4))) (bd (aa (mC (.str "00,1")) ak))) (mSl slD (ac 3) (aY (ac 4)) aZ) (bS B H T (some (.lst XW,.u)) #v[.int (a:Int)] #v[C] v6 v7 #v[KK] #v[PF] #v[PL] #v[FAR] #v[.lst O] (some (.lst [.lst h,.lst d,.lst O,.lst i],.u)))=some (.ok (.val (.lst n) .u),bS B H T (some (.lst XW,.u)) #v[.int (a:Int)] #v[C] v6 v7 #v[KK] #v[PF] #v[PL] #v[FAR] #v[.lst O] (some (.lst [.lst h,.lst d,.lst O,.lst i],.u))):=aq (aq (iE (ag rfl) bG (bF (ag rfl) rfl) rfl r) (bO (aj i_c ao) rfl (Nat.le_of_ble_eq_true rfl)) rfl rfl z5) (iE (ag rfl) (bF (ag rfl) rfl) bG rfl R) rfl rfl z6
  have e6:af aH (af aH (mSl slD (ac 3) aZ (aY (ac 4))) (bd (aa (mC (.str "1,-0")) ak))) (mSl slD (ac 3) (aY (af aH (ac 4) (mC (.int 1)))) aZ) (bS B H T (some (.lst XW,.u)) #v[.int (a:Int)] #v[C] v6 v7 #v[KK] #v[PF] #v[PL] #v[FAR] #v[.lst O] (some (.lst [.lst h,.lst d,.lst O,.lst i],.u)))=some (.ok (.val (.lst m) .u),bS B H T (some (.lst XW,.u)) #v[.int (a:Int)] #v[C] v6 v7 #v[KK] #v[PF] #v[PL] #v[FAR] #v[.lst O] (some (.lst [.lst h,.lst d,.lst O,.lst i],.u))):=aq (aq (iE (ag rfl) bG (bF (ag rfl) rfl) rfl r) (bO (aj i_c ao) rfl (Nat.le_of_ble_eq_true rfl)) rfl rfl z7) (iE (ag rfl) (bF (aq (ag rfl) i_c rfl rfl ad) rfl) bG rfl S) rfl rfl z8
  exact bA (aq (ag rfl) (bO (aj V (aj e6 ao)) rfl (Nat.le_of_ble_eq_true rfl)) rfl rfl cat) rfl (Nat.le_of_ble_eq_true rfl) rfl
 exact a7 (df i_c rfl rfl (aj (aq (ag rfl) (aq (ag rfl) i_c rfl rfl sk) rfl rfl gL) ao) rfl W) rfl
end
theorem Es (S:L3.D):ay bB (aa (bR isS eO (mC (.str " ")) (aa qf ak)) ak) [#v[S],none,none,none,none,none,none]=some (.ok (.val (.int 25) .z),[#v[S],none,none,none,none,none,none]):=by kernel_rfl
theorem jm {p:Pt} (h:zf p):(p.1.natAbs < 10 ^ 15 * 2/\p.2.natAbs < 10 ^ 15 * 2):=by
 obtain ⟨a,b,c,d⟩:=h
 lia
theorem w1_pt {p:Pt} (h:zf p):W1 (ce p):=by
 have:=jm h
 exact sE (by omega) (by omega)
theorem y9 (init:List Pt) (q:Pt):aw (Shd (init++[q])) (.int (-1))=#v[Pd q]:=by
 refine bq ?_
 unfold L2.atI L2.ixN
 rw[if_neg (by omega),if_pos (by simp;omega)]
 have e:(-1+(((init++[q]).map Pd).length:Int)).toNat=init.length:=by simp;omega
 show ((init++[q]).map Pd)[(-1+(((init++[q]).map Pd).length:Int)).toNat]?=_
 rw[e,List.map_append,List.getElem?_append_right (by simp)]
 simp
theorem vW (x:Str) {k:Nat} (h:k < 3):∃ s:Str,aw (.lst [.str x,.str "",.str x]) (.int (k:Int))=#v[.str s]/\(s=x\/s=""):=by
 have a:k=0\/k=1\/k=2:=by omega
 rcases a with rfl | rfl | rfl
 .exact #[x,bM (iZ (i:=0) rfl),.inl rfl]
 .exact #["",bM (iZ (i:=1) rfl),.inr rfl]
 .exact #[x,bM (iZ (i:=2) rfl),.inl rfl]
section
variable {ps:List Pt} (h0:0 < ps.length) (h6:ps.length<=6) (hm:∀ p∈ps,zf p)
include h0 h6 hm
theorem vO:∀ w∈ps.map ce,W1 w:=λw hw=>by
 obtain ⟨p,a,rfl⟩:=Fy.mp hw
 exact w1_pt (hm p a)
theorem km:(aF ps).length<=216/\∀ c∈cod (aF ps),c < 128:=by
 obtain ⟨a,b⟩:=oq (vO h0 h6 hm)
 rw[Ft] at a
 exact #[by unfold aF;omega,b]
theorem Cp:Txt1 (aF ps):=#[by have:=(km h0 h6 hm).1;omega,(km h0 h6 hm).2]
theorem ends:∃ f l:Pt,(f.1.natAbs < 10 ^ 15 * 2/\f.2.natAbs < 10 ^ 15 * 2)/\(l.1.natAbs < 10 ^ 15 * 2/\l.2.natAbs < 10 ^ 15 * 2)/\aw (Shd ps) (.int 0)=#v[Pd f]/\aw (Shd ps) (.int (-1))=#v[Pd l]:=by
 have a:ps[0]?=some ps[0]:=Fo h0
 rcases List.eq_nil_or_concat ps with e | ⟨init,q,e⟩
 .rw[e] at h0;cases h0
 .rw[List.concat_eq_append] at e
  refine #[ps[0],q,jm (hm _ (List.getElem_mem h0)),jm (hm q (by rw[e];simp)),bq (i5 (i:=0) a),?_]
  rw[e]
  exact y9 init q
theorem pF (N:Int):∃ m s,Txt1 s/\dz [(.lst [.int N],.u),(Shd ps,.z),(.str (aF ps),.z)]=some (.ok (.str s,.z),[(.lst [.int m],.u),(Shd ps,.z),(.str (aF ps),.z)]):=by
 obtain ⟨tl,ta⟩:=km h0 h6 hm
 obtain ⟨f,l,hf,hl,s0,s1⟩:=ends h0 h6 hm
 have sp:=fU (w:=aF ps) (by omega) jZ
 rw[pz (λe=>by rw[e] at h0;cases h0)] at sp
 have wl:WL ((ps.map ce).map L3.D.str):=λd hd=>by
  obtain ⟨w,hw,rfl⟩:=Fy.mp hd
  exact #[w,rfl,vO h0 h6 hm w hw]
 have i:((ps.map ce).map L3.D.str).length=ps.length:=by rw[Ft,Ft]
 have ln:=fm ((ps.map ce).map L3.D.str)
 rw[i] at ln
 have F:mI [.str (aF ps)]=#v[.int ((aF ps).length:Int)]:=if_pos (by
  by_cases z:(aF ps).length=0
  .rw[z];decide
  .exact (Nat.log2_lt z).mpr (by omega))
 have ad:aH (.int ((aF ps).length:Int)) (.int 1)=#v[.int (((aF ps).length+1:Nat):Int)]:=rfl
 obtain ⟨a,a1,a2⟩:=ig N (m:=ps.length) h0
 have t1:=dj N (ps.length:Int) (by omega)
 rw[a2] at t1
 generalize N / (ps.length:Int)=N1 at *
 obtain ⟨c,c1,c2⟩:=ig N1 (m:=ps.length) h0
 have t2:=dj N1 (ps.length:Int) (by omega)
 rw[c2] at t2
 generalize N1 / (ps.length:Int)=N2 at *
 obtain ⟨j,σ,P⟩:=ig N2 (m:=(aF ps).length+1) (by omega)
 have t3:=dj N2 (((aF ps).length+1:Nat):Int) (by omega)
 rw[P] at t3
 generalize N2 / (((aF ps).length+1:Nat):Int)=N3 at *
 obtain ⟨y,R,O⟩:=ig N3 (m:=19) (by decide)
 have p:=dj N3 19 (by decide)
 rw[show N3 % 19=(y:Int) from O] at p
 generalize N3 / 19=N4 at *
 obtain ⟨k,k1,k2⟩:=ig N4 (m:=9) (by decide)
 have v:=dj N4 9 (by decide)
 rw[show N4 % 9=(k:Int) from k2] at v
 generalize N4 / 9=N5 at *
 obtain ⟨g,g1,E⟩:=zL R
 have lt:ltI (.int (k:Int)) (.int 3)=#v[.bl (decide (k < 3))]:=by
  show some (L3.D.bl (decide ((k:Int) < 3)),Fl.z)=_
  rw[show decide ((k:Int) < 3)=decide (k < 3) by rw[decide_eq_decide];omega]
 have hi:=λh3 v6 v7=>Bv wl (by rw[i];omega) hf hl (B:=.lst [.int N5]) (T:=.str (aF ps)) s0 s1 (a:=a) (c:=c) (k:=k) (by rw[i];exact a1) (by rw[i];exact c1) h3 k1 v6 v7
 have body:∀ {s:Str} {Z1:Sto},Txt1 s->dM Z1 0 [(L3.D.lst [.int N5],Fl.u),(Shd ps,.z),(.str (aF ps),.z)]=some [(.lst [.int N5],.u),(Shd ps,.z),(.str (aF ps),.z)]->aB (sIf (cB (af ltI (ac 8) (mC (.int 3)))) (aN 3 (af aH (af aH (mSl slS (ac 2) aZ (aY (ac 6))) (af aw (bd (aa (ac 7) (aa (mC (.str "")) (aa (ac 7) ak)))) (ac 8))) (mSl slS (ac 2) (aY (af aH (ac 6) (au lh (aa (af gtI (ac 8) (mC (.int 0))) ak)))) aZ))) bK) t9 (bS (.lst [.int N5]) (Shd ps) (.str (aF ps)) (some (.lst ((ps.map ce).map L3.D.str),.u)) #v[.int (a:Int)] #v[.int (c:Int)] #v[.int (j:Int)] #v[.str #[(List.toArray [g])]] #v[.int (k:Int)] none none none none none)=some (.ok (.rt (.str s) .z),Z1)->∃ m s,Txt1 s/\dz [(.lst [.int N],.u),(Shd ps,.z),(.str (aF ps),.z)]=some (.ok (.str s,.z),[(.lst [.int m],.u),(Shd ps,.z),(.str (aF ps),.z)]):=λ{s Z1} os h o=>by
  refine #[N5,s,os,aT (Z:=bS (.lst [.int N]) (Shd ps) (.str (aF ps)) none none none none none none none none none none none) rfl rfl ?_ h]
  clear hi os h
  generalize (ps.map ce).map L3.D.str=XW at *
  generalize Shd ps=H at *
  generalize L3.D.int (ps.length:Int)=LP at *
  generalize L3.D.int (((aF ps).length+1:Nat):Int)=LT1 at *
  generalize L3.D.int ((aF ps).length:Int)=LT at *
  clear tl ta
  generalize aF ps=TT at *
  generalize L3.D.int (a:Int)=A at *
  generalize L3.D.int (c:Int)=C at *
  generalize L3.D.int (j:Int)=J at *
  generalize L3.D.int (y:Int)=τ at *
  generalize L3.D.int (k:Int)=KK at *
  generalize L3.D.str #[(List.toArray [g])]=GG at *
  unfold t9 at o
  unfold qi
  apply am (Z1:=bS (.lst [.int N]) H (.str TT) (some (.lst XW,.u)) none none none none none none none none none none)
  .exact bA (df (ag rfl) rfl rfl (aj i_c ao) rfl sp) rfl (Nat.le_of_ble_eq_true rfl) rfl
  apply am (Z1:=bS (.lst [.int N1]) H (.str TT) (some (.lst XW,.u)) #v[A] none none none none none none none none none)
  .exact bA (aE (Z2:=bS (.lst [.int N1]) H (.str TT) (some (.lst XW,.u)) none none none none none none none none none none) t1 (aj (ag rfl) (aj (aD (aj (ag rfl) ao) rfl ln) ao)) rfl rfl rfl) rfl (Nat.le_of_ble_eq_true rfl) rfl
  apply am (Z1:=bS (.lst [.int N2]) H (.str TT) (some (.lst XW,.u)) #v[A] #v[C] none none none none none none none none)
  .exact bA (aE (Z2:=bS (.lst [.int N2]) H (.str TT) (some (.lst XW,.u)) #v[A] none none none none none none none none none) t2 (aj (ag rfl) (aj (aD (aj (ag rfl) ao) rfl ln) ao)) rfl rfl rfl) rfl (Nat.le_of_ble_eq_true rfl) rfl
  apply am (Z1:=bS (.lst [.int N3]) H (.str TT) (some (.lst XW,.u)) #v[A] #v[C] #v[J] none none none none none none none)
  .exact bA (aE (Z2:=bS (.lst [.int N3]) H (.str TT) (some (.lst XW,.u)) #v[A] #v[C] none none none none none none none none) t3 (aj (ag rfl) (aj (aq (aD (aj (ag rfl) ao) rfl F) i_c rfl rfl ad) ao)) rfl rfl rfl) rfl (Nat.le_of_ble_eq_true rfl) rfl
  apply am (Z1:=bS (.lst [.int N4]) H (.str TT) (some (.lst XW,.u)) #v[A] #v[C] #v[J] #v[GG] none none none none none none)
  .exact bA (aq i_c (aE (Z2:=bS (.lst [.int N4]) H (.str TT) (some (.lst XW,.u)) #v[A] #v[C] #v[J] none none none none none none none) p (aj (ag rfl) (aj i_c ao)) rfl rfl rfl) rfl rfl E) rfl (Nat.le_of_ble_eq_true rfl) rfl
  apply am (Z1:=bS (.lst [.int N5]) H (.str TT) (some (.lst XW,.u)) #v[A] #v[C] #v[J] #v[GG] #v[KK] none none none none none)
  .exact bA (aE (Z2:=bS (.lst [.int N5]) H (.str TT) (some (.lst XW,.u)) #v[A] #v[C] #v[J] #v[GG] none none none none none none) v (aj (ag rfl) (aj i_c ao)) rfl rfl rfl) rfl (Nat.le_of_ble_eq_true rfl) rfl
  exact o
 by_cases h3:k < 3
 .rw[FH h3] at lt
  have gt:gtI (.int (k:Int)) (.int 0)=#v[.bl (decide (0 < k))]:=by
   show some (L3.D.bl (decide ((0:Int) < (k:Int))),Fl.z)=_
   rw[show decide ((0:Int) < (k:Int))=decide (0 < k) by rw[decide_eq_decide];omega]
  have L:lh [.bl (decide (0 < k))]=#v[.int (if decide (0 < k) then 1 else 0)]:=rfl
  have r:aH (.int (j:Int)) (.int (if decide (0 < k) then 1 else 0))=#v[.int ((j:Int)+(if decide (0 < k) then 1 else 0))]:=rfl
  have q:=wu (x:=aF ps) (by omega) none (some (j:Int))
  have t:=wu (x:=aF ps) (by omega) (some ((j:Int)+(if decide (0 < k) then 1 else 0))) none
  obtain ⟨s,G,n,sa⟩:∃ s:Str,aw (.lst [.str ⟨(List.toArray [g])⟩,.str "",.str ⟨(List.toArray [g])⟩]) (.int (k:Int))=#v[.str s]/\s.length<=1/\∀ c∈cod s,c < 128:=by
   obtain ⟨s,e,Q⟩:=vW #[(List.toArray [g])] h3
   refine #[s,e,?_]
   rcases Q with rfl | rfl
   .exact ⟨FA 1,λc M=>by
     have:c=g:=by simpa[cod] using M
     omega⟩
   .exact #[by decide +kernel,by decide +kernel]
  have ct:=yK tl ta n sa (j:Int) ((j:Int)+(if decide (0 < k) then 1 else 0))
  have S:=Txt.slice_le (aF ps) none (some (j:Int))
  have I:=Txt.slice_le (aF ps) (some ((j:Int)+(if decide (0 < k) then 1 else 0))) none
  have K:aH (.str (Txt.slice (aF ps) none (some (j:Int)))) (.str s)=_:=eg (by omega)
  have p2:aH (.str (Txt.slice (aF ps) none (some (j:Int))++s)) (.str (Txt.slice (aF ps) (some ((j:Int)+(if decide (0 < k) then 1 else 0))) none))=_:=eg (by rw[di];omega)
  refine body (Z1:=bS (.lst [.int N5]) (Shd ps) (.str (aF ps)) (some (.lst ((ps.map ce).map L3.D.str),.u)) #v[.int (a:Int)] #v[.int (c:Int)] #v[.int (j:Int)] #v[.str #[(List.toArray [g])]] #v[.int (k:Int)] none none none none none) ct rfl ?_
  clear body hi ct S I sp wl i ln F ad t1 t2 t3 p v s0 s1 tl ta sa n E
  generalize (if decide (0 < k)=true then (1:Int) else 0)=BI at *
  generalize decide (0 < k)=dd at *
  generalize (ps.map ce).map L3.D.str=XW at *
  generalize Shd ps=H at *
  generalize aF ps=TT at *
  exact bC (cr (b:=true) (aQ (aq (ag rfl) i_c rfl rfl lt) rfl) rfl (a7 (aq (aq (iE (ag rfl) bG (bF (ag rfl) rfl) rfl q) (aq (bO (aj (ag rfl) (aj i_c (aj (ag rfl) ao))) rfl (Nat.le_of_ble_eq_true rfl)) (ag rfl) rfl rfl G) rfl rfl K) (iE (ag rfl) (bF (aq (ag rfl) (aD (aj (aq (ag rfl) i_c rfl rfl gt) ao) rfl L) rfl rfl r) rfl) bG rfl t) rfl rfl p2) rfl))
 .rw[FI h3] at lt
  obtain ⟨s,Z1,os,h,o⟩:=hi (by omega) #v[.int (j:Int)] #v[.str #[(List.toArray [g])]]
  exact body os h (am (bE (b:=false) (aQ (aq (ag rfl) i_c rfl rfl lt) rfl) rfl rfl) o)
end
def ov:List L3.D:=[.non,.bl true,.bl false,.int 0,.int (-1),.int 1,.str "",.str "1",.tup [],.lst [],.tup [.int 0],.tup [.int 0,.int 1],.lst [.int 0],.dk [(.inr "a",.int 1)],.int 100000000000000000000000000000,.tup [.tup [.int 0,.int 0]],.tup [.tup [.int 0,.int 1],.tup [.int 1,.int 2]],.str "0,0",.tup [.int 0,.int 1,.int 2],.dt [([.inl 0,.inl 1],.int 2)]]
theorem ov_at (i:Nat) (h:i < 20):∃ v,aw (.lst ov) (.int (i:Int))=#v[v]/\v∈ov:=by
 have hl:i < ov.length:=h
 exact #[ov[i],bM (iZ (Fo hl)),List.getElem_mem hl]
theorem zQ {n m:Int} {j v:L3.D} (t:aX [(.lst [.int n],.u),(.int 20,.z)]=some (.ok (j,.z),[(.lst [.int m],.u),(.int 20,.z)])) (h:aw (.lst ov) j=#v[v]):kI [(.lst [.int n],.u)]=some (.ok (v,.z),[(.lst [.int m],.u)]):=by
 have a:∀ B:L3.D,(aJ 1 (bd (aa (mC .non) (aa (mC (.bl true)) (aa (mC (.bl false)) (aa (mC (.int 0)) (aa (mUn fN (mC (.int 1))) (aa (mC (.int 1)) (aa (mC (.str "")) (aa (mC (.str "1")) (aa (cn ak) (aa (bd ak) (aa (cn (aa (mC (.int 0)) ak)) (aa (cn (aa (mC (.int 0)) (aa (mC (.int 1)) ak))) (aa (bd (aa (mC (.int 0)) ak)) (aa (En (.inr "a") 1) ak)))))))))))))))) [some (B,.u),none]=some (.ok .nx,[some (B,.u),some (.lst (ov.take 14),.u)]):=λB=>by kernel_rfl
 have b:∀ B:L3.D,(aJ 1 (af aH (ac 1) (bd (aa (af rh (mC (.int 10)) (mC (.int 29))) (aa (cn (aa (cn (aa (mC (.int 0)) (aa (mC (.int 0)) ak))) ak)) (aa (cn (aa (cn (aa (mC (.int 0)) (aa (mC (.int 1)) ak))) (aa (cn (aa (mC (.int 1)) (aa (mC (.int 2)) ak))) ak))) (aa (mC (.str "0,0")) (aa (cn (aa (mC (.int 0)) (aa (mC (.int 1)) (aa (mC (.int 2)) ak)))) (aa (Em [0,1] 2) ak))))))))) [some (B,.u),some (.lst (ov.take 14),.u)]=some (.ok .nx,[some (B,.u),some (.lst ov,.u)]):=λB=>by kernel_rfl
 have a:=a (.lst [.int n])
 have b:=b (.lst [.int n])
 generalize L3.D.lst (ov.take 14)=S7 at *
 generalize L3.D.lst ov=SV at *
 apply aT (Z:=[some (.lst [.int n],.u),none]) (Z1:=[some (.lst [.int m],.u),some (SV,.u)]) rfl rfl
 .unfold tu
  refine am a ?_
  refine am b ?_
  apply a7
  .nomatch [t],[h]
  .rfl
 .rfl
theorem DU:∀ v∈ov,eP "str" v=#v[.bl true]\/eP "str" v=#v[.bl false]:=λv h=>by
 unfold ov at h
 simp only[Fm,List.not_mem_nil,or_false] at h
 rcases h with rfl | rfl | rfl | rfl | rfl | rfl | rfl | rfl | rfl | rfl | rfl | rfl | rfl | rfl | rfl | rfl | rfl | rfl | rfl | rfl
 all_goals first | exact .inl rfl | exact .inr rfl
abbrev gS (S KK:L3.D) (v2 a v4 v5 v6:Option (L3.D×Fl)):Sto:=[#v[S],#v[KK],v2,a,v4,v5,v6]
theorem Er {S KK:L3.D} {v2 a v4 v6:Option (L3.D×Fl)} {t:Str} (h:Txt1 t):gh (gS S KK v2 a v4 #v[.str t] v6)=some (.ok .nx,gS S KK v2 a v4 #v[.str t] v6):=by
 obtain ⟨d,s,e1,e,c⟩:=both h
 have ne:=nX s
 clear h
 generalize L3.D.str t=T at *
 unfold gh
 exact bE (b:=false) (aQ (aq (aD (aj (aE e1 (aj (ag rfl) ao) rfl rfl rfl) ao) rfl c) (aD (aj (aE e (aj (ag rfl) ao) rfl rfl rfl) ao) rfl c) rfl rfl ne) rfl) rfl rfl
theorem Ep {ps:List Pt} (hl:ps.length<=6) (hm:∀ p∈ps,zf p) {S KK B:L3.D} {v4 v5 v6:Option (L3.D×Fl)}:qe (gS S KK (some (B,.u)) #v[Shd ps] v4 v5 v6)=some (.ok (.val (.lst ((ps.map ce).map L3.D.str)) .u),gS S KK (some (B,.u)) #v[Shd ps] v4 v5 v6):=by
 obtain ⟨Y,e,a,b,rfl⟩:=eQ (bnd:=gz 2 (a9 (aC 0) (a9 (aC 1) fB))) (c:=fw) (elt:=jn) (λY=>∃ a b,Y=[a,b]) Pd (λ_=>true) (λp=>.str (ce p)) (xs:=ps) (Y:=[none,none]) #[none,none,rfl] (by
  rintro p g Y ⟨a,b,rfl⟩
  have mt:=jm (hm p g)
  have f:=nt (x:=p.1) (by omega)
  have d:=nt (x:=p.2) (by omega)
  have m:=mD (x:=p.1) (by omega)
  have l:=mD (x:=p.2) (by omega)
  have cl:(",":Str).length=1:=by decide +kernel
  have i:aH (.str (bQ p.1)) (.str ",")=#v[.str (bQ p.1++",")]:=eg (by omega)
  have j:aH (.str (bQ p.1++",")) (.str (bQ p.2))=#v[.str (ce p)]:=eg (by rw[di];omega)
  have k:jn [#v[.int p.1],#v[.int p.2]]=some (.ok (.val (.str (ce p)) .z),[#v[.int p.1],#v[.int p.2]]):=by
   unfold jn
   exact aq (aq (aD (aj (ag rfl) ao) rfl f) i_c rfl rfl i) (aD (aj (ag rfl) ao) rfl d) rfl rfl j
  exact #[[#v[.int p.1],#v[.int p.2]],_,rfl,rfl,(λh=>by cases h),λ_=>#[_,_,_,_,k,rfl,rfl,_,_,rfl]])
 rw[F5.mpr (λ_ _=>rfl)] at e
 have e:cg _ _ _ (ps.map Pd) _=some (.ok (ps.map λp=>L3.D.str (ce p)),_):=e
 rw[show (ps.map λp=>L3.D.str (ce p))=(ps.map ce).map L3.D.str by rw[F7];rfl] at e
 exact cO (rs:=[.pl 3]) (Z1:=gS S KK (some (B,.u)) #v[Shd ps] v4 v5 v6) rfl e (by rw[Ft];omega) rfl
theorem rp0:fZ [.int 0]=#v[.str "0"]:=by kernel_rfl
theorem mk_0:cG [(noT 0,.z)]=some (.ok (.str "text",.z),[(noT 0,.z)]):=mk_t 0
theorem wx (t:L3.D):bB [(.lst [t],.u)]=some (.ok (.int 0,.z),[(.lst [t],.u)]):=by
 have h:bj [(.lst [t],.u)]=some (.error (noT 0),[(.lst [t],.u)]):=by
  apply ui (Z:=[some (.lst [t],.u),none,none,none,none]) (Z1:=[some (.lst [t],.u),none,none,none,none]) rfl rfl
  .unfold bJ
   exact jH (qo (cy (b:=false) (aQ (ft (ag rfl) rfl rfl) rfl)) (jv (aj i_c ao) rfl rfl))
  .rfl
 have c:=mk_0
 have wn:=wh_n 0
 have a:iY ["NoText"] "at" (noT 0)=#v[.int 0]:=by simp[iY]
 have ne:=nX "text"
 generalize L3.D.lst [t]=x at *
 apply aT (Z:=[some (x,.u),none]) (Z1:=[some (x,.u),#v[noT 0]]) rfl rfl
 .unfold jq
  refine yk (Z1:=[some (x,.u),none]) (yl (tJ h (aj (ag rfl) ao) rfl rfl rfl)) (by decide) ?_
  show dn [some (x,.u),#v[noT 0]]=_
  generalize noT 0=E at *
  unfold dn
  apply am (Z1:=[some (x,.u),#v[E]])
  .exact bE (b:=false) (d9 (b:=false) (aQ (aq (aE c (aj (ag rfl) ao) rfl rfl rfl) i_c rfl rfl ne) rfl) rfl (cy (b:=true) (aQ (aE wn (aj (ft (ag rfl) rfl a) ao) rfl rfl rfl) rfl))) rfl rfl
  exact a7 (ft (ag rfl) rfl a) rfl
 .rfl
theorem xY {ns:List Int} (i:Nat) (v2 t v4 v5 v6:Option (L3.D×Fl)):∃ J R σ O I,jp (gS (.fls (ns.map .int)) (.int (i:Int)) v2 t v4 v5 v6)=some (.ok .nx,gS (.fls (ns.map .int)) (.int (i:Int)) J R σ O I):=by
 obtain ⟨p,G⟩:=zV ns i
 obtain ⟨j,ps,es,g,hl,hm⟩:=uA p 6 (by decide) (by decide)
 have h6:ps.length<=6:=by omega
 have es:eU [(.lst [.int p],.u),(.int 6,.z)]=some (.ok (Shd ps,.z),[(.lst [.int j],.u),(.int 6,.z)]):=es
 obtain ⟨o,s1,y,b1⟩:=pF g.pos h6 hm j
 obtain ⟨e,s2,r,b2⟩:=pF g.pos h6 hm o
 obtain ⟨x,x1,v⟩:=ig e (m:=20) (by decide)
 obtain ⟨V,q,A⟩:=ov_at x x1
 have t3:=dj e 20 (by decide)
 rw[show e % 20=(x:Int) from v] at t3
 have od:=zQ t3 q
 generalize e / 20=n4 at *
 have E:=Ep h6 hm (S:=.fls (ns.map .int)) (KK:=.int (i:Int)) (B:=.lst [.int j]) (v4:=v4) (v5:=v5) (v6:=v6)
 have F:eO [.str " ",.lst ((ps.map ce).map L3.D.str)]=#v[.str (aF ps)]:=tD (vO g.pos h6 hm) (by rw[Ft];omega)
 have tt:=Cp g.pos h6 hm
 obtain ⟨tl,ta⟩:=km g.pos h6 hm
 have w:Txt1 "":=#[by decide +kernel,by decide +kernel]
 have os:Txt1 (aF ps++" "):=⟨by rw[di,iB];omega,λc h=>by
  rw[ba,mW] at h
  rcases Fq.mp h with h | h
  .exact ta c h
  .cases FT.mp h;decide⟩
 have ad:aH (.str (aF ps)) (.str " ")=#v[.str (aF ps++" ")]:=eg (by rw[iB];omega)
 have all:∀ s∈[aF ps,"",aF ps++" ",s1,s2],Txt1 s:=λs a=>by
  simp only[Fm,List.not_mem_nil,or_false] at a
  rcases a with rfl | rfl | rfl | rfl | rfl
  .exact tt
  .exact w
  .exact os
  .exact y
  .exact r
 obtain ⟨Z',lo,f,rfl⟩:=cT (bnd:=aC 5) (b:=gh) (λ_ Z=>∃ v5,Z=gS (.fls (ns.map .int)) (.int (i:Int)) (some (.lst [.int e],.u)) #v[Shd ps] #v[.str (aF ps)] v5 v6) (ds:=[aF ps,"",aF ps++" ",s1,s2].map L3.D.str) (Z:=gS (.fls (ns.map .int)) (.int (i:Int)) (some (.lst [.int e],.u)) #v[Shd ps] #v[.str (aF ps)] v5 v6) (k:=0) #[v5,rfl] (by
  rintro m d Z hd ⟨v5,rfl⟩
  rw[Fz] at hd
  obtain ⟨s,a,rfl⟩:=Fh.mp hd
  exact #[_,_,rfl,.inl (Er (all s (Fv a))),_,rfl])
 have lo:bZ (aC 5) gh [.str (aF ps),.str "",.str (aF ps++" "),.str s1,.str s2] _=some (.ok .nx,_):=lo
 have l:=nX "0"
 have C:=rp0
 have sl:=wx (.str (aF ps))
 have n:∀ S KK B H T v5,eR (gw (cB (mUn (eP "str") (ac 6)))) (cB (af neX (au fZ (aa (ay bB (aa (ac 6) ak)) ak)) (mC (.str "0")))) (gS S KK (some (B,.u)) #v[H] #v[T] v5 #v[V])=some (.ok false,gS S KK (some (B,.u)) #v[H] #v[T] v5 #v[V]):=λS KK B H T v5=>by
  rcases DU V A with a | a
  .exact lr (b:=false) (cy (b:=true) (aQ (ft (ag rfl) rfl a) rfl)) rfl
  .have sv:bB [(V,.z)]=some (.ok (.int 0,.z),[(V,.z)]):=nC (Ah a)
   exact lp (b:=true) (cy (b:=false) (aQ (ft (ag rfl) rfl a) rfl)) rfl (aQ (aq (aD (aj (aE sv (aj (ag rfl) ao) rfl rfl rfl) ao) rfl C) i_c rfl rfl l) rfl)
 refine #[some (.lst [.int n4],.u),#v[Shd ps],#v[.str (aF ps)],f,#v[V],?_]
 clear all y r os w tt tl ta q A t3 x1 v g hl hm h6
 generalize aF ps++" "=TB at *
 generalize aF ps=TX at *
 generalize (ps.map ce).map L3.D.str=XW at *
 generalize Shd ps=H at *
 generalize L3.D.fls (ns.map .int)=S at *
 generalize L3.D.int (i:Int)=KK at *
 unfold jp
 apply am (Z1:=gS S KK (some (.lst [.int p],.u)) t v4 v5 v6)
 .nomatch [G]
 apply am (Z1:=gS S KK (some (.lst [.int j],.u)) #v[H] v4 v5 v6)
 .nomatch [es]
 apply am (Z1:=gS S KK (some (.lst [.int j],.u)) #v[H] #v[.str TX] v5 v6)
 .exact bA (df i_c rfl rfl (aj E ao) rfl F) rfl (Nat.le_of_ble_eq_true rfl) rfl
 apply am (Z1:=gS S KK (some (.lst [.int e],.u)) #v[H] #v[.str TX] f v6)
 .have d1:ay dz (aa (ac 2) (aa (ac 3) (aa (ac 4) ak))) (gS S KK (some (.lst [.int j],.u)) #v[H] #v[.str TX] v5 v6)=some (.ok (.val (.str s1) .z),gS S KK (some (.lst [.int o],.u)) #v[H] #v[.str TX] v5 v6):=aE b1 (aj (ag rfl) (aj (ag rfl) (aj (ag rfl) ao))) rfl rfl rfl
  have K:ay dz (aa (ac 2) (aa (ac 3) (aa (ac 4) ak))) (gS S KK (some (.lst [.int o],.u)) #v[H] #v[.str TX] v5 v6)=some (.ok (.val (.str s2) .z),gS S KK (some (.lst [.int e],.u)) #v[H] #v[.str TX] v5 v6):=aE b2 (aj (ag rfl) (aj (ag rfl) (aj (ag rfl) ao))) rfl rfl rfl
  exact cS (iy (bO (aj (ag rfl) (aj i_c (aj (aq (ag rfl) i_c rfl rfl ad) (aj d1 (aj K ao))))) rfl (Nat.le_of_ble_eq_true rfl)) rfl rfl) rfl lo
 apply am (Z1:=gS S KK (some (.lst [.int n4],.u)) #v[H] #v[.str TX] f #v[V])
 .nomatch [od]
 exact bE (b:=false) (d9 (b:=false) (n ..) rfl (aQ (aq (aD (aj (aE sl (aj (bO (aj (ag rfl) ao) rfl (Nat.le_of_ble_eq_true rfl)) ao) rfl rfl rfl) ao) rfl C) i_c rfl rfl l) rfl)) rfl rfl
set_option tactic.hygienic true in
theorem zS (ns:List Int) (o:ns.length<=63):Ci [(.fls (ns.map .int),.z)]=some (.ok (.bl true,.z),[(.fls (ns.map .int),.z)]):=by
 have g:∃ m:Nat,(if (if ((6:Int) < ((ns.map L3.D.int).length:Int)) then (6:Int) else ((ns.map L3.D.int).length:Int)) > 1 then (if ((6:Int) < ((ns.map L3.D.int).length:Int)) then (6:Int) else ((ns.map L3.D.int).length:Int)) else (1:Int))=(m:Int)/\m<=6:=by
  refine #[max 1 (min ns.length 6),?_,by omega]
  simp only[Ft]
  split <;> split <;> lia
 obtain ⟨m,hm,h⟩:=g
 obtain ⟨Z',e,v1,v2,a,v4,v5,v6,rfl⟩:=cT (bnd:=aC 1) (b:=jp) (λ_ Z=>∃ v1 v2 a v4 v5 v6,Z=[#v[.fls (ns.map .int)],v1,v2,a,v4,v5,v6]) (ds:=bo 0 m) (Z:=[#v[.fls (ns.map .int)],none,none,none,none,none,none]) (k:=0) #[_,_,_,_,_,_,rfl] (by
  rintro i d Z hd ⟨v1,v2,a,v4,v5,v6,rfl⟩
  obtain ⟨hi,rfl⟩:=cj hd
  rw[Int.zero_add]
  obtain ⟨n,j,p,q,l,e⟩:=xY (ns:=ns) i v2 a v4 v5 v6
  exact #[_,_,rfl,.inl e,_,_,_,_,_,_,rfl])
 have f:fL [.int (if (if ((6:Int) < ((ns.map L3.D.int).length:Int)) then (6:Int) else ((ns.map L3.D.int).length:Int)) > 1 then (if ((6:Int) < ((ns.map L3.D.int).length:Int)) then (6:Int) else ((ns.map L3.D.int).length:Int)) else (1:Int))]=some (bo 0 m):=by
  rw[hm]
  exact ib (by lia) (by lia)
 have c:=Es (.fls (ns.map .int))
 have ne:neX (.int 25) (.int 25)=#v[.bl false]:=by kernel_rfl
 apply aT (Z:=[#v[.fls (ns.map .int)],none,none,none,none,none,none]) rfl rfl
 .unfold BZ
  apply am (Z1:=[#v[.fls (ns.map .int)],none,none,none,none,none,none])
  .exact bE (b:=false) (aQ (aq c i_c rfl rfl ne) rfl) rfl rfl
  apply am
  .apply cS
   ·(repeat' (first | with_reducible apply gm (h3:=f) | infer_instance | eq_refl))
   .rfl
   .exact e
  .apply a7
   .exact i_c
   .rfl
 .rfl
end Bn
end
namespace Bn
open PySem L2 L3
theorem E9 {l:PySem.W.OpenLaw} {w:World} {K:FG} {h:Heap} {mg:Str -> Option Value} {fa:Addr} (X:K.In h) (G:h.Ns mainGlobals mg) (eu:mg "law"=some (.ref fa)) (e:zN K=tK) :
  ∃ fd:FuncData,(∀ (s:Shared) (v:Value),BindsTo s fd #[[v],[]] [("_law_script",v)]) /\ ∀ base:Heap,K.In base -> base.Ns mainGlobals mg -> FnOk l.prog w K mg base CX0 7 fa fd ["_law_script"] (wk K):=by
 have g:dsL.map (λp=>qv K p.1)=dsL.map (λp=>lx p.1 p.2):=congrArg (λx=>x.1) e
 have e1:blL.map (PySem.W.nsIn K mainGlobals)=blL.map (λ_=>some none):=congrArg (λx=>x.2.1) e
 have e2:ciL.map (λp=>oB K p.1)=ciL.map (λp=>some p.2):=congrArg (λx=>x.2.2.1) e
 have e3:csL.map (λp=>nz K p.1)=csL.map (λp=>some p.2):=congrArg (λx=>x.2.2.2.1) e
 have e4:xrL.map (λr:String=>t7 K r)=xrL.map (λ_:String=>yO):=congrArg (λx=>x.2.2.2.2.1) e
 have e5:xcL.map (iq K)=xcL.map (λ_=>true):=congrArg (λx=>x.2.2.2.2.2.1) e
 have e6:xbL.map (PySem.W.nsIn K mainGlobals)=xbL.map (λ_=>some none):=congrArg (λx=>x.2.2.2.2.2.2.1) e
 have e7:oN K=kE:=congrArg (λx=>x.2.2.2.2.2.2.2.1) e
 have e8:[PySem.W.kitOne K (.ref (aA K "NoText")) (.ref (aA K "Apart")),PySem.W.kitOne K (.ref (aA K "NoText")) (.ref (aA K "Bare")),PySem.W.kitOne K (.ref (aA K "NoText")) (.ref (aA K "BentError")),PySem.W.kitOne K (.ref (aA K "NoText")) (.ref (aA K "NoNumber")),PySem.W.kitOne K (.ref (aA K "NoText")) (.ref (aA K "NoPlace")),PySem.W.kitOne K (.ref (aA K "NoText")) (.ref (aA K "NoRing")),PySem.W.kitOne K (.ref (aA K "NoText")) (.ref (aA K "NoRow")),PySem.W.kitOne K (.ref (aA K "NoText")) (.ref (aA K "NoSheet")),PySem.W.kitOne K (.ref (aA K "NoText")) (.ref (aA K "NoText")),PySem.W.kitOne K (.ref (aA K "NoText")) (.ref (aA K "OnLine")),PySem.W.kitOne K (.ref (aA K "NoText")) (.ref (aA K "TooMany")),PySem.W.kitOne K (.ref (aA K "NoText")) (.type "ValueError")]=[some false,some false,some true,some false,some false,some false,some false,some false,some true,some false,some false,some true]:=congrArg (λx=>x.2.2.2.2.2.2.2.2.1) e
 have e9:[PySem.W.exmOne K (.ref (aA K "NoText")) (.ref (aA K "BentError"))]=[some true]:=congrArg (λx=>x.2.2.2.2.2.2.2.2.2.1) e
 have ej:tG K "NoText" "at"=oC "NoText.__init__" mm:=congrArg (λx=>x.2.2.2.2.2.2.2.2.2.2.1) e
 have ep:nq K=true:=congrArg (λx=>x.2.2.2.2.2.2.2.2.2.2.2) e
 have B:Bl mg:=#[cf X G e1 0 rfl,cf X G e1 1 rfl,cf X G e1 2 rfl,cf X G e1 3 rfl,cf X G e1 4 rfl,cf X G e1 5 rfl,cf X G e1 6 rfl,cf X G e1 7 rfl,cf X G e1 8 rfl,cf X G e1 9 rfl,cf X G e1 10 rfl,cf X G e1 11 rfl,cf X G e1 12 rfl,cf X G e1 13 rfl,cf X G e1 14 rfl,cf X G e1 15 rfl,cf X G e1 16 rfl,cf X G e1 17 rfl,cf X G e1 18 rfl,cf X G e1 19 rfl,cf X G e1 20 rfl]
 have D0:Def K mg "is_whole" eY:=a8 X G g 0 rfl
 have D1:Def K mg "is_point" fc:=a8 X G g 1 rfl
 have D2:Def K mg "are_points" dH:=a8 X G g 2 rfl
 have D3:Def K mg "has_rising_x" cJ:=a8 X G g 3 rfl
 have D4:Def K mg "bend" nE:=a8 X G g 4 rfl
 have D5:Def K mg "threes" i8:=a8 X G g 5 rfl
 have D6:Def K mg "first_on_line" cu:=a8 X G g 6 rfl
 have D7:Def K mg "is_sheet" eZ:=a8 X G g 7 rfl
 have D8:Def K mg "read_number" dg:=a8 X G g 8 rfl
 have D9:Def K mg "read_point" dG:=a8 X G g 9 rfl
 have d3:Def K mg "read_sheet" dF:=a8 X G g 10 rfl
 have eH:Def K mg "_law_cell" je:=a8 X G g 11 rfl
 have el:Def K mg "_law_mix" ko:=a8 X G g 12 rfl
 have eo:Def K mg "_law_box" kr:=a8 X G g 13 rfl
 have eb:Def K mg "_law_take" i9:=a8 X G g 14 rfl
 have ey:Def K mg "_law_whole" hJ:=a8 X G g 15 rfl
 have ei:Def K mg "_law_bend" jg:=a8 X G g 16 rfl
 have ea:Def K mg "_law_free" jd:=a8 X G g 17 rfl
 have ek:Def K mg "_law_sheet" hU:=a8 X G g 18 rfl
 have ez:Def K mg "_law_odd" kn:=a8 X G g 19 rfl
 have en:Def K mg "_law_line" jc:=a8 X G g 20 rfl
 have et:Def K mg "_law_marks" hV:=a8 X G g 21 rfl
 have d4:Def K mg "_law_number" eX:=a8 X G g 22 rfl
 have ed:Def K mg "_law_read" jb:=a8 X G g 23 rfl
 have ec:Def K mg "_law_said" ja:=a8 X G g 24 rfl
 have ew:Def K mg "_law_bent" jf:=a8 X G g 25 rfl
 obtain ⟨f,fd,F0,hf⟩:Def K mg "law" fW:=a8 X G g 26 rfl
 cases eu.symm.trans hf
 have F:=F0
 obtain ⟨oc,od,kV,doc,pm,an,er,ct,fe,ef,lk,fb⟩:=F0.ex
 subst ef
 obtain ⟨fi,Q0⟩:=ED X G e2 0 (n:="MOST_POINTS") (v:=24) rfl
 obtain ⟨eN,Q1⟩:=CO X G e3 0 (n:="FIGURES") (v:="0123456789") rfl
 obtain ⟨a,cm,ck⟩:=EF (r:="NoText") (n:="at") X G e7 ej #[rfl,rfl,rfl,by decide +kernel,rfl,by decide +kernel,by decide +kernel] rfl rfl rfl (λ_ _ _ _ _ _ _ _=>rfl) (by decide +kernel) (by decide +kernel)
 have b6:mg "NoText"=_:=dQ X G e5 0 rfl
 have dc:mg "Apart"=_:=dQ X G e5 1 rfl
 have dV:mg "Bare"=_:=dQ X G e5 2 rfl
 have d:mg "BentError"=_:=dQ X G e5 3 rfl
 have T:mg "NoNumber"=_:=dQ X G e5 4 rfl
 have a6:mg "NoPlace"=_:=dQ X G e5 5 rfl
 have c3:mg "NoRing"=_:=dQ X G e5 6 rfl
 have c4:mg "NoRow"=_:=dQ X G e5 7 rfl
 have a3:mg "NoSheet"=_:=dQ X G e5 8 rfl
 have c0:mg "OnLine"=_:=dQ X G e5 9 rfl
 have az:mg "TooMany"=_:=dQ X G e5 10 rfl
 have u:mg "ValueError"=none:=cf X G e6 0 rfl
 have dr:IsX K (.ref (aA K "Apart")) [("NoText",false)]:=(.cons a (jK e8 0 rfl rfl) .nil)
 have d0:IsX K (.ref (aA K "Bare")) [("NoText",false)]:=(.cons a (jK e8 1 rfl rfl) .nil)
 have J:IsX K (.ref (aA K "BentError")) [("NoText",true)]:=(.cons a (jK e8 2 rfl rfl) .nil)
 have V:IsX K (.ref (aA K "NoNumber")) [("NoText",false)]:=(.cons a (jK e8 3 rfl rfl) .nil)
 have a5:IsX K (.ref (aA K "NoPlace")) [("NoText",false)]:=(.cons a (jK e8 4 rfl rfl) .nil)
 have b4:IsX K (.ref (aA K "NoRing")) [("NoText",false)]:=(.cons a (jK e8 5 rfl rfl) .nil)
 have c7:IsX K (.ref (aA K "NoRow")) [("NoText",false)]:=(.cons a (jK e8 6 rfl rfl) .nil)
 have ax:IsX K (.ref (aA K "NoSheet")) [("NoText",false)]:=(.cons a (jK e8 7 rfl rfl) .nil)
 have b5:IsX K (.ref (aA K "NoText")) [("NoText",true)]:=(.cons a (jK e8 8 rfl rfl) .nil)
 have b3:IsX K (.ref (aA K "OnLine")) [("NoText",false)]:=(.cons a (jK e8 9 rfl rfl) .nil)
 have bt:IsX K (.ref (aA K "TooMany")) [("NoText",false)]:=(.cons a (jK e8 10 rfl rfl) .nil)
 have C:IsX K (.type "ValueError") [("NoText",true)]:=(.cons a (jK e8 11 rfl rfl) .nil)
 have N:ExX K (aA K "BentError") ["NoText"]:=(.cons a (jK e9 0 rfl rfl) .nil)
 have d2:sB K:=CN ep
 refine #[PySem.W.fnOf "law" "law" (aK fW) (aG fW) (ah fW) .none kV doc pm an er ct,λs v=>.of_eq rfl,λbase _ _=>?_]
 have ar:=oW (P:=l.prog) (w:=w) (base:=base) B D0
 have S:=oY (P:=l.prog) (w:=w) (base:=base) B D1 ar
 have z:=lD (P:=l.prog) (w:=w) (base:=base) B D2 S Q0
 have m:=jY (P:=l.prog) (w:=w) (base:=base) B D3
 have dy:=yX (P:=l.prog) (w:=w) (base:=base) B D4
 have cv:=rY (P:=l.prog) (w:=w) (base:=base) B D5
 have i:=jx (P:=l.prog) (w:=w) (base:=base) B D6 dy cv
 have ρ:=oX (P:=l.prog) (w:=w) (base:=base) B D7 z i m
 have t:=kj (P:=l.prog) (w:=w) (base:=base) B D8 Q1
 have y:=lC (P:=l.prog) (w:=w) (base:=base) B D9 t
 have k:=jX (P:=l.prog) (w:=w) (base:=base) B d3 ρ y a cm
 have O:=sf (P:=l.prog) (w:=w) (base:=base) B eH
 have τ:=vE (P:=l.prog) (w:=w) (base:=base) B el
 have σ:=vF (P:=l.prog) (w:=w) (base:=base) B eo O τ
 have b:=rZ (P:=l.prog) (w:=w) (base:=base) B eb
 have j:=lZ (P:=l.prog) (w:=w) (base:=base) B ey
 have c:=si (P:=l.prog) (w:=w) (base:=base) B ei
 have L:=se (P:=l.prog) (w:=w) (base:=base) B ea c
 have A:=qG (P:=l.prog) (w:=w) (base:=base) B ek L b
 have ae:=vD (P:=l.prog) (w:=w) (base:=base) B ez b
 have M:=sd (P:=l.prog) (w:=w) (base:=base) B en c
 have o:=l4 (P:=l.prog) (w:=w) (base:=base) B et dc dr dV d0 d J T V a6 a5 c3 b4 c4 c7 a3 ax b6 b5 c0 b3 az bt u C
 have q:=oV (P:=l.prog) (w:=w) (base:=base) B d4
 have I:=r9 (P:=l.prog) (w:=w) (base:=base) B ed M q
 have R:=r0 (P:=l.prog) (w:=w) (base:=base) B ec o j k ck d N
 have D:=sh (P:=l.prog) (w:=w) (base:=base) B ew b
 exact FnOk.imp (Be (P:=l.prog) (w:=w) (base:=base) B F D σ ae I R A d2) λvs H Q E h=>A5 (λns hn=>#[_,zS ns hn]) h
theorem walkL:PySem.W.WalkO viL loL (λ_ _=>True) (λ_ h=>∃ K:FG,K.In h /\ zN K=tK) PySem.Challenge.rw_bentrows_k06_texts_refused.row.toRowW ⟨"law",aK fW,aG fW,ah fW,stPos fW⟩ [] (λf vs=>PySem.call f vs) :=
 L2.walk_ofS (l:=PySem.Challenge.rw_bentrows_k06_texts_refused) (n:=63) (k:=7) (x:="_law_script") (S:=λK=>zN K=tK) (CX:=CX0) (sp:=wk) rfl (by decide) rfl ⟨rfl,by decide,by decide,rfl⟩ (λ_ _ z=>z) (λ_ _ _ _ _ e X G hm=>E9 X G hm e) (λ_ _ a ns hl c b=>⟨a,ns,rfl,b,c,hl,λ_=>rfl⟩) λ_ _ _ _ z=>z
end Bn
set_option tactic.hygienic true
open PySem PySem.W PyProof.Rows
set_option maxRecDepth 100000 in
set_option maxHeartbeats 0 in
theorem PySem.Challenge.cw_bentrows_k06_texts_refused_holds : PySem.Challenge.rw_bentrows_k06_texts_refused.Holds :=
 holds_law Bn.okL λsaid=>holds_open (r:=PySem.Challenge.rw_bentrows_k06_texts_refused.row) Bn.leftL (λ_ _ e=>⟨_,L2.fragAt_in _,e⟩) (λ_ _ _ ⟨K,X,e⟩ k=>⟨K,X.keeps k,e⟩) (λ_ _=>trivial) (λ_ _ _ _ _=>trivial) (by kernel_rfl) (by kernel_rfl) (by kernel_rfl) (λs e=>recFacts_of e) (by rfl) said (by kernel_rfl) ⟨rfl,rfl,rfl,rfl,rfl,by decide +kernel⟩ ⟨[.list []],by decide +kernel,by decide +kernel⟩ Bn.walkL
