import PyProof.Rows.All
import Wide.All
import OpenK.AllK
import Wide.FinOn
import Lean
import PyProof.EqAt
import PyProof.EqKinds
import PyProof.TupleCall
import PyProof.P3Eq
import PyProof.NeData
import PyProof.ListRange
import PyProof.Rows.CallKwBuiltin
import PyProof.Rows.Range3
import PyProof.DictWalks
import PyProof.MinMaxWalk
import PyProof.WalkInts
import PyProof.Walk
import PyProof.WalkLemmas
import PyProof.RulesTry
import PyProof.Rows.SortShell
import PyProof.Rows.SortWalk
import PyProof.Rows.SortRuns
import PyProof.Rows.SetFrom
import PyProof.SetKind
import PyProof.SetScanFacts
import PyProof.FactsAll.subtypes_4
import PyProof.FactsAll.set_1
import PyProof.DictDisplay
import OpenK.KOwn
import KE.KTryMore
import KE.RegKTryMore
import PyProof.Rows.Catch
import KE.KIsAll
import KE.RegKIsAll
import PyProof.ExcArgsOwn
import PySem.Challenge.RW_bentrows_k18_rows_joined
set_option genSizeOf false
set_option compiler.extract_closed false
set_option Elab.async false
noncomputable section
local macro_rules|`(#[$a,*])=>`(⟨$a,*⟩)
local macro_rules|`(#v[$a])=>`(some ($a,.z))
set_option linter.all false
set_option maxRecDepth 100000
set_option maxHeartbeats 4000000
section
abbrev FG:=PySem.W.Frag
open PySem PySem.Spec PyProof.Rows
abbrev Fs:=@wpAny_bind
abbrev Ft:=@wpAny_pure
abbrev Fu:=@wpAny_holding
abbrev Fv:=@List.mem_cons_self
abbrev Fw:=@List.mem_cons_of_mem
abbrev Fy:=@Heap.get?_push_of_some
abbrev Fz:=@Option.map_eq_some_iff
abbrev FA:=@List.mem_append_left
abbrev FC:=@List.mem_append_right
abbrev FD:=@List.mem_cons
abbrev FE:=@List.getElem?_eq_getElem
abbrev FF:=@Heap.lt_size
abbrev FH:=@List.mem_append
abbrev FI:=@Heap.get?_push_size
abbrev FJ:=@List.length_map
abbrev FK:=@List.getElem?_eq_some_iff
abbrev FL:=@List.mem_of_getElem?
abbrev FN:=@List.sublist_append_right
abbrev FO:=@List.mem_map
abbrev FP:=@List.getElem?_map
abbrev FQ:=@Nat.le_refl
abbrev FR:=@Bool.false_ne_true
abbrev FT:=@Nat.ne_of_lt
abbrev FU:=@List.size_toArray
abbrev FV:=@List.map_cons
abbrev FW:=@decide_eq_true
abbrev FX:=@decide_eq_false
abbrev FY:=@Nat.lt_of_lt_of_le
abbrev FZ:=@Nat.zero_add
abbrev F1:=@Heap.get?_update_self
abbrev F2:=@List.length_append
abbrev F5:=@List.length_cons
abbrev F6:=@List.length_take
abbrev F7:=@Option.map_some
abbrev F8:=@Option.bind_eq_some_iff
abbrev F9:=@List.mem_singleton
abbrev Ga:=@Bool.false_eq_true
abbrev Gb:=@List.mem_filter
abbrev Gd:=@List.getElem?_append_left
abbrev Ge:=@Heap.get?_update_other
abbrev Gf:=@Heap.size_push
abbrev Gg:=@wpAny_truthy_bool
abbrev Gh:=@Nat.le_trans
abbrev Gi:=@List.filter_eq_self
abbrev Gj:=@List.mem_flatMap
abbrev Gk:=@List.map_map
abbrev Gn:=@Option.some.inj
abbrev Gp:=@List.length_eq_zero_iff
end
section
namespace L2
open PySem
def aQ (s:Stmt):Arguments:=match s with
 | .FunctionDef _ a _ _ _ _ _ _ _ _=>a
 | _=>{ posonlyargs:=[],args:=[],vararg:=none,kwonlyargs:=[],kw_defaults:=[],kwarg:=none,defaults:=[] }
def aI (s:Stmt):List Stmt:=match s with
 | .FunctionDef _ _ b _ _ _ _ _ _ _=>b
 | _=>[]
def ag (s:Stmt):Scope:=match s with
 | .FunctionDef _ _ _ _ _ _ sc _ _ _=>sc
 | _=>{ kind:=.function,names:=[],isGenerator:=false,isCoroutine:=false }
def qV (p:Nat×Obj):Option (Nat×Obj):=match p.2 with
 | #[_,_,.freed,_]=>none
 | o=>some (p.1,o)
def zH (h:Heap):FG:=((List.range h.objs.size).zip h.objs.toList).filterMap qV
def aj (K:FG) (n:Str):Addr:=match PySem.W.nsIn K mainGlobals n with
 | some (some (.ref f))=>f
 | _=>0
abbrev pU:=Str×Str×Arguments×FuncBody×Scope×Addr×List (Str×Addr)×Value×Addr×Bool
def q8 (K:FG) (n:Str):Option pU:=match PySem.W.nsIn K mainGlobals n with
 | some (some (.ref f))=>(match K.lookup f with
  | some #[_,_,.func fd,_]=>some (fd.name,fd.qualname,fd.params,fd.body,fd.scope,fd.globals,fd.closure,fd.defaults,fd.builtins,PySem.W.codeIn K fd.code n)
  | _=>none)
 | _=>none
def mB (n:Str) (st:Stmt):Option pU:=some (n,n,aQ st,.stmts (aI st),ag st,mainGlobals,[],.none,builtinsNs,true)
def pc (K:FG) (n:Str):Option Int:=match PySem.W.nsIn K mainGlobals n with
 | some (some (.int v _))=>some v
 | _=>none
def xw (K:FG) (n:Str):Option Str:=match PySem.W.nsIn K mainGlobals n with
 | some (some (.str v _))=>some v
 | _=>none
open PySem.W PyProof.Rows in
theorem wj {p q:Program} {loose:List Str} {c:Shared → Bool} {α:Type} {d:Shared → α} {g:World → α} {N m:Nat} {ann:Option Value}
  (e:opening p=plainProg p.main.scope.names) (l:Nat.ble 600 N=true) (f:∀ s,fenceModules? p s=some s)
  (sz:∀ w:World,((boot_heap w.params).isNs mainGlobals && (Array.mk []:Array GenState).size == 0,(boot_heap w.params).objs.size,(boot_heap w.params).nsMap mainGlobals "__annotations__")=(true,m,ann))
  (go:∀ (w:World) (os:OsState),(PySem.W.Fast.tw14082659384304107361 PySem.W.Fast.tw14364793385576792824 p w m ann N #[boot_heap w.params,Array.mk [],boot_drawn,boot_toks,os] (topStub p)).map (λs=>((staticsOk (importedModules p.main.body) (boot_heap w.params) s.heap && namesBound p s.heap && gensDone s && laidKept (boot_heap w.params) s.heap),PySem.W.Fast.tw4187177175401517315 q loose (importedModules p.main.body) c true s,d s))=some (true,openGood q loose,g w)):LeftO p q loose c d g N:=λw=>by
 obtain ⟨⟨h,o,i,tk,os⟩,k,n⟩:=Fz.mp (boot_open e l f w)
 obtain ⟨rfl,rfl,rfl,rfl⟩:h=boot_heap w.params ∧ o=Array.mk [] ∧ i=boot_drawn ∧ tk=boot_toks:=by simpa using n
 have sw:=sz w
 have a:=go w os
 rw[← PySem.W.Fast.te14082659384304107361,← PySem.W.Fast.te14364793385576792824,← PySem.W.Fast.te4187177175401517315] at a
 simp only[Prod.mk.injEq] at sw
 obtain ⟨s,j,b⟩:=Fz.mp a
 simp only[Prod.mk.injEq] at b
 have tt:topFrom treeTable p w N #[boot_heap w.params,Array.mk [],boot_drawn,boot_toks,os]=some s:=by
  unfold topFrom
  dsimp only
  rw[sw.1,sw.2.1,sw.2.2,j]
  change (match staticsOk (importedModules p.main.body) (boot_heap w.params) s.heap && namesBound p s.heap && gensDone s && laidKept (boot_heap w.params) s.heap with | true=>some s | false=>none)=some s
  rw[b.1]
 unfold openEnds
 rw[k]
 change Option.map _ (topFrom treeTable p w N _)=_
 rw[tt]
 exact congrArg some (Prod.ext b.2.1 b.2.2)
theorem vG (h:PySem.W.Fast.tw9446332074065402090 l=true):l.wellSaid=true:=by rw[← PySem.W.Fast.te9446332074065402090] at h; exact h
abbrev mroV:List Value:=[.type "ValueError",.type "Exception",.type "BaseException",.type "object"]
end L2
namespace L3
open PySem L2
def iO (K:FG) (n:Str):Bool:=match PySem.W.nsIn K mainGlobals n with
 | some (some (.ref _))=>true
 | _=>false
abbrev pV:=Bool×Option (Option Value)×Option (Option Value)×Bool×Option (Option Value)×Option Bool×Option Bool×Bool
def vd (K:FG) (r:Str):pV:=(iO K r,PySem.W.findIn K (.ref (aj K r)) "__getattribute__",PySem.W.findIn K (.ref (aj K r)) "__getattr__",PySem.W.isClsIn K (aj K r),PySem.W.findIn K (.ref (aj K r)) "__class__",PySem.W.mroIn K (aj K r) (.type "object"),PySem.W.mroIn K (aj K r) (.type "BaseException"),PySem.W.excIn K (aj K r) mroV "ValueError.__new__")
def pE:pV:=(true,some (some (.builtin "BaseException.__getattribute__")),some none,true,some (some (.builtin "object.__class__")),some true,some true,true)
def pC (K:FG):Option (Option Value)×Option Bool:=(PySem.W.specialIn K (.builtin "object.__class__") "__get__",PySem.W.takesIn K (.builtin "object.__class__"))
def ll:Option (Option Value)×Option Bool:=(some (some (.builtin "getset_descriptor.__get__")),some true)
end L3
namespace Bn
open PySem L2 L3
def top (i:Nat):Stmt:=PySem.Challenge.pw_bentrows_k18_rows_joined.main.body.getD i (.Pass ⟨0,0,0,0⟩)
abbrev fG:Stmt:=top 13
abbrev fI:Stmt:=top 14
abbrev fJ:Stmt:=top 15
abbrev bG:Stmt:=top 16
abbrev dI:Stmt:=top 19
abbrev cA:Stmt:=top 20
abbrev oI:Stmt:=top 21
abbrev jn:Stmt:=top 22
abbrev ce:Stmt:=top 23
abbrev fH:Stmt:=top 24
abbrev dh:Stmt:=top 25
abbrev iF:Stmt:=top 26
abbrev eB:Stmt:=top 27
abbrev eA:Stmt:=top 31
abbrev la:Stmt:=top 32
abbrev jw:Stmt:=top 33
abbrev jx:Stmt:=top 34
abbrev jv:Stmt:=top 36
abbrev jt:Stmt:=top 38
abbrev k8:Stmt:=top 39
abbrev k9:Stmt:=top 40
abbrev jp:Stmt:=top 41
abbrev iG:Stmt:=top 42
abbrev ju:Stmt:=top 43
abbrev js:Stmt:=top 44
abbrev iH:Stmt:=top 45
abbrev k7:Stmt:=top 46
abbrev oH:Stmt:=top 47
abbrev fF:Stmt:=top 48
abbrev iK:Stmt:=top 49
abbrev iI:Stmt:=top 50
abbrev jr:Stmt:=top 51
abbrev iJ:Stmt:=top 52
abbrev jq:Stmt:=top 53
abbrev gx:Stmt:=top 54
abbrev dsL:List (Str×Stmt):=[(("is_whole":Str),fG),(("is_point":Str),fI),(("is_place":Str),fJ),(("are_rising_places":Str),bG),(("are_points":Str),dI),(("has_rising_x":Str),cA),(("bend":Str),oI),(("threes":Str),jn),(("first_on_line":Str),ce),(("is_sheet":Str),fH),(("check_sheet":Str),dh),(("turn_at":Str),iF),(("all_turns":Str),eB),(("row_bends":Str),eA),(("bends":Str),la),(("is_cup":Str),jw),(("is_cap":Str),jx),(("joined":Str),jv),(("_law_cell":Str),jt),(("_law_mix":Str),k8),(("_law_box":Str),k9),(("_law_take":Str),jp),(("_law_whole":Str),iG),(("_law_bend":Str),ju),(("_law_free":Str),js),(("_law_sheet":Str),iH),(("_law_odd":Str),k7),(("_law_up":Str),oH),(("_law_rising":Str),fF),(("_law_bends":Str),iK),(("_law_parts":Str),iI),(("_law_rows":Str),jr),(("_law_marks":Str),iJ),(("_law_said":Str),jq),(("law":Str),gx)]
abbrev blL:List Str:=[("len":Str),("range":Str),("abs":Str),("divmod":Str),("enumerate":Str),("tuple":Str),("isinstance":Str),("int":Str),("bool":Str),("all":Str),("str":Str),("max":Str),("min":Str),("list":Str),("dict":Str),("repr":Str),("sorted":Str),("set":Str),("zip":Str),("reversed":Str)]
abbrev ciL:List (Str×Int):=[(("MOST_POINTS":Str),(24:Int)),(("UP":Str),(1:Int)),(("DOWN":Str),(-1:Int))]
abbrev csL:List (Str×Str):=[]
abbrev xrL:List String:=["NoSheet","Apart","NoRow"]
abbrev xcL:List Str:=[("NoSheet":Str),("Apart":Str),("NoRow":Str),("Bare":Str),("BentError":Str),("NoNumber":Str),("NoPlace":Str),("NoRing":Str),("NoText":Str),("OnLine":Str),("TooMany":Str)]
abbrev xbL:List Str:=[("ValueError":Str)]
def AN (K:FG):List (Option pU)×List (Option (Option Value))×List (Option Int)×List (Option Str)×List pV×List Bool×List (Option (Option Value))×(Option (Option Value)×Option Bool)×List (Option Bool)×List (Option Bool):=(dsL.map (λp=>q8 K p.1),blL.map (PySem.W.nsIn K mainGlobals),ciL.map (λp=>pc K p.1),csL.map (λp=>xw K p.1),xrL.map (λr:String=>vd K r),xcL.map (iO K),xbL.map (PySem.W.nsIn K mainGlobals),pC K,[PySem.W.kitOne K (.ref (aj K "NoSheet")) (.ref (aj K "Apart")),PySem.W.kitOne K (.ref (aj K "Apart")) (.ref (aj K "Apart")),PySem.W.kitOne K (.ref (aj K "NoRow")) (.ref (aj K "Apart")),PySem.W.kitOne K (.ref (aj K "NoSheet")) (.ref (aj K "Bare")),PySem.W.kitOne K (.ref (aj K "Apart")) (.ref (aj K "Bare")),PySem.W.kitOne K (.ref (aj K "NoRow")) (.ref (aj K "Bare")),PySem.W.kitOne K (.ref (aj K "NoSheet")) (.ref (aj K "BentError")),PySem.W.kitOne K (.ref (aj K "Apart")) (.ref (aj K "BentError")),PySem.W.kitOne K (.ref (aj K "NoRow")) (.ref (aj K "BentError")),PySem.W.kitOne K (.ref (aj K "NoSheet")) (.ref (aj K "NoNumber")),PySem.W.kitOne K (.ref (aj K "Apart")) (.ref (aj K "NoNumber")),PySem.W.kitOne K (.ref (aj K "NoRow")) (.ref (aj K "NoNumber")),PySem.W.kitOne K (.ref (aj K "NoSheet")) (.ref (aj K "NoPlace")),PySem.W.kitOne K (.ref (aj K "Apart")) (.ref (aj K "NoPlace")),PySem.W.kitOne K (.ref (aj K "NoRow")) (.ref (aj K "NoPlace")),PySem.W.kitOne K (.ref (aj K "NoSheet")) (.ref (aj K "NoRing")),PySem.W.kitOne K (.ref (aj K "Apart")) (.ref (aj K "NoRing")),PySem.W.kitOne K (.ref (aj K "NoRow")) (.ref (aj K "NoRing")),PySem.W.kitOne K (.ref (aj K "NoSheet")) (.ref (aj K "NoRow")),PySem.W.kitOne K (.ref (aj K "Apart")) (.ref (aj K "NoRow")),PySem.W.kitOne K (.ref (aj K "NoRow")) (.ref (aj K "NoRow")),PySem.W.kitOne K (.ref (aj K "NoSheet")) (.ref (aj K "NoSheet")),PySem.W.kitOne K (.ref (aj K "Apart")) (.ref (aj K "NoSheet")),PySem.W.kitOne K (.ref (aj K "NoRow")) (.ref (aj K "NoSheet")),PySem.W.kitOne K (.ref (aj K "NoSheet")) (.ref (aj K "NoText")),PySem.W.kitOne K (.ref (aj K "Apart")) (.ref (aj K "NoText")),PySem.W.kitOne K (.ref (aj K "NoRow")) (.ref (aj K "NoText")),PySem.W.kitOne K (.ref (aj K "NoSheet")) (.ref (aj K "OnLine")),PySem.W.kitOne K (.ref (aj K "Apart")) (.ref (aj K "OnLine")),PySem.W.kitOne K (.ref (aj K "NoRow")) (.ref (aj K "OnLine")),PySem.W.kitOne K (.ref (aj K "NoSheet")) (.ref (aj K "TooMany")),PySem.W.kitOne K (.ref (aj K "Apart")) (.ref (aj K "TooMany")),PySem.W.kitOne K (.ref (aj K "NoRow")) (.ref (aj K "TooMany")),PySem.W.kitOne K (.ref (aj K "NoSheet")) (.type "ValueError"),PySem.W.kitOne K (.ref (aj K "Apart")) (.type "ValueError"),PySem.W.kitOne K (.ref (aj K "NoRow")) (.type "ValueError")],[PySem.W.exmOne K (.ref (aj K "NoSheet")) (.ref (aj K "BentError")),PySem.W.exmOne K (.ref (aj K "Apart")) (.ref (aj K "BentError")),PySem.W.exmOne K (.ref (aj K "NoRow")) (.ref (aj K "BentError"))])
def uV:List (Option pU)×List (Option (Option Value))×List (Option Int)×List (Option Str)×List pV×List Bool×List (Option (Option Value))×(Option (Option Value)×Option Bool)×List (Option Bool)×List (Option Bool):=(dsL.map (λp=>mB p.1 p.2),blL.map (λ_=>some none),ciL.map (λp=>some p.2),csL.map (λp=>some p.2),xrL.map (λ_:String=>pE),xcL.map (λ_=>true),xbL.map (λ_=>some none),ll,[some false,some true,some false,some false,some false,some false,some true,some true,some true,some false,some false,some false,some false,some false,some false,some false,some false,some false,some false,some false,some true,some true,some false,some false,some false,some false,some false,some false,some false,some false,some false,some false,some false,some true,some true,some true],[some true,some true,some true])
theorem okL:PySem.Challenge.rw_bentrows_k18_rows_joined.wellSaid=true:=vG (by kernel_rfl)
abbrev loL:List Str:=[("BentError":Str),("NoSheet":Str),("NoPlace":Str),("NoNumber":Str),("NoRow":Str),("Apart":Str),("NoRing":Str),("TooMany":Str),("Bare":Str),("OnLine":Str),("NoText":Str),("is_whole":Str),("is_point":Str),("is_place":Str),("are_rising_places":Str),("MOST_POINTS":Str),("are_points":Str),("has_rising_x":Str),("bend":Str),("threes":Str),("first_on_line":Str),("is_sheet":Str),("check_sheet":Str),("turn_at":Str),("all_turns":Str),("UP":Str),("DOWN":Str),("row_bends":Str),("bends":Str),("is_cup":Str),("is_cap":Str),("joined":Str),("_law_cell":Str),("_law_mix":Str),("_law_box":Str),("_law_take":Str),("_law_whole":Str),("_law_bend":Str),("_law_free":Str),("_law_sheet":Str),("_law_odd":Str),("_law_up":Str),("_law_rising":Str),("_law_bends":Str),("_law_parts":Str),("_law_rows":Str),("_law_marks":Str),("_law_said":Str)]
abbrev viL:Program:=PySem.W.view PySem.Challenge.rw_bentrows_k18_rows_joined.row.prog [54]
theorem leftL:PySem.W.LeftO PySem.Challenge.rw_bentrows_k18_rows_joined.row.prog viL loL (λs=>PySem.W.recOk (PySem.W.RowW.records PySem.Challenge.rw_bentrows_k18_rows_joined.row.toRowW) s) (λs=>AN (zH s.heap)) (λ_=>uV) 40000 :=
 wj (m:=11) (ann:=some (.ref 6)) (by kernel_rfl) rfl (λ_=>rfl) (λw=>by kernel_rfl) (λw os=>by kernel_rfl)
end Bn
end
section
namespace L2
open PySem PySem.Spec PyProof.Rows
abbrev Key:=Sum Int Str
def nU:Key->Value->Bool
 | .inl k,v=>Value.isInt k v
 | .inr x,v=>Value.isStrOf x v
def keyH (w:World):Key->Int
 | .inl k=>hashInt k
 | .inr x=>hashStr w x
theorem bC:∀ {k:Key} {v:Value},nU k v=true->(∃ i t,k=Sum.inl i/\v=Value.int i t)\/(∃ x t,k=Sum.inr x/\v=Value.str x t)
 | .inl i,v,h=>by
  obtain ⟨t,e⟩:=Value.isInt_shape (k:=i) (v:=v) h
  exact .inl #[i,t,rfl,e]
 | .inr x,v,h=>by
  obtain ⟨t,e⟩:=Value.isStrOf_shape (x:=x) (v:=v) h
  exact .inr #[x,t,rfl,e]
theorem wn (i:Int) (t:Tok):nU (.inl i) (.int i t)=true:=by simp[nU,Value.isInt]
theorem wm (x:Str) (t:Tok):nU (.inr x) (.str x t)=true:=by simp[nU,Value.isStrOf]
theorem EN (a b:Int):decide ((Sum.inl a:Key)=Sum.inl b)=(a == b):=by
 by_cases e:a=b
 .subst e;simp
 .have h:¬ (Sum.inl a:Key)=Sum.inl b:=λq=>e (Sum.inl.inj q)
  rw[FX h]
  exact (beq_eq_false_iff_ne.mpr e).symm
theorem EJ (a b:Str):decide ((Sum.inr a:Key)=Sum.inr b)=decide (a=b):=by
 by_cases e:a=b
 .subst e;simp
 .have h:¬ (Sum.inr a:Key)=Sum.inr b:=λq=>e (Sum.inr.inj q)
  rw[FX h,FX e]
theorem EL (a:Int) (b:Str):decide ((Sum.inl a:Key)=Sum.inr b)=false:=FX (λq=>nomatch q)
theorem EK (a:Str) (b:Int):decide ((Sum.inr a:Key)=Sum.inl b)=false:=FX (λq=>nomatch q)
def bT (prog:Program) (w:World):PySem.KeyKind prog w Key where
 is:=nU
 hash:=keyH w
 inj:=λv a b f d=>by
  rcases bC f with ⟨i,t,rfl,rfl⟩ | ⟨x,t,rfl,rfl⟩
  .rcases bC d with ⟨j,u,rfl,e⟩ | ⟨y,u,rfl,e⟩
   .injection e with e1 _;rw[e1]
   .exact nomatch e
  .rcases bC d with ⟨j,u,rfl,e⟩ | ⟨y,u,rfl,e⟩
   .exact nomatch e
   .injection e with e1 _;rw[e1]
 byValue:=λk v h=>by
  rcases bC h with ⟨i,t,rfl,rfl⟩ | ⟨x,t,rfl,rfl⟩ <;> rfl
 pyHash:=λc h=>by
  rcases bC c with ⟨i,t,rfl,rfl⟩ | ⟨x,t,rfl,rfl⟩
  .exact wpAny_pyHash_int h
  .exact wpAny_pyHash_str h
 eqBool:=λhu c h=>by
  rcases bC hu with ⟨i,t,rfl,rfl⟩ | ⟨x,t,rfl,rfl⟩
  .rcases bC c with ⟨j,u,rfl,rfl⟩ | ⟨y,u,rfl,rfl⟩
   .rw[EN] at h;exact wpAny_eqBool_int h
   .rw[EL] at h;exact SeqAt.EqAt.int_str i t y u _ _ _ _ h
  .rcases bC c with ⟨j,u,rfl,rfl⟩ | ⟨y,u,rfl,rfl⟩
   .rw[EK] at h;exact SeqAt.EqAt.str_int x t j u _ _ _ _ h
   .rw[EJ] at h;exact wpAny_eqBool_str h
 «strs»:=λk x t v h=>by
  rcases bC h with ⟨i,u,rfl,e⟩ | ⟨y,u,rfl,e⟩
  .exact nomatch e
  .injection e with e1 _
   subst e1
   cases v <;> rfl
theorem qH (prog:Program) (w:World) (i:Int) (t:Tok):(bT prog w).is (.inl i) (.int i t)=true:=wn i t
theorem qG (prog:Program) (w:World) (x:Str) (t:Tok):(bT prog w).is (.inr x) (.str x t)=true:=wm x t
end L2
namespace L2
open PySem PySem.Spec PyProof.Rows
inductive V where
 | non | bl (b:Bool) | int (i:Int) | str (x:Str) | byt (b:Array UInt8) | flt (b:UInt64) | ref (a:Addr) | ty (n:String)
 deriving DecidableEq
def RelV:V->Value->Prop
 | .non,u=>u=Value.none
 | .bl b,u=>u=Value.bool b
 | .int i,u=>∃ t,u=Value.int i t
 | .str x,u=>∃ t,u=Value.str x t
 | .byt b,u=>∃ t,u=Value.bytes b t
 | .flt b,u=>∃ t,u=Value.float b t
 | .ref a,u=>u=Value.ref a
 | .ty n,u=>u=Value.type n
abbrev Vals:List V->List Value->Prop:=Paired RelV
theorem Vals.length (r:Vals xs us):xs.length=us.length:=Paired.length r
theorem Vals.get:∀ {xs:List V} {us:List Value} {i:Nat} {x:V},Vals xs us->xs[i]?=some x->∃ u,us[i]?=some u/\RelV x u
 | _,_,_,_,.nil,e=>by simp at e
 | _,_,0,_,.cons r _,e=>by simp at e;subst e;exact #[_,rfl,r]
 | _,_,i+1,x,.cons _ t,e=>by
  obtain ⟨u,h1,h2⟩:=Vals.get (i:=i) (x:=x) t (by simpa using e)
  exact #[u,by simpa using h1,h2]
theorem Vals.set (r:RelV x u):∀ {xs:List V} {us:List Value} (i:Nat),Vals xs us->Vals (xs.set i x) (us.set i u)
 | _,_,_,.nil=>.nil
 | _,_,0,.cons _ t=>.cons r t
 | _,_,i+1,.cons q t=>.cons q (Vals.set r i t)
theorem Vals.append:∀ {xs ys:List V} {us ws:List Value},Vals xs us->Vals ys ws->Vals (xs++ys) (us++ws)
 | _,_,_,_,.nil,s=>s
 | _,_,_,_,.cons r t,s=>.cons r (Vals.append t s)
theorem Vals.take:∀ {xs:List V} {us:List Value} (n:Nat),Vals xs us->Vals (xs.take n) (us.take n)
 | _,_,0,_=>.nil
 | _,_,_+1,.nil=>.nil
 | _,_,n+1,.cons r t=>.cons r (Vals.take n t)
theorem Vals.drop:∀ {xs:List V} {us:List Value} (n:Nat),Vals xs us->Vals (xs.drop n) (us.drop n)
 | _,_,0,r=>r
 | _,_,_+1,.nil=>.nil
 | _,_,n+1,.cons _ t=>Vals.drop n t
def RelO:Option V->Option Value->Prop
 | some v,some u=>RelV v u
 | none,none=>True
 | _,_=>False
def KV {κ:Type}:List (κ×V)->List (κ×Value)->Prop:=Paired λ(p:κ×V) (q:κ×Value)=>p.1=q.1/\RelV p.2 q.2
def kV:Key->V
 | .inl i=>.int i
 | .inr x=>.str x
inductive HO where
 | lst (xs:List V)
 | tup (xs:List V)
 | dK (kvs:List (Key×V)) | dT (kvs:List (List Key×V))
 | set (S:Int->Bool) (n:Nat)
 | ins (C dx:Addr) (fs:List (Str×V))
 | own (x:Addr)
 | xd (fs:List (Str×V))
 | met (f x:Addr)
 | rng (lo hi:Int)
 | frz (o:Obj) (u:HO)
 | tbl (ps:Array Value)
 | ext (U:Heap->Prop)
abbrev Hp:=Addr->Option HO
def upd (H:Hp) (a:Addr) (o:HO):Hp:=λb=>if b=a then some o else H b
theorem aF:upd H a o a=some o:=by unfold upd;rw[if_pos rfl]
theorem aw (h:b≠a):upd H a o b=H b:=by unfold upd;rw[if_neg h]
theorem Cv {H:Hp} (h:H a=some o) (h':H b=some u) (d:o≠u):a≠b:=by
 intro e;subst e;rw[h] at h';exact d (Gn h')
theorem aV {H:Hp} (h:H a=some o) (h':H b=none):a≠b:=by
 intro e;subst e;rw[h] at h';cases h'
def DictOfE {prog:Program} {w:World} {κ:Type} [DecidableEq κ] (knd:KeyKind prog w κ) (h:Heap) (a:Addr) (kvs:List (κ×Value)):Prop :=
 ∃ o es b,h.get? a=some o/\o.ExactDict/\o.data=.dict es b/\KeysOf knd es/\Pairs knd es.toList kvs/\(kvs.map (·.1)).Nodup/\b=es.size
theorem DictOfE.of [DecidableEq κ] {knd:KeyKind prog w κ} {kvs:List (κ×Value)} (x:DictOfE knd h a kvs):h.DictOf knd a kvs:=let #[o,es,b,h1,h2,h3,c,e,d,_]:=x;#[o,es,b,h1,h2,h3,c,e,d]
def IsTupD (h:Heap) (a:Addr) (items:Array Value):Prop:=∃ o,h.get? a=some o/\o.cls=.type "tuple"/\∃ n,(o.data,o.dict)=(Data.seq items n,none)
theorem IsTupD.tup {h:Heap} {a:Addr} {items:Array Value} (x:IsTupD h a items):IsTup h a items:=let #[o,e,c,n,d]:=x;#[o,e,c,n,congrArg Prod.fst d]
theorem IsTupD.lt (x:IsTupD h a items):a < h.objs.size:=x.tup.lt
theorem IsTupD.new (h:Heap) (items:Array Value):IsTupD (h.push { cls:=.type "tuple",data:=.seq items }) h.objs.size items:=#[_,FI h rfl,rfl,_,rfl]
section
variable (P:Program) (w:World)
def ObjOk (H:Hp) (h:Heap) (a:Addr):HO->Prop
 | .lst xs=>xs.length<=sizeLine/\∃ (its:List Value) (n:Nat),Vals xs its/\h.get? a=some { cls:=.type "list",data:=.seq its.toArray n }
 | .tup xs=>xs.length<=sizeLine/\∃ its:List Value,Vals xs its/\IsTupD h a its.toArray
 | .dK kvs=>kvs.length<=sizeLine/\(a == sysModules)=false/\∃ d,KV kvs d/\DictOfE (bT P w) h a d
 | .dT kvs=>kvs.length<=sizeLine/\(a == sysModules)=false/\∃ xs:List (List Key×Addr×Value),
   Paired (λ(p:List Key×V) (q:List Key×Addr×Value)=>p.1=q.1/\H q.2.1=some (.tup (p.1.map kV))/\RelV p.2 q.2.2) kvs xs /\
   ∃ o es c,h.get? a=some o/\o.ExactDict/\o.data=.dict es c/\es.toList=xs.map (entryOfKey (tupleKind (bT P w)))/\(xs.map (·.1)).Nodup/\c=es.size
 | .set S n=>h.SetOf (intKind P w) a S n
 | .ins C dx fs=>H dx=some (.own a)/\fs.length<=1000/\dx≠a/\h.get? a=some (PySem.W.instObj C dx) /\
   ∃ b,h.Ns1 dx b/\(∀ f,RelO (fs.lookup f) (b f))/\PySem.Within b (fs.map (·.1))
 | .own _=>∃ o,h.get? a=some o
 | .xd fs=>∃ b,h.Ns1 a b/\∀ f,RelO (fs.lookup f) (b f)
 | .rng lo hi=>∃ t u v,h.get? a=some { cls:=.type "range",data:=.fields (List.toArray [.int lo t,.int hi u,.int 1 v]) }
 | .frz o u=>h.get? a=some o/\ObjOk H h a u
 | .tbl ps=>h.get? a=some { cls:=.none,data:=.fields ps }
 | .met f x=>h.get? a=some (PySem.W.methodObj (.ref f) (.ref x))
 | .ext U=>U h/\(∃ o,h.get? a=some o)/\∀ h1 h2:Heap,U h1->(∀ o,h1.get? a=some o->h2.get? a=some o)->U h2
def HOk (H:Hp) (h:Heap):Prop:=∀ a o,H a=some o->ObjOk P w H h a o
end
section
variable {P:Program} {w:World} {H H':Hp} {h h':Heap} {a:Addr} {o:HO}
theorem ObjOk.lt (x:ObjOk P w H h a o):a < h.objs.size:=by
 cases o with
 | lst xs=>obtain ⟨_,_,_,_,e⟩:=x;exact FF e
 | tup xs=>obtain ⟨_,_,_,p⟩:=x;exact p.lt
 | dK kvs=>obtain ⟨_,_,_,_,o,_,_,e,_⟩:=x;exact FF e
 | dT kvs=>obtain ⟨_,_,_,_,o,_,_,e,_⟩:=x;exact FF e
 | set S n=>obtain ⟨o,_,_,_,e,_⟩:=x;exact FF e
 | ins C dx fs=>obtain ⟨_,_,_,e,_⟩:=x;exact FF e
 | own y=>obtain ⟨_,e⟩:=x;exact FF e
 | xd fs=>obtain ⟨_,⟨_,_,_,e,_⟩,_⟩:=x;exact FF e
 | rng lo hi=>obtain ⟨_,_,_,e⟩:=x;exact FF e
 | frz ob u=>obtain ⟨e,_⟩:=x;exact FF e
 | tbl ps=>exact FF (show h.get? a=some _ from x)
 | met f y=>exact FF (show h.get? a=some _ from x)
 | ext U=>obtain ⟨_,⟨_,e⟩,_⟩:=x;exact FF e
theorem Paired.mapP:∀ {d:List α} {c:List β},Paired F d c->(∀ a b,F a b->G a b)->Paired G d c
 | _,_,.nil,_=>.nil
 | _,_,.cons r t,f=>.cons (f _ _ r) (Paired.mapP t f)
theorem ObjOk.stay (x:ObjOk P w H h a o) (k:∀ b u,(b=a\/H b=some (.own a))->h.get? b=some u->h'.get? b=some u)
  (A:∀ b,H b=some (.own a)->H' b=some (.own a)) (l:∀ b xs,H b=some (.tup xs)->H' b=some (.tup xs)):ObjOk P w H' h' a o:=by
 induction o with
 | lst xs=>obtain ⟨z,its,n,r,e⟩:=x;exact #[z,its,n,r,k _ _ (.inl rfl) e]
 | tup xs=>obtain ⟨z,its,r,ob,e,c⟩:=x;exact #[z,its,r,ob,k _ _ (.inl rfl) e,c]
 | dK kvs=>obtain ⟨z,y,m,r,ob,es,g,e,c⟩:=x;exact #[z,y,m,r,ob,es,g,k _ _ (.inl rfl) e,c]
 | dT kvs =>
  obtain ⟨z,y,xs,r,ob,es,g,e,c⟩:=x
  exact #[z,y,xs,Paired.mapP r λp q z=>#[z.1,l _ _ z.2.1,z.2.2],ob,es,g,k _ _ (.inl rfl) e,c]
 | set S n=>obtain ⟨ob,es,g,t,e,c⟩:=x;exact #[ob,es,g,t,k _ _ (.inl rfl) e,c]
 | ins C dx fs =>
  obtain ⟨d,z,ne,e,j,⟨i,es,g,s,c⟩,r⟩:=x
  exact #[A _ d,z,ne,k _ _ (.inl rfl) e,j,#[i,es,g,k _ _ (.inr d) s,c],r]
 | own y=>obtain ⟨ob,e⟩:=x;exact #[ob,k _ _ (.inl rfl) e]
 | xd fs=>obtain ⟨j,⟨i,es,g,e,c⟩,r⟩:=x;exact #[j,#[i,es,g,k _ _ (.inl rfl) e,c],r]
 | rng lo hi=>obtain ⟨t,u,v,e⟩:=x;exact #[t,u,v,k _ _ (.inl rfl) e]
 | frz ob u ih=>obtain ⟨e,q⟩:=x;exact #[k _ _ (.inl rfl) e,ih q]
 | tbl ps =>
  have e:h.get? a=some { cls:=.none,data:=.fields ps }:=x
  show h'.get? a=some { cls:=.none,data:=.fields ps }
  exact k a _ (.inl rfl) e
 | met f y =>
  have e:h.get? a=some (PySem.W.methodObj (.ref f) (.ref y)):=x
  show h'.get? a=some (PySem.W.methodObj (.ref f) (.ref y))
  exact k a _ (.inl rfl) e
 | ext U=>obtain ⟨p,⟨o,e⟩,st⟩:=x;exact #[st _ _ p λo q=>k _ _ (.inl rfl) q,#[o,k _ _ (.inl rfl) e],st]
theorem HOk.lt (x:HOk P w H h) (e:H a=some o):a < h.objs.size:=(x a o e).lt
theorem HOk.fresh (x:HOk P w H h) (e:h.objs.size<=a):H a=none:=by
 cases q:H a with
 | none=>rfl
 | some u=>exact absurd (FY (x.lt q) e) (Nat.lt_irrefl _)
theorem HOk.kept (x:HOk P w H h) (k:∀ b u,h.get? b=some u->h'.get? b=some u):HOk P w H h':=λa o e =>
 (x a o e).stay (λb u _ q=>k b u q) (λ_ q=>q) λ_ _ q=>q
theorem HOk.laid (x:HOk P w H h) (k:∀ b u,h.get? b=some u->h'.get? b=some u) (g:h.objs.size<=a) (new:ObjOk P w (upd H a o) h' a o):HOk P w (upd H a o) h':=λb u e=>by
 have d:=x.fresh g
 by_cases f:b=a
 .subst f;rw[aF] at e;cases e;exact new
 .rw[aw f] at e
  exact (x b u e).stay (λc v _ q=>k c v q) (λc q=>by rw[aw (aV q d)];exact q) λc xs q=>by rw[aw (aV q d)];exact q
end
def Rd (H:Hp) (a:Addr) (u:HO):Prop:=H a=some u\/∃ o,H a=some (.frz o u)
theorem Rd.ok (r:Rd H a u) (x:HOk P w H h):ObjOk P w H h a u:=by
 rcases r with r | ⟨o,r⟩
 .exact x a u r
 .obtain ⟨_,q⟩:=x a _ r
  exact q
def Mut:Option HO->Prop
 | some (.lst _)=>True
 | some (.dK _)=>True
 | some (.dT _)=>True
 | some (.set _ _)=>True
 | some (.ins _ _ _)=>True
 | some (.ext _)=>True
 | _=>False
section
variable {P:Program} {w:World} {H:Hp} {h h':Heap} {x e:Addr} {o':HO}
theorem HOk.write (ok:HOk P w H h) (i:Mut (H x)) (he:e=x\/H e=some (.own x)) (k:∀ b u,b≠e->h.get? b=some u->h'.get? b=some u) (l:∃ u,h'.get? e=some u)
  (new:ObjOk P w (upd H x o') h' x o'):HOk P w (upd H x o') h':=λb u q=>by
 have d:∀ c y,H c=some (.own y)->c≠x:=λc y r z=>by subst z;rw[r] at i;exact i
 have f:∀ c xs,H c=some (.tup xs)->c≠x:=λc xs r z=>by subst z;rw[r] at i;exact i
 by_cases g:b=x
 .subst g;rw[aF] at q;cases q;exact new
 .rw[aw g] at q
  by_cases a:b=e
  .have m:H b=some (.own x):=by
    rcases he with z | z
    .exact absurd (a.trans z) g
    .rw[a];exact z
   rw[q] at m;cases m
   obtain ⟨v,n⟩:=l
   exact #[v,by rw[a];exact n]
  .refine (ok b u q).stay (λc v j r=>k c v ?_ r) (λc r=>by rw[aw (d c b r)];exact r) λc xs r=>by rw[aw (f c xs r)];exact r
   rcases j with rfl | j
   .exact a
   .rintro rfl
    rcases he with z | z
    .exact d c b j z
    .rw[j] at z;cases z;exact g rfl
end
structure Un (fs ex:List Addr) (H H':Hp) (h h':Heap):Prop where
 keep:∀ b o,h.get? b=some o->H b=none->b ∉ fs->b ∉ ex->h'.get? b=some o
 slot:∀ b o,h.get? b=some o->H b=none->b∈fs->b ∉ ex->∃ sl,h'.get? b=some { o with slots:=sl }
 free:∀ b o,h.get? b=some o->H b=none->b ∉ ex->H' b=none
 there:∀ b o,h.get? b=some o->b ∉ ex->∃ o',h'.get? b=some o'
 tups:∀ b xs,H b=some (.tup xs)->H' b=some (.tup xs)
 frzs:∀ b o u,H b=some (.frz o u)->H' b=some (.frz o u)
 tbls:∀ b ps,H b=some (.tbl ps)->∃ more,H' b=some (.tbl (ps++more))
section
variable {fs fs' ex ex':List Addr} {H H1 H2:Hp} {h h1 h2 h':Heap} {a x e:Addr} {o:HO}
theorem Un.any (u:Un fs ex H H1 h h1) (q:h.get? b=some ob) (n:H b=none) (a:b ∉ ex):∃ sl,h1.get? b=some { ob with slots:=sl }:=by
 by_cases c:b∈fs
 .exact u.slot b ob q n c a
 .exact #[ob.slots,u.keep b ob q n c a]
theorem Un.trans (a:Un fs ex H H1 h h1) (b:Un fs ex H1 H2 h1 h2):Un fs ex H H2 h h2 where
 keep:=λc ob q n e d=>b.keep c ob (a.keep c ob q n e d) (a.free c ob q n d) e d
 slot:=λc ob q n e d=>by
  obtain ⟨sl,e1⟩:=a.slot c ob q n e d
  obtain ⟨f,g⟩:=b.slot c _ e1 (a.free c ob q n d) e d
  exact #[f,g]
 free:=λc ob q n d=>by
  obtain ⟨o',e1⟩:=a.there c ob q d
  exact b.free c o' e1 (a.free c ob q n d) d
 there:=λc ob q d=>by
  obtain ⟨o',e1⟩:=a.there c ob q d
  exact b.there c o' e1 d
 tups:=λc xs q=>b.tups c xs (a.tups c xs q)
 frzs:=λc ob xs q=>b.frzs c ob xs (a.frzs c ob xs q)
 tbls:=λc ps q=>by
  obtain ⟨j,e1⟩:=a.tbls c ps q
  obtain ⟨i,g⟩:=b.tbls c _ e1
  exact #[j++i,by rw[g,Array.append_assoc]]
theorem Un.kept (k:∀ b u,h.get? b=some u->h'.get? b=some u):Un fs ex H H h h' :=
 #[λb ob q _ _ _=>k b ob q,λb ob q _ _ _=>#[ob.slots,k b ob q],λ_ _ _ n _=>n,λb ob q _=>#[ob,k b ob q],λ_ _ q=>q,λ_ _ _ q=>q,λ_ ps q=>#[(List.toArray []),by rw[q];simp]]
theorem Un.refl:Un fs ex H H h h:=Un.kept λ_ _ q=>q
theorem Un.laid (k:∀ b u,h.get? b=some u->h'.get? b=some u) (d:h.objs.size<=a) (c:H a=none):Un fs ex H (upd H a o) h h' where
 keep:=λb u q _ _ _=>k b u q
 slot:=λb u q _ _ _=>#[u.slots,k b u q]
 free:=λb u q n _=>by rw[aw (FT (FY (FF q) d))];exact n
 there:=λb u q _=>#[u,k b u q]
 tups:=λb xs q=>by rw[aw (aV q c)];exact q
 frzs:=λb u xs q=>by rw[aw (aV q c)];exact q
 tbls:=λb ps q=>#[(List.toArray []),by rw[aw (aV q c),q];simp]
theorem Un.write (c:Mut (H x)) (he:e=x\/H e=some (.own x)) (k:∀ b u,b≠e->h.get? b=some u->h'.get? b=some u) (d:∃ u,h'.get? e=some u):Un fs ex H (upd H x o) h h':=by
 have f:∀ b,H b=none->b≠x:=λb n z=>by subst z;rw[n] at c;exact c
 have g:∀ b,H b=none->b≠e:=λb n z=>by
  subst z
  rcases he with r | r
  .exact f b n r
  .rw[n] at r;cases r
 have hm:∀ b u,H b=some u->¬ Mut (some u)->b≠x:=λb u q nm z=>by subst z;rw[q] at c;exact nm c
 refine ⟨λb u q n _ _=>k b u (g b n) q,λb u q n _ _=>⟨u.slots,k b u (g b n) q⟩,λb u q n _=>by rw[aw (f b n)];exact n,λb u q _=>?_,
  λb xs q=>by rw[aw (hm b _ q λz=>z)];exact q,λb u xs q=>by rw[aw (hm b _ q λz=>z)];exact q,λb ps q=>⟨(List.toArray []),by rw[aw (hm b _ q λz=>z),q];simp⟩⟩
 by_cases a:b=e
 .subst a;exact d
 .exact #[u,k b u a q]
end
def trk (h:Heap) (H:Hp):List Addr:=(List.range h.objs.size).filter λa=>(H a).isSome
def pg (h:Heap) (H:Hp):Heap:=PySem.W.hideAll h (trk h H)
theorem wu (h:Heap) (H:Hp):(pg h H).objs.size=h.objs.size:=PySem.W.hideAll_size _ _
theorem zC (e:h.get? b=some o) (n:H b=none):(pg h H).get? b=some o :=
 PySem.W.hideAll_get _ e λhm=>by
  have q:(H b).isSome=true:=(Gb.mp hm).2
  rw[n] at q;simp at q
theorem Bx (e:(pg h H).get? b=some o):h.get? b=some o/\H b=none:=by
 have a:h.get? b=some o:=PySem.W.of_hideAll (trk h H) e
 refine #[a,?_]
 cases q:H b with
 | none=>rfl
 | some x =>
  have hm:b∈trk h H:=Gb.mpr #[List.mem_range.mpr (FF a),by simp[q]]
  have z:(pg h H).get? b=none:=PySem.W.hideAll_none (trk h H) hm
  rw[z] at e;cases e
def Cc (g h:Heap) (L:Addr):List (Addr×Obj):=(List.range h.objs.size).filterMap λa=>if a=L\/(g.get? a).isSome=true then none else (h.get? a).map λo=>(a,o)
def eh (g h:Heap) (L d:Addr):List (Addr×Obj):=(Cc g h L).filter λp=>decide (p.1≠d)
end L2
namespace L2
open PySem PySem.Spec PyProof.Rows
structure Mod (K:FG) (mg:Str->Option Value) (base:Heap):Prop where
 kin:K.In base
 glob:base.Ns mainGlobals mg
 blt:∃ mb,base.Ns builtinsNs mb/\∀ x:Str,x≠"__name__"->mb x=bootBuiltins x
 nolimit:base.NoLimit
structure Cx where
 prog:Program
 w:World
 K:FG
 mg:Str->Option Value
 base:Heap
 A:Around
 N:List Str
 s₀:Shared
 H₀:Hp
 env:Env
 outer:List Env
 stack:List Env
 ex:List Addr
 fn:Str->Bool
 calm:Bool
 pn:List (Addr×Obj)
 xe:Value->Shared->Prop
def frs (l:List Env):List Addr:=l.filterMap (·.frame)
abbrev Cx.fs (X:Cx):List Addr:=frs X.outer
def Vis (sc:Scope) (x:Str):Prop:=sc.names.lookup x=some .local\/sc.names.lookup x=some .cell\/sc.names.lookup x=some .free
def Loc (sc:Scope) (x:Str):Prop:=sc.names.lookup x=some .local\/sc.names.lookup x=some .cell
def Look (env:Env) (h:Heap) (m:Str->Option Value) (x:Str) (u:Value):Prop :=
 (env.kindOf x=some .local/\m x=some u)\/((env.kindOf x=some .cell\/env.kindOf x=some .free)/\∃ c,env.cells.lookup x=some c/\h.IsCell c (some u))
structure Cx.Ok (X:Cx):Prop where
 mod:Mod X.K X.mg X.base
 kind:X.env.scope.kind=.function
 glob:X.env.globals=mainGlobals
 blt:X.env.builtins=builtinsNs
 above:X.s₀.heap.objs.size<=X.env.locals
 inj:∀ x y c,X.env.cells.lookup x=some c->X.env.cells.lookup y=some c->x=y
 has:∀ x,(X.env.kindOf x=some .cell\/X.env.kindOf x=some .free)->∃ c,X.env.cells.lookup x=some c
 cab:∀ x c,X.fn x=true->X.env.cells.lookup x=some c->X.s₀.heap.objs.size<=c
 hd:X.calm=true->X.A.handled=none
 frames:X.A.frames=some X.stack
 stk:X.stack=X.outer\/(X.stack=X.env::X.outer/\X.env.frame=some X.env.locals)
 exf:∀ b∈X.ex,b≠X.env.locals/\∀ x c,X.env.cells.lookup x=some c->c≠b
 bs:∀ b o,X.base.get? b=some o->X.s₀.heap.get? b=some o/\X.H₀ b=none
 bsz:X.base.objs.size<=X.s₀.heap.objs.size
 noex:∀ b o,X.base.get? b=some o->b ∉ X.ex
 exfs:∀ b∈X.ex,b ∉ X.fs
 funs:X.s₀.heap.FunFrames X.base X.outer
 frf:∀ b∈X.fs,X.H₀ b=none
structure Inv (X:Cx) (pins:List (Addr×Obj)) (O:List (Option V)) (H:Hp) (s:Shared):Prop where
 ok:X.Ok
 os:s.os=X.s₀.os
 bare:AllBare s.gens
 base:Un X.fs X.ex X.H₀ H X.s₀.heap s.heap
 loc:∃ m,s.heap.Ns X.env.locals m/\∀ (i:Nat) (x:Str) (v:V),X.N[i]?=some x->O[i]?=some (some v)->Vis X.env.scope x->∃ u,RelV v u/\Look X.env s.heap m x u
 cell:∀ x c,X.env.cells.lookup x=some c->∃ v,s.heap.IsCell c v
 free:H X.env.locals=none
 freeC:∀ x c,X.env.cells.lookup x=some c->H c=none
 pin:∀ p∈X.pn++pins,s.heap.get? p.1=some p.2/\H p.1=none/\p.1≠X.env.locals/\p.1 ∉ X.fs/\∀ v,p.2.data≠.cell v
 hok:HOk X.prog X.w H s.heap
 len:O.length=X.N.length
section
variable {X:Cx} {pins:List (Addr×Obj)} {O:List (Option V)} {H H':Hp} {s:Shared} {h':Heap}
theorem Cx.Ok.nofr (ok:X.Ok) (e:X.base.get? b=some o):b ∉ X.fs:=λa=>by
 have:=(ok.funs.mem a).1
 rw[e] at this;cases this
theorem Inv.bs (I:Inv X pins O H s):∀ b o,X.base.get? b=some o->s.heap.get? b=some o/\H b=none:=λb o e =>
 #[I.base.keep b o (I.ok.bs b o e).1 (I.ok.bs b o e).2 (I.ok.nofr e) (I.ok.noex b o e),I.base.free b o (I.ok.bs b o e).1 (I.ok.bs b o e).2 (I.ok.noex b o e)]
theorem Inv.bk (I:Inv X pins O H s):∀ b o,X.base.get? b=some o->s.heap.get? b=some o:=λb o e=>(I.bs b o e).1
theorem Inv.mod (I:Inv X pins O H s):Mod X.K X.mg X.base:=I.ok.mod
theorem Inv.kIn (I:Inv X pins O H s):X.K.In s.heap:=I.ok.mod.kin.keeps I.bk
theorem Inv.lt (I:Inv X pins O H s):X.env.locals < s.heap.objs.size:=let #[_,a,_]:=I.loc;a.lt
theorem Inv.sz (I:Inv X pins O H s):X.s₀.heap.objs.size<=s.heap.objs.size:=Gh I.ok.above (Nat.le_of_lt I.lt)
theorem Inv.nofs (I:Inv X pins O H s) (h:s.heap.objs.size<=a):a ∉ X.fs:=λc=>by
 obtain ⟨_,o,b,_⟩:=I.ok.funs.mem c
 exact absurd (FY (FF b) (Gh I.sz h)) (Nat.lt_irrefl _)
theorem Inv.cne (I:Inv X pins O H s):∀ x c,X.env.cells.lookup x=some c->c≠X.env.locals:=λx c e z=>by
 obtain ⟨v,o,d,hd⟩:=I.cell x c e
 obtain ⟨m,⟨o',es,f,a,b,_⟩,_⟩:=I.loc
 rw[z,a] at d;cases d;rw[b] at hd;cases hd
theorem Inv.funs (I:Inv X pins O H s):s.heap.FunFrames X.base X.outer:=by
 have all:∀ (l:List Env),(∀ b∈frs l,b∈X.fs)->X.s₀.heap.FunFrames X.base l->s.heap.FunFrames X.base l:=by
  intro l
  induction l with
  | nil=>intro _ _;trivial
  | cons env r ih =>
   intro d j
   obtain ⟨g,⟨L,o,hf,h,i,hd⟩,f⟩:=j
   have a:L∈X.fs:=d L (by unfold frs;rw[List.filterMap_cons,hf];exact Fv)
   obtain ⟨sl,e⟩:=I.base.slot L o i (I.ok.frf L a) a λz=>I.ok.exfs L z a
   exact #[g,#[L,_,hf,h,e,hd],ih (λb c=>d b (by unfold frs;rw[List.filterMap_cons,hf];exact Fw _ c)) f]
 exact all X.outer (λ_ c=>c) I.ok.funs
theorem Inv.stack (I:Inv X pins O H s):s.heap.FunFrames X.base X.stack:=by
 rcases I.ok.stk with e | ⟨e,hf⟩
 .rw[e];exact I.funs
 .rw[e]
  obtain ⟨m,a,_⟩:=I.loc
  refine .cons (by rw[I.ok.kind];decide) hf a ?_ I.funs
  exact Heap.get?_none_of_le (Gh I.ok.bsz I.ok.above)
theorem Inv.stkSub (I:Inv X pins O H s):∀ b∈frs X.stack,b∈X.env.locals::X.fs:=λb a=>by
 rcases I.ok.stk with e | ⟨e,hf⟩
 .rw[e] at a;exact Fw _ a
 .rw[e] at a
  unfold frs at a
  rw[List.filterMap_cons,hf] at a
  exact a
theorem Inv.stkFree (I:Inv X pins O H s):∀ b∈frs X.stack,H b=none:=λb a=>by
 rcases FD.mp (I.stkSub b a) with e | a
 .rw[e];exact I.free
 .obtain ⟨_,o,c,_⟩:=I.ok.funs.mem a
  exact I.base.free b o c (I.ok.frf b a) λz=>I.ok.exfs b z a
theorem Inv.step {t':Nat} {ch:List Addr} (I:Inv X pins O H s) (f:∀ b∈ch,(b∈X.ex\/X.s₀.heap.objs.size<=b)/\b≠X.env.locals/\(∀ x c,X.env.cells.lookup x=some c->c≠b)/\∀ p∈X.pn++pins,p.1≠b) (keep:∀ b o,b≠X.env.locals->b ∉ X.fs->b ∉ ch->s.heap.get? b=some o->H b=none->h'.get? b=some o) (slot:∀ b o,b≠X.env.locals->b∈X.fs->b ∉ ch->s.heap.get? b=some o->H b=none->∃ sl,h'.get? b=some { o with slots:=sl }) (free:∀ b o,b ∉ ch->s.heap.get? b=some o->H b=none->H' b=none) (there:∀ b o,b ∉ ch->s.heap.get? b=some o->∃ o',h'.get? b=some o') (tups:∀ b xs,H b=some (.tup xs)->H' b=some (.tup xs)) (frzs:∀ b o u,H b=some (.frz o u)->H' b=some (.frz o u)) (tbls:∀ b ps,H b=some (.tbl ps)->∃ more,H' b=some (.tbl (ps++more))) (ns:∀ m,s.heap.Ns X.env.locals m->h'.Ns X.env.locals m) (hok:HOk X.prog X.w H' h') (F:AllBare g') :
  Inv X pins O H' { s with heap:=h',gens:=g',drawn:=d',toks:=t' }:=by
 have A:∀ b o,X.s₀.heap.get? b=some o->b≠X.env.locals:=λb o e=>FT (FY (FF e) I.ok.above)
 have h:∀ b o,X.s₀.heap.get? b=some o->b ∉ X.ex->b ∉ ch:=λb o e a j=>by
  rcases (f b j).1 with z | z
  .exact a z
  .exact absurd (FY (FF e) z) (Nat.lt_irrefl _)
 have cellK:∀ x c,X.env.cells.lookup x=some c->∀ v,s.heap.IsCell c v->h'.IsCell c v:=λx c e v #[o,t,hd]=>by
  have g:c ∉ ch:=λz=>(f c z).2.2.1 x c e rfl
  by_cases C:c∈X.fs
  .obtain ⟨sl,q⟩:=slot c o (I.cne x c e) C g t (I.freeC x c e)
   exact #[_,q,hd]
  .exact #[o,keep c o (I.cne x c e) C g t (I.freeC x c e),hd]
 refine #[I.ok,I.os,F,#[λb o e n j a=>?_,λb o e n j a=>?_,λb o e n a=>?_,λb o e a=>?_,λb xs e=>tups b xs (I.base.tups b xs e),λb o xs e=>frzs b o xs (I.base.frzs b o xs e),λb ps e=>?_],?_,λx c e=>?_,?_,λx c e=>?_,λp D=>?_,hok,I.len]
 .exact keep b o (A b o e) j (h b o e a) (I.base.keep b o e n j a) (I.base.free b o e n a)
 .obtain ⟨sl,e1⟩:=I.base.slot b o e n j a
  obtain ⟨B,y⟩:=slot b _ (A b o e) j (h b o e a) e1 (I.base.free b o e n a)
  exact #[B,y]
 .obtain ⟨o',e1⟩:=I.base.there b o e a
  exact free b o' (h b o e a) e1 (I.base.free b o e n a)
 .obtain ⟨o',e1⟩:=I.base.there b o e a
  exact there b o' (h b o e a) e1
 .obtain ⟨G,e1⟩:=I.base.tbls b ps e
  obtain ⟨J,y⟩:=tbls b _ e1
  exact #[G++J,by rw[y,Array.append_assoc]]
 .obtain ⟨m,K,M⟩:=I.loc
  refine #[m,ns m K,λi x v e1 y L=>?_]
  obtain ⟨u,r,l⟩:=M i x v e1 y L
  refine #[u,r,?_]
  rcases l with l | ⟨k,c,e,z⟩
  .exact .inl l
  .exact .inr #[k,c,e,cellK x c e _ z]
 .obtain ⟨v,z⟩:=I.cell x c e
  exact #[v,cellK x c e v z]
 .obtain ⟨m,⟨o,_,_,t,_⟩,_⟩:=I.loc
  exact free _ o (λz=>(f _ z).2.1 rfl) t I.free
 .obtain ⟨v,o,t,hd⟩:=I.cell x c e
  exact free c o (λz=>(f c z).2.2.1 x c e rfl) t (I.freeC x c e)
 .obtain ⟨e,n,ne,E,d⟩:=I.pin p D
  have g:p.1 ∉ ch:=λz=>(f p.1 z).2.2.2 p D rfl
  exact #[keep p.1 p.2 ne E g e n,free p.1 p.2 g e n,ne,E,d]
theorem Inv.un {t':Nat} (I:Inv X pins O H s) (u:Un X.fs [] H H' s.heap h') (hok:HOk X.prog X.w H' h'):Inv X pins O H' { s with heap:=h',toks:=t' }:=by
 obtain ⟨m,⟨o,es,j,g,r⟩,_⟩:=id I.loc
 obtain ⟨sl,i⟩:=u.any g I.free (by simp)
 exact I.step (g':=s.gens) (d':=s.drawn) (ch:=[]) (λ_ z=>nomatch z) (λb o _ d _ e n=>u.keep b o e n d (by simp)) (λb o _ d _ e n=>u.slot b o e n d (by simp)) (λb o _ e n=>u.free b o e n (by simp)) (λb o _ e=>u.there b o e (by simp)) u.tups u.frzs u.tbls (λk hm=>by
  obtain ⟨o',c,f,a,h⟩:=hm
  rw[g] at a;cases a
  exact #[_,c,f,i,h]) hok I.bare
theorem Inv.call {t':Nat} (I:Inv X pins O H s) (u:Un (frs X.stack) ch H H' s.heap h') (hok:HOk X.prog X.w H' h') (k:AllBare g') (f:∀ b∈ch,(b∈X.ex\/X.s₀.heap.objs.size<=b)/\b≠X.env.locals/\(∀ x c,X.env.cells.lookup x=some c->c≠b)/\∀ p∈X.pn++pins,p.1≠b) :
  Inv X pins O H' { s with heap:=h',gens:=g',drawn:=d',toks:=t' }:=by
 obtain ⟨m,⟨o,es,t,j,r⟩,_⟩:=id I.loc
 obtain ⟨sl,h⟩:=u.any j I.free λz=>(f _ z).2.1 rfl
 exact I.step (ch:=ch) f (λb o h q a e n=>u.keep b o e n (λz=>(FD.mp (I.stkSub b z)).elim h q) a) (λb o _ _ a e n=>u.any e n a) (λb o a e n=>u.free b o e n a) (λb o a e=>u.there b o e a) u.tups u.frzs u.tbls (λv hm=>by
  obtain ⟨o',g,i,d,l⟩:=hm
  rw[j] at d;cases d
  exact #[_,g,i,h,l]) hok k
theorem Inv.turned {t':Nat} (I:Inv X pins O H s) (k:∀ b o,b≠it->s.heap.get? b=some o->h'.get? b=some o) (h:H it=none) (f:it≠X.env.locals) (h1:it∈X.ex\/X.s₀.heap.objs.size<=it) (h2:∀ x c,X.env.cells.lookup x=some c->c≠it) (h3:∀ p∈X.pn++pins,p.1≠it):Inv X pins O H { s with heap:=h',toks:=t' }:=by
 have d:∀ b u,H b=some u->b≠it:=λb u e z=>by rw[z,h] at e;cases e
 refine I.step (g':=s.gens) (d':=s.drawn) (ch:=[it]) (λb j=>?_) (λb o _ _ a e _=>k b o (λz=>a (by simp[z])) e) (λb o _ _ a e _=>#[o.slots,k b o (λz=>a (by simp[z])) e]) (λ_ _ _ _ n=>n)
  (λb o a e=>#[o,k b o (λz=>a (by simp[z])) e]) (λ_ _ e=>e) (λ_ _ _ e=>e) (λb ps e=>#[(List.toArray []),by rw[e];simp]) (λm hm=>?_) (λb u e=>?_) I.bare
 .have e:b=it:=by simpa using j
  subst e
  exact #[h1,f,h2,h3]
 .obtain ⟨o,es,g,i,r⟩:=hm
  exact #[o,es,g,k _ o (Ne.symm f) i,r]
 .refine (I.hok b u e).stay (λc v a q=>k c v ?_ q) (λ_ q=>q) λ_ _ q=>q
  rcases a with z | z
  .rw[z];exact d b u e
  .exact d c _ z
theorem Inv.tok (I:Inv X pins O H s) (t:Nat):Inv X pins O H { s with toks:=t }:=I.un (h':=s.heap) (t':=t) Un.refl I.hok
theorem Inv.kept {t':Nat} (I:Inv X pins O H s) (k:∀ b u,s.heap.get? b=some u->h'.get? b=some u):Inv X pins O H { s with heap:=h',toks:=t' }:=I.un (Un.kept k) (I.hok.kept k)
theorem Inv.laid {t':Nat} (I:Inv X pins O H s) (k:∀ b u,s.heap.get? b=some u->h'.get? b=some u) (c:s.heap.objs.size<=a) (new:ObjOk X.prog X.w (upd H a o) h' a o) :
  Inv X pins O (upd H a o) { s with heap:=h',toks:=t' }:=I.un (Un.laid k c (I.hok.fresh c)) (I.hok.laid k c new)
theorem Inv.write {t':Nat} (I:Inv X pins O H s) (c:Mut (H x)) (he:e=x\/H e=some (.own x)) (k:∀ b u,b≠e->s.heap.get? b=some u->h'.get? b=some u) (a:∃ u,h'.get? e=some u) (new:ObjOk X.prog X.w (upd H x o) h' x o):Inv X pins O (upd H x o) { s with heap:=h',toks:=t' }:=I.un (Un.write c he k a) (I.hok.write c he k a new)
theorem Inv.pins_of (I:Inv X pins O H s) (h:∀ p∈pins',s.heap.get? p.1=some p.2/\H p.1=none/\p.1≠X.env.locals/\p.1 ∉ X.fs/\∀ v,p.2.data≠.cell v):Inv X pins' O H s :=
 #[I.ok,I.os,I.bare,I.base,I.loc,I.cell,I.free,I.freeC,λp a=>(FH.mp a).elim (λz=>I.pin p (FA _ z)) (h p),I.hok,I.len]
theorem qC {N:List Str} (c:N.Nodup) {i j:Nat} (a:N[i]?=some x) (b:N[j]?=some x):i=j:=by
 obtain ⟨h1,e1⟩:=FK.mp a
 obtain ⟨h2,d⟩:=FK.mp b
 exact (List.getElem_inj c).mp (e1.trans d.symm)
theorem nh {i:Nat} (I:Inv X pins O H s) (hN:X.N.Nodup) (hi:X.N[i]?=some x) (t:Loc X.env.scope x) (r:RelV v u) (h:∀ s',Inv X pins (O.set i (some v)) H s'->(∃ a,Heap.SameBut a s.heap s'.heap/\(a=X.env.locals\/X.env.cells.lookup x=some a))->Q () s') (hf:X.fn x=true\/X.env.scope.names.lookup x=some .local:=by first | exact .inl rfl | exact .inr rfl | assumption):wpAny M A (storeName X.env x u) Q E s:=by
 obtain ⟨m,hn,hl⟩:=id I.loc
 have R:(X.env.scope.kind == .class || (X.env.scope.kind == .module && X.env.locals != X.env.globals))=false:=by rw[I.ok.kind];rfl
 have hiσ:i < O.length:=by rw[I.len];exact (FK.mp hi).1
 have cne:=I.cne
 have g:∀ {a:Addr} {h':Heap},(∃ o,s.heap.get? a=some o/\H a=none)->Heap.SameBut a s.heap h'->HOk X.prog X.w H h':=λ{a h'} ha f b ob e=>by
  obtain ⟨_,_,B⟩:=ha
  refine (I.hok b ob e).stay (λc T l q=>(f.2 c ?_).trans q) (λ_ q=>q) λ_ _ q=>q
  rintro rfl
  rcases l with rfl | l
  .rw[B] at e;cases e
  .rw[B] at l;cases l
 rcases t with D | D
 .refine wpAny_storeName_local D hn (λh' ae f=>?_) R
  obtain ⟨oL,_,_,φ,_⟩:=id hn
  refine h _ #[I.ok,I.os,I.bare,#[λb o e n J t=>?_,λb o e n J t=>?_,I.base.free,λb o e t=>?_,I.base.tups,I.base.frzs,I.base.tbls],#[_,ae,λj y V e1 C e3=>?_],λy c e=>?_,I.free,I.freeC,λp ρ=>?_,g #[oL,φ,I.free] f,by simpa using I.len] #[_,f,.inl rfl]
  .exact (f.2 b (FT (FY (FF e) I.ok.above))).trans (I.base.keep b o e n J t)
  .obtain ⟨sl,e1⟩:=I.base.slot b o e n J t
   exact #[sl,(f.2 b (FT (FY (FF e) I.ok.above))).trans e1]
  .obtain ⟨o',e1⟩:=I.base.there b o e t
   exact #[o',(f.2 b (FT (FY (FF e) I.ok.above))).trans e1]
  .by_cases F:j=i
   .subst F
    rw[hi] at e1;cases e1
    rw[List.getElem?_set_self hiσ] at C
    cases C
    exact #[u,r,.inl #[D,by simp]]
   .rw[List.getElem?_set_ne (Ne.symm F)] at C
    obtain ⟨τ,W,q⟩:=hl j y V e1 C e3
    refine #[τ,W,?_]
    rcases q with ⟨k,e⟩ | ⟨k,c,e,z⟩
    .refine .inl #[k,?_]
     have:y≠x:=λe=>F (qC hN e1 (e ▸ hi))
     simp[this,e]
    .exact .inr #[k,c,e,z.sameBut f (cne y c e)]
  .obtain ⟨T,z⟩:=I.cell y c e
   exact #[T,z.sameBut f (cne y c e)]
  .obtain ⟨e,n,ne,nf,d⟩:=I.pin p ρ
   exact #[(f.2 p.1 ne).trans e,n,ne,nf,d]
 .have G:X.fn x=true:=by
   rcases hf with z | z
   .exact z
   .rw[z] at D;cases D
  obtain ⟨c,l⟩:=I.ok.has x (.inl D)
  obtain ⟨T,z⟩:=I.cell x c l
  refine wpAny_storeName_cell I.ok.kind D l z (λh' σ f=>?_)
  obtain ⟨oc,K,L⟩:=id z
  refine h { s with heap:=h' } #[I.ok,I.os,I.bare,#[λb o e n J t=>?_,λb o e n J t=>?_,I.base.free,λb o e t=>?_,I.base.tups,I.base.frzs,I.base.tbls],#[m,hn.sameBut f (Ne.symm (cne x c l)),λj y V e1 C e3=>?_],λy S e=>?_,I.free,I.freeC,λp ρ=>?_,g #[oc,K,I.freeC x c l] f,by simpa using I.len] #[c,f,.inr l]
  .exact (f.2 b (FT (FY (FF e) (I.ok.cab x c G l)))).trans (I.base.keep b o e n J t)
  .obtain ⟨sl,e1⟩:=I.base.slot b o e n J t
   exact #[sl,(f.2 b (FT (FY (FF e) (I.ok.cab x c G l)))).trans e1]
  .obtain ⟨o',e1⟩:=I.base.there b o e t
   exact #[o',(f.2 b (FT (FY (FF e) (I.ok.cab x c G l)))).trans e1]
  .by_cases F:j=i
   .subst F
    rw[hi] at e1;cases e1
    rw[List.getElem?_set_self hiσ] at C
    cases C
    exact #[u,r,.inr #[.inl D,c,l,σ]]
   .rw[List.getElem?_set_ne (Ne.symm F)] at C
    obtain ⟨τ,W,q⟩:=hl j y V e1 C e3
    refine #[τ,W,?_]
    rcases q with q | ⟨k,S,e,z'⟩
    .exact .inl q
    .refine .inr #[k,S,e,z'.sameBut f ?_]
     rintro rfl
     exact F (qC hN e1 (I.ok.inj _ _ _ e l ▸ hi))
  .by_cases P:S=c
   .subst P;exact #[_,σ]
   .obtain ⟨w2,z2⟩:=I.cell y S e
    exact #[w2,z2.sameBut f P]
  .obtain ⟨e,n,ne,nf,d⟩:=I.pin p ρ
   refine #[(f.2 p.1 ?_).trans e,n,ne,nf,d]
   intro q
   rw[q,K] at e
   have q':oc=p.2:=Gn e
   exact d T (by rw[<- q'];exact L)
theorem gq {i:Nat} (I:Inv X pins O H s) (a:X.N.Nodup) (hi:X.N[i]?=some x) (b:Loc X.env.scope x) (r:RelV v u) (h:∀ s',Inv X pins (O.set i (some v)) H s'->Q () s') (hf:X.fn x=true\/X.env.scope.names.lookup x=some .local:=by first | exact .inl rfl | exact .inr rfl | assumption):wpAny M A (storeName X.env x u) Q E s :=
 nh I a hi b r (λs' c _=>h s' c) hf
theorem Inv.call' (I:Inv X pins O H s) (f:s'.os=s.os) (u:Un (frs X.stack) ch H H' s.heap s'.heap) (hok:HOk X.prog X.w H' s'.heap) (d:AllBare s'.gens) (a:∀ b∈ch,(b∈X.ex\/X.s₀.heap.objs.size<=b)/\b≠X.env.locals/\(∀ x c,X.env.cells.lookup x=some c->c≠b)/\∀ p∈X.pn++pins,p.1≠b):Inv X pins O H' s':=by
 obtain ⟨h',g',d',t',o'⟩:=s'
 have e:o'=s.os:=f
 subst e
 exact I.call (g':=g') (t':=t') (d':=d') u hok d a
end
abbrev XK:=Value->Option Addr->Hp->Prop
abbrev St:=List (Option V)
abbrev VK:=V->Hp->Prop
abbrev TE:=St->Hp->VK->Prop
abbrev TT:=St->Hp->(Bool->Hp->Prop)->Prop
abbrev TA:=St->Hp->(List V->Hp->Prop)->Prop
structure Ends where
 nx:St->Hp->Prop
 rt:VK
 bk:St->Hp->Prop:=λ_ _=>False
 ct:St->Hp->Prop:=λ_ _=>False
abbrev TS:=Ends->St->Hp->Prop
def EP (X:Cx) (pins:List (Addr×Obj)) (O:St) (Q:VK) (u:Value) (s':Shared):Prop:=∃ v H',Inv X pins O H' s'/\RelV v u/\Q v H'
def TP (X:Cx) (pins:List (Addr×Obj)) (O:St) (Q:Bool->Hp->Prop) (b:Bool) (s':Shared):Prop:=∃ H',Inv X pins O H' s'/\Q b H'
def AP (X:Cx) (pins:List (Addr×Obj)) (O:St) (Q:List V->Hp->Prop) (us:List Value) (s':Shared):Prop:=∃ a H',Inv X pins O H' s'/\Vals a us/\Q a H'
def SP (X:Cx) (pins:List (Addr×Obj)) (D:Ends) (f:Flow) (s':Shared):Prop :=
 match f with
 | .next=>∃ O' H',Inv X pins O' H' s'/\D.nx O' H'
 | .brk=>∃ O' H',Inv X pins O' H' s'/\D.bk O' H'
 | .cont=>∃ O' H',Inv X pins O' H' s'/\D.ct O' H'
 | .ret u=>∃ v O' H',Inv X pins O' H' s'/\RelV v u/\D.rt v H'
def PE (X:Cx) (e:Expr) (t:TE):Prop :=
 ∀ (pins:List (Addr×Obj)) (s:Shared) (O:St) (H:Hp) (Q:VK),Inv X pins O H s->t O H Q->wpAny (model X.prog X.w) X.A (eval e X.env) (EP X pins O Q) X.xe s
def PT (X:Cx) (e:Expr) (t:TT):Prop :=
 ∀ (pins:List (Addr×Obj)) (s:Shared) (O:St) (H:Hp) (Q:Bool->Hp->Prop),Inv X pins O H s->t O H Q->wpAny (model X.prog X.w) X.A (isTrue e X.env (eval e X.env)) (TP X pins O Q) X.xe s
def PW (X:Cx) (e:Expr) (t:TT):Prop :=
 ∀ (whole:Sem Value) (pins:List (Addr×Obj)) (s:Shared) (O:St) (H:Hp) (Q:Bool->Hp->Prop),Inv X pins O H s->t O H Q->wpAny (model X.prog X.w) X.A (isTrue e X.env whole) (TP X pins O Q) X.xe s
theorem PW.pt (h:PW X e t):PT X e t:=h _
def PA (X:Cx) (es:List Expr) (t:TA):Prop :=
 ∀ (pos:Pos) (pins:List (Addr×Obj)) (s:Shared) (O:St) (H:Hp) (Q:List V->Hp->Prop),Inv X pins O H s->t O H Q->wpAny (model X.prog X.w) X.A (spliced (backTo pos (starEach es X.env))) (AP X pins O Q) X.xe s
def PS (X:Cx) (st:Stmt) (t:TS):Prop :=
 ∀ (pins:List (Addr×Obj)) (s:Shared) (O:St) (H:Hp) (D:Ends),Inv X pins O H s->t D O H->wpAny (model X.prog X.w) X.A (exec st X.env) (SP X pins D) X.xe s
def PSs (X:Cx) (st:List Stmt) (t:TS):Prop :=
 ∀ (pins:List (Addr×Obj)) (s:Shared) (O:St) (H:Hp) (D:Ends),Inv X pins O H s->t D O H->wpAny (model X.prog X.w) X.A (execs st X.env) (SP X pins D) X.xe s
theorem thn (h:wpAny M A t Q E s) (b:∀ a s,Q a s->Q' a s):wpAny M A t Q' E s:=wpAny_mono h b λ_ _ x=>x
end L2
namespace L2
open PySem PySem.Spec PyProof.Rows
section
variable {X:Cx}
theorem bin (i:PE X a ta) (m:PE X b tb) {R:V->V->Hp->Prop} (I:Inv X pins O H s) (h:ta O H λx H1=>tb O H1 λy H2=>R x y H2) {Q:α->Shared->Prop} {f:Value->Value->Sem α} (hf:∀ v u s2 x y H2,Inv X pins O H2 s2->RelV x v->RelV y u->R x y H2->wpAny (model X.prog X.w) X.A (f v u) Q X.xe s2) :
  wpAny (model X.prog X.w) X.A (eval a X.env) (λv l=>wpAny (model X.prog X.w) X.A (eval b X.env) (λu c=>wpAny (model X.prog X.w) X.A (f v u) Q X.xe c) X.xe l) X.xe s:=by
 refine thn (i pins s O H _ I h) λv s1 #[x,H1,g,j,n]=>?_
 refine thn (m pins s1 O H1 _ g n) λu s2 #[y,H2,k,d,e]=>?_
 exact hf v u s2 x y H2 k j d e
def vA (i:Nat):TE:=λO H Q=>∃ v,O[i]?=some (some v)/\Q v H
def tC (v:V):TE:=λ_ H Q=>Q v H
theorem oP {i:Nat} (j:X.N[i]?=some x) (k:Vis X.env.scope x) (hd:(x == ("__debug__":Str))=false:=by decide) (d:(x == ("__classdict__":Str))=false:=by decide):PE X (.Name x pos) (vA i):=by
 intro pins s O H Q I h
 obtain ⟨v,e,h⟩:=h
 obtain ⟨m,g,n⟩:=I.loc
 obtain ⟨u,r,l⟩:=n i x v j e k
 have fin:EP X pins O Q u s:=#[v,H,I,r,h]
 rcases l with ⟨b,hm⟩ | ⟨b,c,f,a⟩
 .exact wpAny_Name (wpAny_loadName_local I.ok.kind b g hm fin) hd
 .rcases b with b | b
  .exact wpAny_Name (wpAny_loadName_cell I.ok.kind b f a fin) hd
  .exact wpAny_Name (wpAny_loadName_free I.ok.kind b f a fin d) hd
theorem oQ:PE X (.Constant (.int i) j pos) (tC (.int i)):=λ_ _ _ H _ I h=>wpAny_Constant_int #[.int i,H,I.tok _,#[_,rfl],h]
theorem pe_bl:PE X (.Constant (.bool b) j pos) (tC (.bl b)):=λ_ _ _ H _ I h=>Constant_bool #[.bl b,H,I,rfl,h]
theorem Ed:PE X (.Constant .none j pos) (tC .non):=λ_ _ _ H _ I h=>Constant_none #[.non,H,I,rfl,h]
theorem yI:PE X (.Constant (.str x) j pos) (tC (.str x)):=λ_ _ _ H _ I h=>Calls.Constant_str #[.str x,H,I.tok _,#[_,rfl],h]
def Gl (X:Cx) (x:Str):Prop:=X.env.kindOf x=some .globalImplicit
theorem iN (I:Inv X pins O H s) (a:Gl X x) (hm:X.mg x=some u) (h:Q u s) (hd:(x == ("__debug__":Str))=false:=by decide):wpAny (model X.prog X.w) X.A (eval (.Name x pos) X.env) Q E s :=
 Calls.Name_function_global I.ok.kind a (Calls.loadGlobal_global (by rw[I.ok.glob];exact I.mod.glob.keeps I.bk) hm h) hd
theorem j6 (I:Inv X pins O H s) (c:Gl X x) (hm:X.mg x=none) (b:bootBuiltins x=some u) (h:Q u s) (a:x≠"__name__":=by decide) (hd:(x == ("__debug__":Str))=false:=by decide):wpAny (model X.prog X.w) X.A (eval (.Name x pos) X.env) Q E s:=by
 obtain ⟨mb,h1,h2⟩:=I.mod.blt
 exact Calls.Name_function_global I.ok.kind c (Calls.loadGlobal_builtin (by rw[I.ok.glob];exact I.mod.glob.keeps I.bk) hm (by rw[I.ok.blt];exact h1.keeps I.bk) ((h2 x a).trans b) h) hd
theorem uD (a:Gl X x) (hm:X.mg x=some u) (r:RelV v u) (hd:(x == ("__debug__":Str))=false:=by decide):PE X (.Name x pos) (tC v) :=
 λ_ _ _ H _ I h=>iN I a hm #[v,H,I,r,h] hd
theorem lg (c:Gl X x) (hm:X.mg x=none) (b:bootBuiltins x=some u) (r:RelV v u) (a:x≠"__name__":=by decide) (hd:(x == ("__debug__":Str))=false:=by decide):PE X (.Name x pos) (tC v) :=
 λ_ _ _ H _ I h=>j6 I c hm b #[v,H,I,r,h] a hd
variable {a b:Expr} {ta tb:TE} {pos:Pos}
def PC (X:Cx) (op:CmpOp) (a b:Expr) (t:TE):Prop :=
 ∀ (pins:List (Addr×Obj)) (s:Shared) (O:St) (H:Hp) (Q:VK),Inv X pins O H s->t O H Q ->
  wpAny (model X.prog X.w) X.A (eval a X.env) (λv d=>wpAny (model X.prog X.w) X.A (eval b X.env) (λu c=>wpAny (model X.prog X.w) X.A (compareOp op v u) (EP X pins O Q) X.xe c) X.xe d) X.xe s
def tB (t:TE):TT:=λO H Q=>t O H λx H1=>∃ c,x=.bl c/\Q c H1
theorem DS (h:PE X e t) (he:∀ whole,isTrue e X.env whole=(do let v <- whole;standAt e.pos;holding [v] (truthy v)):=by intro _;rfl):PT X e (tB t):=by
 intro pins s O H Q I hw
 refine isTrue_plain (thn (h pins s O H _ I hw) λv s1 #[x,H1,a,b,c]=>?_) (he _)
 obtain ⟨d,rfl,q⟩:=c
 cases b
 exact Gg #[H1,a,q]
variable {tA tB':TT} {eh:List Expr}
def tAnd (t u:TT):TT:=λO H Q=>t O H λc H1=>if c=true then u O H1 Q else Q false H1
def tOr (t u:TT):TT:=λO H Q=>t O H λc H1=>if c=true then Q true H1 else u O H1 Q
def tNot (t:TT):TT:=λO H Q=>t O H λc H1=>Q (!c) H1
theorem Be (b:PT X a tA):PW X (.BoolOp .And [a] pos) tA:=by
 intro d pins s O H Q I h
 refine isTrue_and (thn (b pins s O H Q I h) λc s1 e=>?_)
 cases c with
 | true=>exact isTrue_and_nil e
 | false=>exact e
theorem DP (b:PT X a tA):PW X (.BoolOp .Or [a] pos) tA:=by
 intro d pins s O H Q I h
 refine isTrue_or (thn (b pins s O H Q I h) λc s1 e=>?_)
 cases c with
 | false=>exact isTrue_or_nil e
 | true=>exact e
theorem DQ (f:PT X a tA) (i:PW X (.BoolOp .And (b::eh) pos) tB'):PW X (.BoolOp .And (a::b::eh) pos) (tAnd tA tB'):=by
 intro g pins s O H Q I h
 refine isTrue_and (thn (f pins s O H _ I h) λc s1 #[H1,d,e]=>?_)
 cases c with
 | true=>exact i g pins s1 O H1 Q d e
 | false=>exact #[H1,d,e]
theorem pw_or (f:PT X a tA) (i:PW X (.BoolOp .Or (b::eh) pos) tB'):PW X (.BoolOp .Or (a::b::eh) pos) (tOr tA tB'):=by
 intro g pins s O H Q I h
 refine isTrue_or (thn (f pins s O H _ I h) λc s1 #[H1,d,e]=>?_)
 cases c with
 | true=>exact #[H1,d,e]
 | false=>exact i g pins s1 O H1 Q d e
theorem DT (b:PT X a tA):PT X (.UnaryOp .Not a pos) (tNot tA):=by
 intro pins s O H Q I h
 exact isTrue_not (b pins s O H (λc H1=>Q (!c) H1) I h)
def Ck (ta tb:TE):TE:=λO H Q=>ta O H λx H1=>∃ c,x=.bl c/\if c=true then tb O H1 Q else Q (.bl false) H1
def Cf (ta:TE):TE:=λO H Q=>ta O H λx H1=>∃ c,x=.bl c/\Q (.bl (!c)) H1
theorem Eb (h:PE X a t):PE X (.BoolOp op [a] pos) t:=λpins s O H Q I hw=>BoolOp_one (h pins s O H Q I hw)
theorem Ej (g:PE X a ta) (f:PE X (.BoolOp .And (b::eh) pos) tb):PE X (.BoolOp .And (a::b::eh) pos) (Ck ta tb):=by
 intro pins s O H Q I h
 refine BoolOp_and (thn (g pins s O H _ I h) λv s1 #[x,H1,e,i,d]=>?_)
 obtain ⟨c,rfl,d⟩:=d
 cases i
 refine Gg ?_
 cases c with
 | true=>exact f pins s1 O H1 Q e d
 | false=>exact #[.bl false,H1,e,rfl,d]
theorem Ec (e:PE X a ta):PE X (.UnaryOp .Not a pos) (Cf ta):=by
 intro pins s O H Q I h
 refine UnaryOp_ (thn (e pins s O H _ I h) λv s1 #[x,H1,d,f,b]=>?_)
 obtain ⟨c,rfl,b⟩:=b
 cases f
 exact not_of (Gg #[.bl (!c),H1,d,rfl,b])
def tIf (t:TT) (ta tb:TE):TE:=λO H Q=>t O H λc H1=>if c=true then ta O H1 Q else tb O H1 Q
theorem yK (j:PT X c tA) (g:PE X a ta) (i:PE X b tb):PE X (.IfExp c a b pos) (tIf tA ta tb):=by
 intro pins s O H Q I h
 refine wpAny_IfExp (thn (j pins s O H _ I h) λd s1 #[H1,e,f]=>?_)
 cases d with
 | true=>exact g pins s1 O H1 Q e f
 | false=>exact i pins s1 O H1 Q e f
end
end L2
namespace L2
open PySem PySem.Spec PyProof.Rows
def SqL (K:FG) (H:Hp) (a:Addr) (xs:List V):Prop :=
 Rd H a (.lst xs) \/
  ∃ (o:Obj) (its:Array Value) (n:Nat),K.lookup a=some o/\o.cls=.type "list"/\o.dict=none/\o.data=.seq its n/\its.size<=sizeLine/\Vals xs its.toList
def SqT (K:FG) (H:Hp) (a:Addr) (xs:List V):Prop :=
 Rd H a (.tup xs) \/
  ∃ (o:Obj) (its:Array Value) (n:Nat),K.lookup a=some o/\o.cls=.type "tuple"/\o.data=.seq its n/\its.size<=sizeLine/\Vals xs its.toList
def absV:Value->Option V
 | .none=>some .non
 | .bool b=>some (.bl b)
 | .int i _=>some (.int i)
 | .str x _=>some (.str x)
 | .bytes b _=>some (.byt b)
 | .float b _=>some (.flt b)
 | .ref a=>some (.ref a)
 | .type n=>some (.ty n)
 | _=>none
theorem RelV.abs (r:RelV x u):absV u=some x:=by
 cases x with
 | non=>cases r;rfl
 | bl _=>cases r;rfl
 | int _=>obtain ⟨t,rfl⟩:=r;rfl
 | str _=>obtain ⟨t,rfl⟩:=r;rfl
 | byt _=>obtain ⟨t,rfl⟩:=r;rfl
 | flt _=>obtain ⟨t,rfl⟩:=r;rfl
 | ref _=>cases r;rfl
 | ty _=>cases r;rfl
theorem RelV.inj (r:RelV x u) (q:RelV y u):x=y:=Gn (r.abs.symm.trans q.abs)
theorem Vals.inj:∀ {xs ys:List V} {us:List Value},Vals xs us->Vals ys us->xs=ys
 | _,_,_,.nil,.nil=>rfl
 | _,_,_,.cons r t,.cons r' t'=>by rw[r.inj r',Vals.inj t t']
section
variable {X:Cx} {pins:List (Addr×Obj)} {O:St} {H:Hp} {s:Shared} {a:Addr} {xs ys:List V}
theorem SqL.of {K:FG} (h:H a=some (.lst xs)):SqL K H a xs:=.inl (.inl h)
theorem SqT.of {K:FG} (h:H a=some (.tup xs)):SqT K H a xs:=.inl (.inl h)
theorem Inv.list (I:Inv X pins O H s) (h:SqL X.K H a xs):∃ its:List Value,Vals xs its/\PlainL s.heap a its.toArray/\xs.length<=sizeLine:=by
 rcases h with h | ⟨o,its,n,c,d,hd,b,hz,r⟩
 .obtain ⟨z,its,n,r,e⟩:=h.ok I.hok
  exact #[its,r,#[_,n,e,rfl,rfl,rfl],z]
 .refine #[its.toList,r,#[o,n,I.kIn a o c,d,hd,by simpa using b],?_]
  have e:=r.length
  simp only[Array.length_toList] at e
  lia
theorem Inv.tuple (I:Inv X pins O H s) (h:SqT X.K H a xs):∃ its:List Value,Vals xs its/\IsTup s.heap a its.toArray/\xs.length<=sizeLine:=by
 rcases h with h | ⟨o,its,n,c,d,b,hz,r⟩
 .obtain ⟨z,its,r,p⟩:=h.ok I.hok
  exact #[its,r,p.tup,z]
 .refine #[its.toList,r,#[o,I.kIn a o c,d,n,by simpa using b],?_]
  have e:=r.length
  simp only[Array.length_toList] at e
  lia
theorem Inv.list_inj (I:Inv X pins O H s) (h:SqL X.K H a xs) (h':SqL X.K H a ys):xs=ys:=by
 obtain ⟨its,r,⟨o,n,e,_,_,d⟩,_⟩:=I.list h
 obtain ⟨its',c,⟨o',f,b,_,_,d'⟩,_⟩:=I.list h'
 rw[e] at b;cases b
 rw[d] at d'
 injection d' with d1 _
 have:its=its':=by simpa using congrArg Array.toList d1
 subst this
 exact r.inj c
theorem Inv.tuple_inj (I:Inv X pins O H s) (h:SqT X.K H a xs) (h':SqT X.K H a ys):xs=ys:=by
 obtain ⟨its,r,⟨o,e,_,n,d⟩,_⟩:=I.tuple h
 obtain ⟨its',c,⟨o',b,_,f,d'⟩,_⟩:=I.tuple h'
 rw[e] at b;cases b
 rw[d] at d'
 injection d' with d1 _
 have:its=its':=by simpa using congrArg Array.toList d1
 subst this
 exact r.inj c
end
abbrev Cx.wish (X:Cx) (E:Value->Shared->Prop):Cx:={ X with xe:=E }
abbrev Cx.nox (X:Cx):Cx:=X.wish λ_ _=>False
theorem Cx.Ok.wish {X:Cx} (ok:X.Ok) (E:Value->Shared->Prop):(X.wish E).Ok :=
 #[ok.mod,ok.kind,ok.glob,ok.blt,ok.above,ok.inj,ok.has,ok.cab,ok.hd,ok.frames,ok.stk,ok.exf,ok.bs,ok.bsz,ok.noex,ok.exfs,ok.funs,ok.frf]
theorem Cx.Ok.unwish {X:Cx} (ok:(X.wish E).Ok):X.Ok :=
 #[ok.mod,ok.kind,ok.glob,ok.blt,ok.above,ok.inj,ok.has,ok.cab,ok.hd,ok.frames,ok.stk,ok.exf,ok.bs,ok.bsz,ok.noex,ok.exfs,ok.funs,ok.frf]
section
variable {X:Cx} {pins:List (Addr×Obj)} {O:St} {H:Hp} {s:Shared} {E:Value->Shared->Prop}
theorem Inv.wish (I:Inv X pins O H s) (E:Value->Shared->Prop):Inv (X.wish E) pins O H s:=#[I.ok.wish E,I.os,I.bare,I.base,I.loc,I.cell,I.free,I.freeC,I.pin,I.hok,I.len]
theorem Inv.unwish (I:Inv (X.wish E) pins O H s):Inv X pins O H s:=#[I.ok.unwish,I.os,I.bare,I.base,I.loc,I.cell,I.free,I.freeC,I.pin,I.hok,I.len]
theorem SP.unwish (h:SP (X.wish E) pins D f s'):SP X pins D f s':=by
 cases f with
 | next=>obtain ⟨O',H',I,q⟩:=h;exact #[O',H',I.unwish,q]
 | brk=>obtain ⟨O',H',I,q⟩:=h;exact #[O',H',I.unwish,q]
 | cont=>obtain ⟨O',H',I,q⟩:=h;exact #[O',H',I.unwish,q]
 | ret u=>obtain ⟨v,O',H',I,r,q⟩:=h;exact #[v,O',H',I.unwish,r,q]
theorem PSs.nox {st:List Stmt} (h:PSs X.nox st t):PSs X st t:=λpins s O H D I hw =>
 wpAny_mono (h pins s O H D (I.wish _) hw) (λ_ _ q=>q.unwish) λ_ _ z=>False.elim z
end
section
variable {X:Cx} {st:Stmt} {eh:List Stmt} {t u:TS} {e:Expr} {te:TE} {pos:Pos}
def Cg:TS:=λD O H=>D.nx O H
def tSeq (t u:TS):TS:=λD O H=>t { D with nx:=u D } O H
theorem Bi:PSs X [] Cg:=λ_ _ O H _ I h=>wpAny_execs_nil #[O,H,I,h]
theorem yA (h1:PS X st t) (h2:PSs X eh u):PSs X (st::eh) (tSeq t u):=by
 intro pins s O H D I h
 refine wpAny_execs_cons (thn (h1 pins s O H { D with nx:=u D } I h) λf s1 q=>?_)
 cases f with
 | next =>
  obtain ⟨O',H',a,q⟩:=q
  exact h2 pins s1 O' H' D a q
 | ret v=>exact q
 | brk=>exact q
 | cont=>exact q
theorem uB (h1:PS X st t):PSs X [st] t:=by
 intro pins s O H D I h
 refine wpAny_execs_cons (thn (h1 pins s O H D I h) λf s1 q=>?_)
 cases f with
 | next=>exact wpAny_execs_nil q
 | ret v=>exact q
 | brk=>exact q
 | cont=>exact q
theorem Inv.quiet (I:Inv X pins O H s):interactive X.env=false:=by simp[interactive,I.ok.kind]
def Ch (te:TE):TS:=λD O H=>te O H λ_ H1=>D.nx O H1
theorem Bj (he:PE X e te) (b:swapsWith e none pos.line X.env=pure false:=by rfl):PS X (.Expr e pos) (Ch te):=by
 intro pins s O H D I h
 exact wpAny_Expr_any (thn (he pins s O H _ I h) λv s1 #[x,H1,a,d,c]=>#[O,H1,a,c]) I.quiet b
def tRet (te:TE):TS:=λD O H=>te O H D.rt
theorem DW (he:PE X e te):PS X (.Return (some e) pos) (tRet te):=by
 intro pins s O H D I h
 exact wpAny_Return_some (thn (he pins s O H _ I h) λv s1 #[x,H1,a,b,c]=>#[x,O,H1,a,b,c])
def tIfS (c:TT) (t u:TS):TS:=λD O H=>c O H λb H1=>if b=true then t D O H1 else u D O H1
theorem ps_if (j:PT X c tc) (g:PSs X a t) (i:PSs X b u):PS X (.If c a b pos) (tIfS tc t u):=by
 intro pins s O H D I h
 refine wpAny_If (thn (j pins s O H _ I h) λd s1 #[H1,e,f]=>?_)
 cases d with
 | true=>exact g pins s1 O H1 D e f
 | false=>exact i pins s1 O H1 D e f
end
abbrev TG:=V->St->Hp->(St->Hp->Prop)->Prop
abbrev TGs:=List V->St->Hp->(St->Hp->Prop)->Prop
def PG (X:Cx) (target:Expr) (t:TG):Prop :=
 ∀ (pins:List (Addr×Obj)) (s:Shared) (O:St) (H:Hp) (v:V) (u:Value) (Q:St->Hp->Prop),Inv X pins O H s->RelV v u->t v O H Q ->
  wpAny (model X.prog X.w) X.A (assign target X.env u) (λ_ s'=>∃ O' H',Inv X pins O' H' s'/\Q O' H') X.xe s
def PGs (X:Cx) (ts:List Expr) (t:TGs):Prop :=
 ∀ (pins:List (Addr×Obj)) (s:Shared) (O:St) (H:Hp) (a:List V) (us:List Value) (Q:St->Hp->Prop),Inv X pins O H s->Vals a us->t a O H Q ->
  wpAny (model X.prog X.w) X.A (assignInOrder ((assignEach ts X.env).map (·.2)) us) (λ_ s'=>∃ O' H',Inv X pins O' H' s'/\Q O' H') X.xe s
abbrev Fq:=V->V->V->Hp->(Hp->Prop)->Prop
def Ag (X:Cx) (t:Fq):Prop :=
 ∀ (pins:List (Addr×Obj)) (s:Shared) (O:St) (H:Hp) (o i v:V) (ov a u:Value) (Q:Hp->Prop),Inv X pins O H s->RelV o ov->RelV i a->RelV v u->t o i v H Q ->
  wpAny (model X.prog X.w) X.A (setItem ov a u) (λ_ s'=>∃ H',Inv X pins O H' s'/\Q H') X.xe s
section
variable {X:Cx} {pos:Pos}
def uX (i:Nat):TG:=λv O H Q=>Q (O.set i (some v)) H
theorem jA {i:Nat} (b:X.N.Nodup) (hi:X.N[i]?=some x) (a:Loc X.env.scope x) (hf:X.fn x=true\/X.env.scope.names.lookup x=some .local:=by first | exact .inl rfl | exact .inr rfl | assumption):PG X (.Name x pos) (uX i):=by
 intro pins s O H v u Q I r h
 exact wpAny_assign_Name (gq I b hi a r (λs' c=>#[_,H,c,h]) hf)
def gNil:TGs:=λa O H Q=>a=[]/\Q O H
def CG (t:TG) (u:TGs):TGs:=λa O H Q=>∃ v r,a=v::r/\t v O H λO' H'=>u r O' H' Q
theorem uC:PGs X [] gNil:=by
 intro pins s O H a us Q I r h
 obtain ⟨e,h⟩:=h
 subst e
 cases r
 exact assignInOrder_nil #[O,H,I,h]
theorem lU (h1:PG X e t) (h2:PGs X es u) (a:(assignEach (e::es) X.env).map (·.2)=assign e X.env::(assignEach es X.env).map (·.2):=by rfl):PGs X (e::es) (CG t u):=by
 intro pins s O H d us Q I r h
 obtain ⟨v,f,e1,h⟩:=h
 subst e1
 cases r with
 | cons r rr =>
  rw[a]
  refine assignInOrder_cons (thn (h1 pins s O H _ _ _ I r h) λ_ s1 #[O1,H1,b,c]=>?_)
  exact h2 pins s1 O1 H1 _ _ Q b rr c
def gTup (K:FG) (n:Nat) (t:TGs):TG:=λv O H Q=>∃ a xs,v=.ref a/\SqT K H a xs/\xs.length=n/\t xs O H Q
theorem yG {k:Nat} {n:Nat} (i:X.calm=true) (h:PGs X es t) (l:(assignEach es X.env).length=n:=by rfl) (c:(assignEach es X.env).findIdx? (·.1)=none:=by rfl):PG X (.Tuple es k pos) (gTup X.K n t):=by
 intro pins s O H v u Q I r hw
 obtain ⟨a,xs,e1,p,f,hw⟩:=hw
 subst e1
 cases r
 obtain ⟨its,d,g,hz⟩:=I.tuple p
 refine assign_Tuple_tuple (I.ok.hd i) g (by simp[l,<- f,d.length]) c λh' j=>?_
 have m:Inv X pins O H { s with heap:=h' }:=I.kept (t':=s.toks) λb o e=>j b o (FT (FF e)) e
 exact h pins _ O H xs _ Q m (by simpa using d) hw
def gSub (to a:TE) (t:Fq):TG:=λv O H Q=>to O H λo H1=>a O H1 λi H2=>t o i v H2 λb=>Q O b
theorem Ea (k:PE X o to) (hi:PE X i ti) (d:Ag X t) (l:∀ v,assign (.Subscript o i pos) X.env v=(do
   let ov <- holding [v] (eval o X.env)
   let a <- holding [v,ov] (eval i X.env)
   standAt pos
   holding [v,ov,a] (setItem ov a v)
   release [v,ov,a] []):=by intro _;rfl):PG X (.Subscript o i pos) (gSub to ti t):=by
 intro pins s O H v u Q I r h
 rw[l]
 refine Fs (Fu (thn (k pins s O H _ I h) λov s1 #[x,H1,j,m,p]=>?_))
 refine Fs (Fu (thn (hi pins s1 O H1 _ j p) λa s2 #[y,H2,n,c,e]=>?_))
 refine Fs (wpAny_standAt (Fs (Fu (thn (d pins s2 O H2 x y v ov a u _ n m c r e) λ_ s3 #[g,f,b]=>?_))))
 exact wpAny_release #[O,g,f,b]
def xv (te:TE) (g:TG):TS:=λD O H=>te O H λx H1=>g x O H1 D.nx
theorem yD (he:PE X e te) (b:PG X tg g) (a:swapsWithSole [tg] e pos.line X.env=pure false:=by rfl) (hw:swappedStores [tg] e X.env=pure none:=by rfl) (h1:(assignEach [tg] X.env).map (·.2)=[assign tg X.env]:=by rfl):PS X (.Assign [tg] e pos) (xv te g):=by
 intro pins s O H D I h
 refine wpAny_Assign_stores (thn (he pins s O H _ I h) λv s1 #[x,H1,c,d,f]=>?_) a hw
 rw[h1]
 exact thn (b pins s1 O H1 x v _ c d f) λ_ s2 q=>q
theorem DU {i:Nat} (c:X.N.Nodup) (hi:X.N[i]?=some x) (a:Loc X.env.scope x) (he:PE X e te) (b:swapsWith e (some (.Name x pos')) pos.line X.env=pure false:=by rfl) (hf:X.fn x=true\/X.env.scope.names.lookup x=some .local:=by first | exact .inl rfl | exact .inr rfl | assumption) :
  PS X (.Assign [.Name x pos'] e pos) (xv te (uX i)):=by
 intro pins s O H D I h
 refine wpAny_Assign_Name (thn (he pins s O H _ I h) λv s1 #[y,H1,d,f,j]=>?_) b
 exact gq d c hi a f (λs2 g=>#[_,H1,g,j]) hf
def tPar (i j:Nat) (ta:TA):TS:=λD O H=>ta O H λa H1=>∃ v w,a=[v,w]/\D.nx ((O.set i (some v)).set j (some w)) H1
theorem DX {i j:Nat} (E:X.calm=true) (t:X.N.Nodup) (hi:X.N[i]?=some x) (u:X.N[j]?=some y) (g:i≠j) (m:X.env.scope.names.lookup x=some .local) (r:X.env.scope.names.lookup y=some .local) (z:PA X [a,b] ta) (hw:swappedStores [.Tuple [.Name x px,.Name y py] kt pt] (.Tuple [a,b] k2 pt2) X.env=pure (some [x,y])) (G:swapsWithSole [.Tuple [.Name x px,.Name y py] kt pt] (.Tuple [a,b] k2 pt2) pos.line X.env=pure false:=by rfl) :
  PS X (.Assign [.Tuple [.Name x px,.Name y py] kt pt] (.Tuple [a,b] k2 pt2) pos) (tPar i j ta):=by
 intro pins s O H D I h
 rw[exec_Assign_arm]
 refine Fs (wpAny_standAt ?_)
 rw[G]
 refine Fs (Ft ?_)
 rw[if_neg (by decide)]
 refine Fs (Tuple_ (thn (z _ pins s O H _ I h) λus s1 #[M,H1,K,L,l]=>?_))
 obtain ⟨v,w,e1,l⟩:=l
 subst e1
 obtain ⟨d,c,rfl,B,k⟩:∃ d c,us=[d,c]/\RelV v d/\RelV w c:=by
  cases L with
  | cons p q =>
   cases q with
   | cons p' q' =>
    cases q'
    exact #[_,_,rfl,p,p']
 refine wpAny_newObj_type ?_ (by show 2<=sizeLine;decide)
 have C:Inv X pins O H1 { s1 with heap:=s1.heap.push { cls:=.type "tuple",data:=.seq [d,c].toArray } }:=K.kept (t':=s1.toks) λb o e=>Fy _ e
 rw[hw]
 refine Fs (Ft ?_)
 show wpAny (model X.prog X.w) X.A (do rule "assign.swapped-stores";let items <- unpackItems (.ref s1.heap.objs.size) 2 none;assignInOrder [λv=>bindName X.env y v,λv=>bindName X.env x v] items.reverse;pure Flow.next) _ _ _
 refine Fs (wpAny_rule (Fs (unpackItems_tuple (items:=(List.toArray [d,c])) (I.ok.hd E) (IsTup.new s1.heap _) λh' f=>?_)))
 have J:=C.kept (h':=h') (t':=s1.toks) λb o e=>f b o (FT (FF e)) e
 show wpAny _ _ (assignInOrder [λv=>bindName X.env y v,λv=>bindName X.env x v] [c,d] >>= λ_=>pure Flow.next) _ _ _
 refine Fs (assignInOrder_cons (wpAny_bindName (gq J t u (.inl r) k (λs2 F=>?_) (.inr r))))
 refine assignInOrder_cons (wpAny_bindName (gq F t hi (.inl m) B (λs3 n=>assignInOrder_nil (Ft ?_)) (.inr m)))
 rw[List.set_comm _ _ (Ne.symm g)] at n
 exact #[_,H1,n,l]
end
section
variable {X:Cx} {pos:Pos}
def xl (c:TT) (tb:TS):TS:=λD O H=>∃ W:Nat->St->Hp->Prop,(∃ m,W m O H)/\∀ m O H,W m O H ->
 c O H λb H1=>if b=true then ∃ N:St->Hp->Prop,(∀ O' H',N O' H'->∃ a,a < m/\W a O' H')/\tb { D with nx:=N,ct:=N,bk:=D.nx } O H1 else D.nx O H1
theorem yB (m:PassesOwn (model X.prog X.w) X.A X.env X.xe) (r:PT X c tc) (q:PSs X body tb):PS X (.While c body [] pos) (xl tc tb):=by
 intro pins s O H D I h
 obtain ⟨W,⟨m0,p⟩,turn⟩:=h
 refine wpAny_While (codeAny_whileLoop (λn s'=>∃ O' H',Inv X pins O' H' s'/\W n O' H') ?_ m0 #[O,H,I,p])
 rintro n s1 ⟨O1,H1,u,t⟩
 refine wpAny_passesOwn m (thn (r pins s1 O1 H1 _ u (turn n O1 H1 t)) λb s2 #[H2,l,e]=>?_)
 cases b with
 | true =>
  obtain ⟨N,o,e⟩:=e
  rw[if_pos rfl]
  refine wpAny_passesOwn m (thn (q pins s2 O1 H2 _ l e) λf s3 d=>?_)
  cases f with
  | next =>
   obtain ⟨O3,a,k,j⟩:=d
   obtain ⟨i,hm,g⟩:=o O3 a j
   exact #[i,hm,O3,a,k,g]
  | cont =>
   obtain ⟨O3,a,k,j⟩:=d
   obtain ⟨i,hm,g⟩:=o O3 a j
   exact #[i,hm,O3,a,k,g]
  | brk=>exact d
  | ret v=>exact d
 | false =>
  rw[if_neg FR]
  exact wpAny_execs_nil #[O1,H2,l,e]
end
structure It where
 go:Nat->Hp->Prop
 yld:Nat->Hp->V->Hp->Prop
 stop:Nat->Hp->Prop
def FpOk (X:Cx) (pins:List (Addr×Obj)) (H:Hp) (b:Addr):Prop :=
 H b=none/\b≠X.env.locals/\b ∉ X.fs/\(b∈X.ex\/X.s₀.heap.objs.size<=b)/\(∀ x c,X.env.cells.lookup x=some c->c≠b)/\∀ p∈X.pn++pins,p.1≠b
theorem Inv.fpOk (I:Inv X pins O H s) (a:s.heap.objs.size<=b) (d:H' b=none):FpOk X pins H' b:=by
 refine #[d,Nat.ne_of_gt (FY I.lt a),I.nofs a,.inr (Gh I.sz a),λx c e z=>?_,λp f z=>?_]
 .obtain ⟨v,q⟩:=I.cell x c e
  exact absurd (FY q.lt (by rw[z];exact a)) (Nat.lt_irrefl _)
 .exact absurd (FY (FF (I.pin p f).1) (by rw[z];exact a)) (Nat.lt_irrefl _)
structure Turn (P:Program) (w:World) (K:FG) (tg:Expr) (J:It) (fp:List Addr) (it:Addr) (tn:Nat->Heap->Prop):Prop where
 mem:it∈fp
 obj:∀ i h,tn i h->∀ b∈fp,∃ o,h.get? b=some o/\∀ v,o.data≠.cell v
 keep:∀ i h h',tn i h->(∀ b∈fp,∀ o,h.get? b=some o->h'.get? b=some o)->tn i h'
 item:∀ (X:Cx),X.prog=P->X.w=w->X.K=K->X.calm=true->∀ (i:Nat) (pins:List (Addr×Obj)) (s:Shared) (O:St) (H:Hp) (E:Value->Shared->Prop),Inv X pins O H s->(∀ b∈fp,FpOk X pins H b)->tn i s.heap->J.go i H ->
  wpAny (model P w) X.A (pyNext (.ref it)) (λr s1=>∃ u,r=some u /\
   wpAny (model P w) X.A (letOwnedTupleGo tg (.ref it) u) (λ_ s2=>∃ x H',Inv X pins O H' s2/\RelV x u/\J.yld i H x H'/\tn (i+1) s2.heap/\∀ b∈fp,H' b=none) E s1) E s
 done:∀ (X:Cx),X.prog=P->X.w=w->X.K=K->X.calm=true->∀ (i:Nat) (pins:List (Addr×Obj)) (s:Shared) (O:St) (H:Hp) (E:Value->Shared->Prop),Inv X pins O H s->(∀ b∈fp,FpOk X pins H b)->tn i s.heap->J.stop i H ->
  wpAny (model P w) X.A (pyNext (.ref it)) (λr s1=>r=none/\Inv X pins O H s1) E s
 self:∀ (A:Around) (i:Nat) (s:Shared) (Q:Value->Shared->Prop) (E:Value->Shared->Prop),tn i s.heap->Q (.ref it) s->wpAny (model P w) A (pyIter (.ref it)) Q E s
abbrev TI:=St->Hp->(It->Hp->Prop)->Prop
def PIE (X:Cx) (pins:List (Addr×Obj)) (O:St) (tg:Expr) (R:It->Hp->Prop) (a:Value) (s2:Shared):Prop :=
 ∃ (it:Addr) (fp:List Addr) (c:Nat->Heap->Prop) (J:It) (H':Hp),a=.ref it/\Inv X pins O H' s2/\Turn X.prog X.w X.K tg J fp it c/\c 0 s2.heap/\(∀ b∈fp,FpOk X pins H' b)/\R J H'
def PI (X:Cx) (tg iter:Expr) (a:TI):Prop :=
 ∀ (pins:List (Addr×Obj)) (s:Shared) (O:St) (H:Hp) (R:It->Hp->Prop),Inv X pins O H s->a O H R ->
  wpAny (model X.prog X.w) X.A (eval iter X.env) (λv s1=>wpAny (model X.prog X.w) X.A (pyIter v) (PIE X pins O tg R) X.xe s1) X.xe s
theorem zE (c:s.heap.get? it=some o) (d:o.cls=.type n) (hd:o.data=.fields vs) (b:["enumerate","zip","dict_itemiterator","dict_reverseitemiterator","odict_iterator","itertools.zip_longest","itertools.pairwise"].contains n=false) (a:Q () s):wpAny M A (letOwnedTupleGo tg (.ref it) u) Q E s:=by
  unfold letOwnedTupleGo
  cases tg <;> first
    | exact Ft a
    | (cases u <;> first
        | exact Ft a
        | (refine Fs (wpAny_load c ?_)
           rw[d,hd]
           show wpAny M A (if (["enumerate","zip","dict_itemiterator","dict_reverseitemiterator","odict_iterator","itertools.zip_longest","itertools.pairwise"].contains n && vs[0]? == some (rawInt _))=true then _ else _) Q E s
           rw[if_neg (by intro h; rw[b,Bool.false_and] at h; cases h)]
           exact Ft a))
def Itl (K:FG) (a:Addr):It :=
 #[λi H=>∃ xs x,SqL K H a xs/\xs[i]?=some x,λi H x H'=>H'=H/\∀ xs,SqL K H a xs->xs[i]?=some x,λi H=>∃ xs,SqL K H a xs/\xs.length<=i]
def Itt (K:FG) (a:Addr):It :=
 #[λi H=>∃ xs x,SqT K H a xs/\xs[i]?=some x,λi H x H'=>H'=H/\∀ xs,SqT K H a xs->xs[i]?=some x,λi H=>∃ xs,SqT K H a xs/\xs.length<=i]
def Itr (lo:Int) (n:Nat):It:=#[λi _=>i < n,λi H x H'=>H'=H/\x=.int (lo+i),λi _=>n<=i]
theorem vt {P:Program} {w:World} {K:FG} {tg:Expr} (a it:Addr):Turn P w K tg (Itl K a) [it] it (λi h=>h.IsListIter it a i) where
 mem:=by simp
 obj:=λi h st b f=>by
  have e:b=it:=by simpa using f
  subst e
  obtain ⟨o,e,c,d⟩:=st
  exact #[o,e,λv z=>by rw[d] at z;cases z]
 keep:=λi h h' st k=>st.at λo e=>k it (by simp) o e
 item:=by
  intro X m hw r A i pins s O H E I hf st n
  subst m hw r
  obtain ⟨xs,x,j,l⟩:=n
  obtain ⟨its,q,p,hz⟩:=I.list j
  obtain ⟨u,hu,F⟩:=q.get l
  obtain ⟨f0,f1,f2,y,f4,t⟩:=hf it (by simp)
  refine wpAny_pyNext_list_item st p.isList (x:=u) (by simpa using hu) λh' g sb=>?_
  have D:Inv X pins O H { s with heap:=h' }:=I.turned (t':=s.toks) (λb o f e=>(sb.2 b f).trans e) f0 f1 y f4 t
  obtain ⟨o,e,c,d⟩:=id g
  exact #[u,rfl,zE (s:={ s with heap:=h' }) e c d (by decide) #[x,H,D,F,#[rfl,λys C=>by rw[I.list_inj C j];exact l],g,λb f=>(hf b f).1]]
 done:=by
  intro X m hw r A i pins s O H E I hf st n
  subst m hw r
  obtain ⟨xs,j,l⟩:=n
  obtain ⟨its,q,p,hz⟩:=I.list j
  obtain ⟨f0,f1,f2,y,f4,t⟩:=hf it (by simp)
  have G:=q.length
  exact wpAny_pyNext_list_end (I.ok.hd A) st p.isList (by simp;omega) λh' B=>#[rfl,I.turned (t':=s.toks) (λb o f e=>B b o f e) f0 f1 y f4 t]
 self:=λ_ _ _ _ _ st h=>wpAny_pyIter_listiter st h
theorem rN {P:Program} {w:World} {K:FG} {tg:Expr} (a it:Addr):Turn P w K tg (Itt K a) [it] it (λi h=>h.IsTupleIter it a i) where
 mem:=by simp
 obj:=λi h st b f=>by
  have e:b=it:=by simpa using f
  subst e
  obtain ⟨o,e,c,d⟩:=st
  exact #[o,e,λv z=>by rw[d] at z;cases z]
 keep:=λi h h' st k=>st.at λo e=>k it (by simp) o e
 item:=by
  intro X m hw r A i pins s O H E I hf st n
  subst m hw r
  obtain ⟨xs,x,j,l⟩:=n
  obtain ⟨its,q,p,hz⟩:=I.tuple j
  obtain ⟨u,hu,F⟩:=q.get l
  obtain ⟨f0,f1,f2,y,f4,t⟩:=hf it (by simp)
  refine wpAny_pyNext_tuple_item st (show s.heap.IsTuple a its.toArray from p) (x:=u) (by simpa using hu) λh' g sb=>?_
  have D:Inv X pins O H { s with heap:=h' }:=I.turned (t':=s.toks) (λb o f e=>(sb.2 b f).trans e) f0 f1 y f4 t
  obtain ⟨o,e,c,d⟩:=id g
  exact #[u,rfl,zE (s:={ s with heap:=h' }) e c d (by decide) #[x,H,D,F,#[rfl,λys C=>by rw[I.tuple_inj C j];exact l],g,λb f=>(hf b f).1]]
 done:=by
  intro X m hw r A i pins s O H E I hf st n
  subst m hw r
  obtain ⟨xs,j,l⟩:=n
  obtain ⟨its,q,p,hz⟩:=I.tuple j
  obtain ⟨f0,f1,f2,y,f4,t⟩:=hf it (by simp)
  have G:=q.length
  exact wpAny_pyNext_tuple_end (I.ok.hd A) st (show s.heap.IsTuple a its.toArray from p) (by simp;omega) λh' B=>#[rfl,I.turned (t':=s.toks) (λb o f e=>B b o f e) f0 f1 y f4 t]
 self:=λ_ _ _ _ _ st h=>wpAny_pyIter_tupleiter st h
theorem rO {P:Program} {w:World} {K:FG} {tg:Expr} (it:Addr) (lo:Int) (n:Nat):Turn P w K tg (Itr lo n) [it] it (λi h=>IsRangeIter h it (lo+(i:Nat) * 1) ((n:Int) - (i:Nat)) 1) where
 mem:=by simp
 obj:=λi h st b a=>by
  have e:b=it:=by simpa using a
  subst e
  exact ⟨_,st,λv z=>by
   have p:Data.fields _=Data.cell v:=z
   cases p⟩
 keep:=λi h h' st k=>k it (by simp) _ st
 item:=by
  intro X d hw g j i pins s O H E I hf st f
  subst d hw g
  obtain ⟨f0,f1,f2,m,f4,l⟩:=hf it (by simp)
  have W:=Walks.range (prog:=X.prog) (w:=X.w) (I.ok.hd j) it lo 1 n
  refine W.item i s _ _ f st λv h' tk x c r=>?_
  obtain ⟨t,rfl⟩:=x
  have u:Inv X pins O H { s with heap:=h',toks:=tk }:=I.turned (λb o a e=>r b o (by simpa using a) e) f0 f1 m f4 l
  refine #[_,rfl,zE (s:={ s with heap:=h',toks:=tk }) (n:="range_iterator") c rfl rfl (by decide) #[.int (lo+i),H,u,#[t,?_],#[rfl,rfl],c,λb a=>(hf b a).1]]
  rw[Int.mul_one]
 done:=by
  intro X d hw g j i pins s O H E I hf st f
  subst d hw g
  obtain ⟨f0,f1,f2,m,f4,l⟩:=hf it (by simp)
  exact wpAny_pyNext_range_end (I.ok.hd j) st (by have:n<=i:=f;lia) λh' q=>#[rfl,I.turned (t':=s.toks) (λb o a e=>q b o a e) f0 f1 m f4 l]
 self:=λ_ _ _ _ _ st h=>wpAny_pyIter_rangeiter st h
end L2
namespace L2
open PySem PySem.Spec PyProof.Rows
section
variable {X:Cx} {tg:Expr}
theorem qr {lo hi:Int} {tk:Nat} (I:Inv X pins O H s) (h1:-(2 ^ 62)<=lo) (h2:lo < 2 ^ 62) (h3:-(2 ^ 62)<=hi) (c:hi < 2 ^ 62) (q:R (Itr lo (hi - lo).toNat) H):wpAny (model X.prog X.w) X.A (pyIter (.ref s.heap.objs.size)) (PIE X pins O tg R) E { s with heap:=s.heap.push { cls:=.type "range",data:=.fields (List.toArray [.int lo t,.int hi u,.int 1 v]) },toks:=tk }:=by
 refine wpAny_pyIter_range (IsRange.new ..) (small_one h1 h2 h3 c) ?_
 have a:Inv X pins O H { s with heap:=s.heap.push { cls:=.type "range",data:=.fields (List.toArray [.int lo t,.int hi u,.int 1 v]) },toks:=tk }:=I.kept λb o e=>Fy _ e
 refine ⟨(s.heap.push { cls:=.type "range",data:=.fields (List.toArray [.int lo t,.int hi u,.int 1 v]) }).objs.size,[(s.heap.push { cls:=.type "range",data:=.fields (List.toArray [.int lo t,.int hi u,.int 1 v]) }).objs.size],_,_,H,rfl,
  a.kept (t':=tk) λb o e=>Fy _ e,rO _ lo (hi - lo).toNat,?_,λb f=>?_,q⟩
 .have e1:lo+((0:Nat):Int) * 1=lo:=by simp
  have d:(((hi - lo).toNat:Nat):Int) - ((0:Nat):Int)=Builtin.Range.rangeSize lo hi 1:=by rw[rangeSize_one];split <;> omega
  show IsRangeIter _ _ (lo+((0:Nat):Int) * 1) ((((hi - lo).toNat:Nat):Int) - ((0:Nat):Int)) 1
  rw[e1,d]
  exact FI _ rfl
 .have e:b=(s.heap.push { cls:=.type "range",data:=.fields (List.toArray [.int lo t,.int hi u,.int 1 v]) }).objs.size:=by simpa using f
  subst e
  exact a.fpOk (FQ _) (a.hok.fresh (FQ _))
def CD (ta:TA):TI:=λO H R=>ta O H λa H1=>∃ j:Int,a=[.int j]/\-(2 ^ 62)<=j/\j < 2 ^ 62/\R (Itr 0 j.toNat) H1
def CC (ta:TA):TI:=λO H R=>ta O H λa H1=>∃ i j:Int,a=[.int i,.int j]/\(-(2 ^ 62)<=i/\i < 2 ^ 62/\-(2 ^ 62)<=j/\j < 2 ^ 62)/\R (Itr i (j - i).toNat) H1
theorem vR (f:Gl X "range") (hm:X.mg "range"=none) (i:PA X [a] ta) (c:starEach [a] X.env=[(false,eval a X.env)]:=by rfl):PI X tg (.Call (.Name "range" p) [a] [] pos) (CD ta):=by
 intro pins s O H R I h
 refine Call_ (j6 I f hm boot_range (PyProof.Rows.callWith_type1 (thn (i pos pins s O H _ I h) λus s1 #[l,H1,g,k,b]=>?_) c rfl))
 obtain ⟨j,e,b,d,q⟩:=b
 subst e
 cases k with
 | cons r rr =>
  cases rr
  obtain ⟨t,rfl⟩:=r
  exact call_range_1 (qr g (by omega) (by omega) b d (by simpa using q))
theorem vQ (l:Gl X "range") (hm:X.mg "range"=none) (n:PA X [a,b] ta) (g:starEach [a,b] X.env=[(false,eval a X.env),(false,eval b X.env)]:=by rfl) (c:starEach [b] X.env=[(false,eval b X.env)]:=by rfl) :
  PI X tg (.Call (.Name "range" p) [a,b] [] pos) (CC ta):=by
 intro pins s O H R I h
 refine Call_ (j6 I l hm boot_range (PyProof.Rows.callWith_type1 (thn (n pos pins s O H _ I h) λus s1 #[v,H1,m,o,d]=>?_) (by rw[g,c]) (by rw[c];rfl)))
 obtain ⟨i,j,e,⟨d,k,f,u⟩,q⟩:=d
 subst e
 cases o with
 | cons r rr =>
  cases rr with
  | cons r' rr =>
   cases rr
   obtain ⟨t,rfl⟩:=r
   obtain ⟨t',rfl⟩:=r'
   exact call_range_2 (qr m d k f u q)
def tFor (b:TI) (g:TG) (tb:TS):TS:=λD O H=>b O H λJ H1=>∃ W:Nat->Nat->St->Hp->Prop,(∃ m,W 0 m O H1)/\∀ i m O H,W i m O H ->
 (J.stop i H/\D.nx O H)\/(J.go i H/\∃ N:St->Hp->Prop,(∀ O' H',N O' H'->∃ a,a < m/\W (i+1) a O' H')/\∀ x H',J.yld i H x H'->g x O H' λO2 H2=>tb { D with nx:=N,ct:=N,bk:=D.nx } O2 H2)
def lT (fp:List Addr) (h:Heap):List (Addr×Obj):=fp.filterMap λb=>(h.get? b).map λo=>(b,o)
theorem fM (a:b∈fp) (e:h.get? b=some o):(b,o)∈lT fp h:=List.mem_filterMap.mpr #[b,a,by rw[e];rfl]
theorem vU (c:p∈lT fp h):p.1∈fp/\h.get? p.1=some p.2:=by
 obtain ⟨b,d,e⟩:=List.mem_filterMap.mp c
 cases q:h.get? b with
 | none=>rw[q] at e;cases e
 | some o =>
  rw[q] at e
  have a:(b,o)=p:=Gn e
  subst a
  exact #[d,q]
theorem Inv.pinned (I:Inv X pins O H s) (hf:∀ b∈fp,FpOk X pins H b) (g:∀ b∈fp,∃ o,s.heap.get? b=some o/\∀ v,o.data≠.cell v):Inv X (pins++lT fp s.heap) O H s :=
 I.pins_of λp f=>(FH.mp f).elim (λz=>I.pin p (FC _ z)) λz=>by
  obtain ⟨c,e⟩:=vU z
  obtain ⟨f0,f1,f2,_⟩:=hf p.1 c
  obtain ⟨o,a,d⟩:=g p.1 c
  rw[e] at a;cases a
  exact #[e,f0,f1,f2,d]
theorem Inv.unpinned (I:Inv X (pins++pl) O H s):Inv X pins O H s:=I.pins_of λp a=>I.pin p (FC _ (FA _ a))
theorem DY (y:PassesOwn (model X.prog X.w) X.A X.env X.xe) (L:X.calm=true) (hi:PI X tg iter wi) (hg:PG X tg g) (a:PSs X body tb) (hs:∀ x,foldedSetIterable iter X.env x=pure x:=by intro _;rfl):PS X (.For tg iter body [] pos) (tFor wi g tb):=by
 intro pins s O H D I h
 refine wpAny_For (thn (hi pins s O H _ I h) λv s1 h1=>thn h1 λae s2 h2=>?_) hs
 obtain ⟨it,fp,M,J,H2,e,τ,T,F,f2,W,⟨m0,w0⟩,turn⟩:=h2
 subst e
 have c:∀ {H':Hp},(∀ b∈fp,H' b=none)->∀ b∈fp,FpOk X pins H' b:=λhn b a=>#[hn b a,(f2 b a).2]
 refine codeAny_forLoop_any (λn s'=>∃ i O' H',Inv X pins O' H' s'/\M i s'.heap/\(∀ b∈fp,H' b=none)/\W i n O' H') ?_ m0 #[0,O,H2,τ,F,λb a=>(f2 b a).1,w0]
 rintro n s3 ⟨i,O3,B,σ,z,t,w3⟩
 rcases turn i n O3 B w3 with ⟨stop,qn⟩ | ⟨go,N,hN,step⟩
 .refine wpAny_passesOwn y (thn (T.done X rfl rfl rfl L i pins s3 O3 B X.xe σ (c t) z stop) λr s4 #[K,I4]=>?_)
  subst K
  exact wpAny_execs_nil #[O3,B,I4,qn]
 .refine wpAny_passesOwn y (thn (T.item X rfl rfl rfl L i pins s3 O3 B X.xe σ (c t) z go) λr s4 #[u,K,h4]=>?_)
  subst K
  refine wpAny_passesOwn y (thn h4 λ_ s5 #[x,P,I5,r5,S,p,E]=>?_)
  have G:=I5.pinned (c E) (T.obj _ _ p)
  refine wpAny_passesOwn y (thn (hg _ s5 O3 P x u _ G r5 (step x P S)) λ_ V #[O6,φ,I6,q6]=>?_)
  refine wpAny_passesOwn y (thn (a _ V O6 φ _ I6 q6) λf C l=>?_)
  have again:∀ {O7:St} {k:Hp},Inv X (pins++lT fp s5.heap) O7 k C->N O7 k->∃ m,m < n/\∃ i O' H',Inv X pins O' H' C/\M i C.heap/\(∀ b∈fp,H' b=none)/\W i m O' H':=λ{O7 k} j q=>by
   obtain ⟨Q,hm,R⟩:=hN O7 k q
   refine #[Q,hm,i+1,O7,k,j.unpinned,T.keep _ _ _ p λb a o e=>(j.pin (b,o) (FC _ (FC _ (fM a e)))).1,λb a=>?_,R]
   obtain ⟨o,e,d⟩:=T.obj _ _ p b a
   exact (j.pin (b,o) (FC _ (FC _ (fM a e)))).2.1
  cases f with
  | next=>obtain ⟨O7,k,j,q⟩:=l;exact again j q
  | cont=>obtain ⟨O7,k,j,q⟩:=l;exact again j q
  | brk=>obtain ⟨O7,k,j,l⟩:=l;exact #[O7,k,j.unpinned,l]
  | ret v=>obtain ⟨ρ,O7,k,j,r7,l⟩:=l;exact #[ρ,O7,k,j.unpinned,r7,l]
end
end L2
namespace L2
open PySem PySem.Spec PyProof.Rows
abbrev R2:=V->V->Hp->VK->Prop
def OpR (X:Cx) (f:Value->Value->Sem Value) (r:R2):Prop :=
 ∀ (pins:List (Addr×Obj)) (s:Shared) (O:St) (H:Hp) (x y:V) (v u:Value) (Q:VK),Inv X pins O H s->RelV x v->RelV y u->r x y H Q ->
  wpAny (model X.prog X.w) X.A (f v u) (EP X pins O Q) X.xe s
def UnR (X:Cx) (f:Value->Sem Value) (r:V->Hp->VK->Prop):Prop :=
 ∀ (pins:List (Addr×Obj)) (s:Shared) (O:St) (H:Hp) (x:V) (v:Value) (Q:VK),Inv X pins O H s->RelV x v->r x H Q ->
  wpAny (model X.prog X.w) X.A (f v) (EP X pins O Q) X.xe s
def CallR (X:Cx) (f:Value) (r:List V->Hp->VK->Prop):Prop :=
 ∀ (pins:List (Addr×Obj)) (s:Shared) (O:St) (H:Hp) (xs:List V) (us:List Value) (Q:VK),Inv X pins O H s->Vals xs us->r xs H Q ->
  wpAny (model X.prog X.w) X.A (call f us) (EP X pins O Q) X.xe s
def tOp (r:R2) (ta tb:TE):TE:=λO H Q=>ta O H λx H1=>tb O H1 λy H2=>r x y H2 Q
def tUn (r:V->Hp->VK->Prop) (ta:TE):TE:=λO H Q=>ta O H λx H1=>r x H1 Q
def rI (C:Int->Int->Prop) (g:Int->Int->V):R2:=λx y H Q=>∃ i j,x=.int i/\y=.int j/\C i j/\Q (g i j) H
def rI0 (g:Int->Int->V):R2:=λx y H Q=>∃ i j,x=.int i/\y=.int j/\Q (g i j) H
def rU (g:Int->V):V->Hp->VK->Prop:=λx H Q=>∃ i,x=.int i/\Q (g i) H
section
variable {X:Cx} {a b c:Expr} {ta tb tc:TE} {pos:Pos}
theorem Ff (i:PE X a ta) (m:PE X b tb) {R:V->V->Hp->Prop} (I:Inv X pins O H s) (h:ta O H λx H1=>tb O H1 λy H2=>R x y H2) {f:Value->Value->Sem Value} (hf:∀ v u s2 x y H2,Inv X pins O H2 s2->RelV x v->RelV y u->R x y H2->wpAny (model X.prog X.w) X.A (f v u) Q X.xe s2) :
  wpAny (model X.prog X.w) X.A (eval a X.env) (λv l=>wpAny (model X.prog X.w) X.A (eval b X.env) (λu c=>wpAny (model X.prog X.w) X.A (f v u) Q X.xe c) X.xe l) X.xe s:=by
 refine thn (i pins s O H _ I h) λv s1 #[x,H1,g,j,n]=>?_
 refine thn (m pins s1 O H1 _ g n) λu s2 #[y,H2,k,d,e]=>?_
 exact hf v u s2 x y H2 k j d e
theorem pe_op (e:OpR X (binaryOp op) r) (f:PE X a ta) (i:PE X b tb):PE X (.BinOp a op b pos) (tOp r ta tb):=by
 intro pins s O H Q I h
 exact wpAny_BinOp (Ff f i I h λv u s2 x y H2 g c d q=>e pins s2 O H2 x y v u Q g c d q)
theorem pe_un (c:UnR X (unaryOp op) r) (d:PE X a ta):PE X (.UnaryOp op a pos) (tUn r ta):=by
 intro pins s O H Q I h
 exact UnaryOp_ (thn (d pins s O H _ I h) λv s1 #[x,H1,b,e,f]=>c pins s1 O H1 x v Q b e f)
theorem opI {g:Int->Int->Int} (rule:∀ (i j:Int) (t u:Tok) (s:Shared) (Q:Value->Shared->Prop) (E:Value->Shared->Prop),C i j->Q (.int (g i j) s.toks) { s with toks:=s.toks+1 }->wpAny (model X.prog X.w) X.A (f (.int i t) (.int j u)) Q E s) :
  OpR X f (rI C λi j=>.int (g i j)):=by
 intro pins s O H x y v u Q I b c h
 obtain ⟨i,j,rfl,rfl,a,q⟩:=h
 obtain ⟨t,rfl⟩:=b
 obtain ⟨t',rfl⟩:=c
 exact rule i j t t' s _ _ a #[.int (g i j),H,I.tok _,#[_,rfl],q]
theorem opI0 {g:Int->Int->Int} (rule:∀ (i j:Int) (t u:Tok) (s:Shared) (Q:Value->Shared->Prop) (E:Value->Shared->Prop),Q (.int (g i j) s.toks) { s with toks:=s.toks+1 }->wpAny (model X.prog X.w) X.A (f (.int i t) (.int j u)) Q E s) :
  OpR X f (rI0 λi j=>.int (g i j)):=by
 intro pins s O H x y v u Q I a b h
 obtain ⟨i,j,rfl,rfl,q⟩:=h
 obtain ⟨t,rfl⟩:=a
 obtain ⟨t',rfl⟩:=b
 exact rule i j t t' s _ _ #[.int (g i j),H,I.tok _,#[_,rfl],q]
theorem Bv {g:Int->Int->Bool} (rule:∀ (i j:Int) (t u:Tok) (s:Shared) (Q:Value->Shared->Prop) (E:Value->Shared->Prop),Q (.bool (g i j)) s->wpAny (model X.prog X.w) X.A (f (.int i t) (.int j u)) Q E s) :
  OpR X f (rI0 λi j=>.bl (g i j)):=by
 intro pins s O H x y v u Q I a b h
 obtain ⟨i,j,rfl,rfl,q⟩:=h
 obtain ⟨t,rfl⟩:=a
 obtain ⟨t',rfl⟩:=b
 exact rule i j t t' s _ _ #[.bl (g i j),H,I,rfl,q]
def wX (i j:Int):Prop:=0 < j/\j < 1073741824
def Ak (i j:Int):Prop:=0<=j/\j<=1000000/\i.natAbs < 2 ^ 64
def CMul (i j:Int):Prop:=(-(2 ^ 64) < i/\i < 2 ^ 64)\/(-(2 ^ 64) < j/\j < 2 ^ 64)
theorem CMul.ok {i j:Int} (h:CMul i j):IntMulOk i j:=by
 rcases h with ⟨h1,h2⟩ | ⟨h1,h2⟩
 .exact .of_left (intBits_le_64 h1 h2)
 .exact .of_right (intBits_le_64 h1 h2)
theorem op_add:OpR X (binaryOp .Add) (rI0 λi j=>.int (i+j)):=opI0 λ_ _ _ _ _ _ _ q=>add_int q
theorem Ek:OpR X (binaryOp .Sub) (rI0 λi j=>.int (i - j)):=opI0 λ_ _ _ _ _ _ _ q=>sub_int q
theorem Em:OpR X (binaryOp .Mult) (rI CMul λi j=>.int (i * j)):=opI λ_ _ _ _ _ _ _ a q=>mul_int q a.ok
theorem En:OpR X (binaryOp .Mod) (rI (λ_ j=>0 < j) λi j=>.int (i % j)):=opI λi j _ _ _ _ _ a q=>by
 have h1:(0:Int) < j:=a
 exact mod_int' (by omega) (by rw[Int.fmod_eq_emod_of_nonneg i (by omega)];exact q)
theorem El:OpR X (binaryOp .Pow) (rI Ak λi j=>.int (i ^ j.toNat)):=opI λ_ _ _ _ _ _ _ a q=>pow_int_small a.1 a.2.1 a.2.2 q
theorem unI {g:Int->Int} (rule:∀ (i:Int) (t:Tok) (s:Shared) (Q:Value->Shared->Prop) (E:Value->Shared->Prop),Q (.int (g i) s.toks) { s with toks:=s.toks+1 }->wpAny (model X.prog X.w) X.A (f (.int i t)) Q E s) :
  UnR X f (rU λi=>.int (g i)):=by
 intro pins s O H x v Q I a h
 obtain ⟨i,rfl,q⟩:=h
 obtain ⟨t,rfl⟩:=a
 exact rule i t s _ _ #[.int (g i),H,I.tok _,#[_,rfl],q]
theorem CS:UnR X (unaryOp .USub) (rU λi=>.int (-i)):=unI λ_ _ _ _ _ q=>neg_int q
end
def Dl:V->V->Bool
 | .non,.non=>true | .non,.int _=>true | .int _,.non=>true | .non,.bl _=>true | .bl _,.non=>true | .non,.str _=>true | .str _,.non=>true
 | .int _,.int _=>true | .bl _,.bl _=>true | .str _,.str _=>true | .byt _,.byt _=>true
 | .int _,.str _=>true | .str _,.int _=>true | .bl _,.str _=>true | .str _,.bl _=>true
 | _,_=>false
def rEq:R2:=λx y H Q=>Dl x y=true/\Q (.bl (decide (x=y))) H
def rNe:R2:=λx y H Q=>Dl x y=true/\Q (.bl (!decide (x=y))) H
theorem u6 {i j:Int}:decide (V.int i=V.int j)=(i == j):=by
 rw[Bool.eq_iff_iff]
 simp
theorem zS:decide (V.bl i=V.bl j)=(i == j):=by
 rw[Bool.eq_iff_iff]
 simp
theorem u5:decide (V.str i=V.str j)=(i == j):=by
 rw[Bool.eq_iff_iff]
 simp
theorem u7:decide (V.byt i=V.byt j)=(i.toList == j.toList):=by
 rw[Bool.eq_iff_iff]
 cases i
 cases j
 simp
section
variable {X:Cx} {a b c:Expr} {ta tb tc:TE} {pos:Pos}
theorem aW (I:Inv X pins O H s) (q:Q (.bl k) H) (e:k=k'):EP X pins O Q (.bool k') s:=by
 subst e
 exact #[.bl k,H,I,rfl,q]
theorem op_eq:OpR X (compareOp .Eq) rEq:=by
 intro pins s O H x y v u Q I c a h
 obtain ⟨b,q⟩:=h
 cases x with
 | non =>
  cases c
  cases y with
  | non=>cases a;exact PySem.EqNone.eq_none_none (aW I q (by simp))
  | bl j=>cases a;exact PySem.EqNone.eq_none_bool (aW I q (by simp))
  | int j=>obtain ⟨t',rfl⟩:=a;exact PySem.EqNone.eq_none_int (aW I q (by simp))
  | str j=>obtain ⟨t',rfl⟩:=a;exact PySem.EqNone.eq_none_str (aW I q (by simp))
  | _=>exact absurd (show false=true from b) FR
 | bl i =>
  cases c
  cases y with
  | non=>cases a;exact PySem.EqNone.eq_bool_none (aW I q (by simp))
  | bl j=>cases a;exact eq_bool (aW I q zS)
  | str j=>obtain ⟨t',rfl⟩:=a;exact PySem.EqMixed.eq_bool_str (aW I q (by simp))
  | _=>exact absurd (show false=true from b) FR
 | int i =>
  obtain ⟨t,rfl⟩:=c
  cases y with
  | non=>cases a;exact PySem.EqNone.eq_int_none (aW I q (by simp))
  | int j=>obtain ⟨t',rfl⟩:=a;exact eq_int (aW I q u6)
  | str j=>obtain ⟨t',rfl⟩:=a;exact PySem.EqMixed.eq_int_str (aW I q (by simp))
  | _=>exact absurd (show false=true from b) FR
 | str i =>
  obtain ⟨t,rfl⟩:=c
  cases y with
  | non=>cases a;exact PySem.EqNone.eq_str_none (aW I q (by simp))
  | bl j=>cases a;exact PySem.EqMixed.eq_str_bool (aW I q (by simp))
  | int j=>obtain ⟨t',rfl⟩:=a;exact PySem.EqMixed.eq_str_int (aW I q (by simp))
  | str j=>obtain ⟨t',rfl⟩:=a;exact eq_str (aW I q u5)
  | _=>exact absurd (show false=true from b) FR
 | byt i =>
  obtain ⟨t,rfl⟩:=c
  cases y with
  | byt j=>obtain ⟨t',rfl⟩:=a;exact PySem.W.eq_bytes (aW I q u7)
  | _=>exact absurd (show false=true from b) FR
 | _=>cases y <;> exact absurd (show false=true from b) FR
theorem op_ne:OpR X (compareOp .NotEq) rNe:=by
 intro pins s O H x y v u Q I c a h
 obtain ⟨b,q⟩:=h
 cases x with
 | non =>
  cases c
  cases y with
  | non=>cases a;exact PySem.EqNone.ne_none_none (aW I q (by simp))
  | bl j=>cases a;exact PySem.EqNone.ne_none_bool (aW I q (by simp))
  | int j=>obtain ⟨t',rfl⟩:=a;exact PySem.EqNone.ne_none_int (aW I q (by simp))
  | str j=>obtain ⟨t',rfl⟩:=a;exact PySem.EqNone.ne_none_str (aW I q (by simp))
  | _=>exact absurd (show false=true from b) FR
 | bl i =>
  cases c
  cases y with
  | non=>cases a;exact PySem.EqNone.ne_bool_none (aW I q (by simp))
  | bl j=>cases a;exact ne_bool (aW I q (congrArg not zS))
  | str j=>obtain ⟨t',rfl⟩:=a;exact PySem.EqMixed.ne_bool_str (aW I q (by simp))
  | _=>exact absurd (show false=true from b) FR
 | int i =>
  obtain ⟨t,rfl⟩:=c
  cases y with
  | non=>cases a;exact PySem.EqNone.ne_int_none (aW I q (by simp))
  | int j=>obtain ⟨t',rfl⟩:=a;exact ne_int (aW I q (congrArg not u6))
  | str j=>obtain ⟨t',rfl⟩:=a;exact PySem.EqMixed.ne_int_str (aW I q (by simp))
  | _=>exact absurd (show false=true from b) FR
 | str i =>
  obtain ⟨t,rfl⟩:=c
  cases y with
  | non=>cases a;exact PySem.EqNone.ne_str_none (aW I q (by simp))
  | bl j=>cases a;exact PySem.EqMixed.ne_str_bool (aW I q (by simp))
  | int j=>obtain ⟨t',rfl⟩:=a;exact PySem.EqMixed.ne_str_int (aW I q (by simp))
  | str j=>obtain ⟨t',rfl⟩:=a;exact ne_str (aW I q (congrArg not u5))
  | _=>exact absurd (show false=true from b) FR
 | byt i =>
  obtain ⟨t,rfl⟩:=c
  cases y with
  | byt j=>obtain ⟨t',rfl⟩:=a;exact PySem.W.ne_bytes (aW I q (congrArg not u7))
  | _=>exact absurd (show false=true from b) FR
 | _=>cases y <;> exact absurd (show false=true from b) FR
theorem uG:OpR X (compareOp .Lt) (rI0 λi j=>.bl (decide (i < j))):=Bv λ_ _ _ _ _ _ _ q=>lt_int q
theorem nJ:OpR X (compareOp .LtE) (rI0 λi j=>.bl (decide (i<=j))):=Bv λ_ _ _ _ _ _ _ q=>le_int q
theorem Ct:OpR X (compareOp .Gt) (rI0 λi j=>.bl (decide (j < i))):=Bv λ_ _ _ _ _ _ _ q=>gt_int q
theorem op_ge:OpR X (compareOp .GtE) (rI0 λi j=>.bl (decide (j<=i))):=Bv λ_ _ _ _ _ _ _ q=>ge_int q
theorem Eo:OpR X (compareOp .Is) (λx y H Q=>y=.non /\ Q (.bl (decide (x=.non))) H):=by
  intro pins s O H x y v u Q I a b h
  obtain ⟨rfl,q⟩:=h
  cases b
  refine is_none_gen (aW I q ?_)
  cases x <;> first
    | (cases a; rfl)
    | (obtain ⟨t,rfl⟩:=a; rfl)
theorem OpR.or (h:OpR X f r) (h':OpR X f r'):OpR X f (λx y H Q=>r x y H Q\/r' x y H Q):=by
 intro pins s O H x y v u Q I a b q
 rcases q with q | q
 .exact h pins s O H x y v u Q I a b q
 .exact h' pins s O H x y v u Q I a b q
theorem eR (b:Expr) (h:op≠.In:=by decide) (h2:op≠.NotIn:=by decide):behindInMarks op b=false:=by
  have e1:(op == CmpOp.In)=false:=by cases op <;> first | rfl | exact absurd rfl h
  have a:(op == CmpOp.NotIn)=false:=by cases op <;> first | rfl | exact absurd rfl h2
  cases b <;> simp[behindInMarks,e1,a]
theorem Bs (e:OpR X (compareOp op) r) (f:PE X a ta) (i:PE X b tb) (hm:behindInMarks op b=false):PE X (.Compare a [op] [b] pos) (tOp r ta tb):=by
 intro pins s O H Q I h
 exact wpAny_Compare1 (Ff f i I h λv u s2 x y H2 g c d q=>e pins s2 O H2 x y v u Q g c d q) hm
def tTest (t:TE):TT:=λO H Q=>t O H λx H'=>∃ k,x=.bl k/\Q k H'
theorem Bh (n:OpR X (compareOp op) r) (o:PE X a ta) (t:PE X b tb) (hm:behindInMarks op b=false):PT X (.Compare a [op] [b] pos) (tTest (tOp r ta tb)):=by
 intro pins s O H Q I h
 refine wpAny_isTrue_Compare1 (thn (o pins s O H _ I h) λv s1 #[x,H1,m,p,w]=>thn (t pins s1 O H1 _ m w) λu s2 #[y,H2,q,f,g] =>
  thn (n pins s2 O H2 x y v u _ q p f g) λc s3 #[z,l,j,i,k,e,d]=>?_) hm
 subst e
 cases i
 exact Gg #[l,j,d]
def rT (r b:R2) (ta tb tc:TE):TE:=λO H Q=>ta O H λx H1=>tb O H1 λy H2=>r x y H2 λz a=>∃ k,z=.bl k /\
 (if k=true then tc O a λd c=>b y d c Q else Q (.bl false) a)
theorem qx (E:OpR X (compareOp op) r) (f:OpR X (compareOp op') r') (n:PE X a ta) (J:PE X b tb) (q:PE X c tc) (hm:lastMarks [op,op'] [b,c]=false:=by with_unfolding_all rfl):PE X (.Compare a [op,op'] [b,c] pos) (rT r r' ta tb tc):=by
 intro pins s O H Q I h
 refine Compare_chain (thn (n pins s O H _ I h) λv s1 #[x,H1,C,F,K]=>chain_link (thn (J pins s1 O H1 _ C K) λu s2 #[y,H2,o,g,w] =>
  thn (E pins s2 O H2 x y v u _ o F g w) λd s3 #[z,i,l,A,k,e,j]=>?_)) hm
 subst e
 cases A
 refine Gg ?_
 cases k with
 | false=>exact ite_ff #[.bl false,i,l,rfl,j]
 | true=>exact ite_tt (chain_last (thn (q pins s3 O i _ l j) λG s4 #[m,B,t,D,p]=>f pins s4 O B y m u G Q t g D p))
theorem oY:(sizeLine:Nat) < 2 ^ 63:=by rw[sizeLine_eq];decide
theorem op_add_str:OpR X (binaryOp .Add) (λx y H Q=>∃ i j,x=.str i/\y=.str j/\i.length+j.length<=sizeLine/\Q (.str (i++j)) H):=by
 intro pins s O H x y v u Q I a b h
 obtain ⟨i,j,rfl,rfl,hz,q⟩:=h
 obtain ⟨t,rfl⟩:=a
 obtain ⟨t',rfl⟩:=b
 exact add_str (λt' tk=>#[.str (i++j),H,I.tok _,#[_,rfl],q]) hz
theorem dQ (r:Vals [x] us):∃ u,us=[u]/\RelV x u:=by
 cases r with
 | cons r1 r2=>cases r2;exact #[_,rfl,r1]
theorem lB (r:Vals [x,y] us):∃ u a,us=[u,a]/\RelV x u/\RelV y a:=by
 cases r with
 | cons r1 r2 =>
  cases r2 with
  | cons r3 r4=>cases r4;exact #[_,_,rfl,r1,r3]
theorem z4:CallR X (.builtin "abs") (λxs H Q=>∃ i,xs=[.int i]/\Q (.int (if i < 0 then -i else i)) H):=by
 intro pins s O H xs us Q I r h
 obtain ⟨i,rfl,q⟩:=h
 obtain ⟨u,rfl,t,rfl⟩:=dQ r
 exact call_abs_int λu tk=>#[.int (if i < 0 then -i else i),H,I.tok _,#[_,rfl],q]
theorem wN (b:X.calm=true):CallR X (.builtin "max") (λxs H Q=>∃ i j,xs=[.int i,.int j]/\Q (.int (if j > i then j else i)) H):=by
 intro pins s O H xs us Q I r h
 obtain ⟨i,j,rfl,q⟩:=h
 obtain ⟨u,c,rfl,⟨t,rfl⟩,⟨t',rfl⟩⟩:=lB r
 refine max_two_ints (I.ok.hd b) λh' tk k=>#[_,H,I.kept k,?_,q]
 by_cases a:j > i
 .rw[if_pos a,if_pos a];exact #[_,rfl]
 .rw[if_neg a,if_neg a];exact #[_,rfl]
theorem wM (b:X.calm=true):CallR X (.builtin "min") (λxs H Q=>∃ i j,xs=[.int i,.int j]/\Q (.int (if j < i then j else i)) H):=by
 intro pins s O H xs us Q I r h
 obtain ⟨i,j,rfl,q⟩:=h
 obtain ⟨u,c,rfl,⟨t,rfl⟩,⟨t',rfl⟩⟩:=lB r
 refine min_two_ints (I.ok.hd b) λh' tk k=>#[_,H,I.kept k,?_,q]
 by_cases a:j < i
 .rw[if_pos a,if_pos a];exact #[_,rfl]
 .rw[if_neg a,if_neg a];exact #[_,rfl]
theorem wP:CallR X (.type "int") (λxs H Q=>(∃ i,xs=[.int i]/\Q (.int i) H)\/∃ k,xs=[.bl k]/\Q (.int (if k then 1 else 0)) H):=by
 intro pins s O H xs us Q I r h
 rcases h with ⟨i,rfl,q⟩ | ⟨k,rfl,q⟩
 .obtain ⟨u,rfl,t,rfl⟩:=dQ r
  exact call_int_int #[.int i,H,I,#[_,rfl],q]
 .obtain ⟨u,rfl,a⟩:=dQ r
  cases a
  exact call_int_bool #[.int (if k then 1 else 0),H,I.tok _,#[_,rfl],q]
theorem rA:CallR X (.builtin "divmod") (λxs H Q=>∃ i j,xs=[.int i,.int j]/\wX i j/\∀ p,H p=none->Q (.ref p) (upd H p (.tup [.int (i / j),.int (i % j)]))):=by
 intro pins s O H xs us Q I r h
 obtain ⟨i,j,rfl,⟨h1,h2⟩,q⟩:=h
 obtain ⟨u,c,rfl,⟨t,rfl⟩,⟨t',rfl⟩⟩:=lB r
 refine divmod_int (by omega) ?_ (.inl (PyProof.noPylong_small (by omega)))
 rw[Int.fdiv_eq_ediv_of_nonneg i (by omega),Int.fmod_eq_emod_of_nonneg i (by omega)]
 have a:H s.heap.objs.size=none:=I.hok.fresh (FQ _)
 refine #[.ref s.heap.objs.size,_,?_,rfl,q _ a]
 refine I.laid (λb o e=>Fy _ e) (FQ _) #[by simp only[F5,List.length_nil];rw[sizeLine_eq];decide,[.int (i / j) s.toks,.int (i % j) (s.toks+1)],.cons #[_,rfl] (.cons #[_,rfl] .nil),?_]
 exact #[_,FI s.heap rfl,rfl,0,rfl]
end
end L2
namespace L2
open PySem PySem.Spec PyProof.Rows
theorem RelO.some_of (r:RelO (some v) o):∃ u,o=some u/\RelV v u:=by
 cases o with
 | none=>exact (show False from r).elim
 | some u=>exact #[u,rfl,r]
end L2
namespace L2
open PySem PySem.Spec PyProof.Rows
structure Room (k:Nat) (A:Around):Prop where
 hd:A.handled=none
 dp:A.depth+3 * k+5 < recursionLimit
 un:A.units+16 * k+200 < cLine
 gd:A.guards=some []
theorem Room.mono {j k:Nat} (r:Room k A) (h:j<=k):Room j A:=#[r.hd,by have:=r.dp;omega,by have:=r.un;omega,r.gd]
theorem Room.deeper {k:Nat} (r:Room (k+1) A) (env:Env):Room k (A.deeper env) :=
 #[r.hd,by have:=r.dp;show A.depth+1+3 * k+5 < _;omega,by have:=r.un;show A.units+3+16 * k+200 < _;omega,r.gd]
theorem Room.depth {k:Nat} (r:Room k A):A.depth < recursionLimit:=by have:=r.dp;omega
theorem Room.units {k:Nat} (r:Room k A):A.units+64 < cLine:=by have:=r.un;omega
def tNil:TA:=λ_ H Q=>Q [] H
def Ci (ta:TE) (a:TA):TA:=λO H Q=>ta O H λx H1=>a O H1 λxs H2=>Q (x::xs) H2
section
variable {X:Cx} {e:Expr} {es:List Expr} {te:TE} {t:TA} {pos:Pos}
theorem lV:PA X [] tNil:=λ_ _ _ _ H Q I h=>Calls.spliced_nil #[[],H,I,.nil,h]
theorem fL (g:PE X e te) (b:PA X es t) (c:starEach (e::es) X.env=(false,eval e X.env)::starEach es X.env:=by rfl):PA X (e::es) (Ci te t):=by
 intro pos pins s O H Q I h
 rw[c]
 show wpAny _ _ (spliced ((false,eval e X.env)::backTo pos (starEach es X.env))) _ _ s
 refine Calls.spliced_cons (thn (g pins s O H _ I h) λu s1 #[x,H1,f,i,k]=>?_)
 exact thn (b pos pins s1 O H1 _ f k) λus s2 #[xs,H2,j,a,d]=>#[x::xs,H2,j,.cons i a,d]
def tTup (t:TA):TE:=λO H Q=>t O H λxs H1=>xs.length<=sizeLine/\∀ p,H1 p=none->Q (.ref p) (upd H1 p (.tup xs))
def tLst (t:TA):TE:=λO H Q=>t O H λxs H1=>xs.length<=sizeLine/\∀ p,H1 p=none->Q (.ref p) (upd H1 p (.lst xs))
theorem yH (h:PA X es t):PE X (.Tuple es x1 pos) (tTup t):=by
 intro pins s O H Q I c
 refine wpAny_Tuple_spliced (thn (h pos pins s O H _ I c) λus s1 #[xs,H1,a,r,z,q]=>#[by rw[<- r.length];exact z,?_])
 have hf:H1 s1.heap.objs.size=none:=a.hok.fresh (FQ _)
 refine #[.ref s1.heap.objs.size,upd H1 s1.heap.objs.size (.tup xs),a.laid (t':=s1.toks) (λb u e=>Fy _ e) (FQ _) ?_,rfl,q _ hf]
 exact #[z,us,r,#[_,FI _ rfl,rfl,_,rfl]]
theorem Ee (h:PA X es t):PE X (.List es pos) (tLst t):=by
 intro pins s O H Q I c
 refine wpAny_List_spliced (thn (h pos pins s O H _ I c) λus s1 #[xs,H1,a,r,z,q]=>#[by rw[<- r.length];exact z,?_])
 have hf:H1 s1.heap.objs.size=none:=a.hok.fresh (FQ _)
 refine #[.ref s1.heap.objs.size,upd H1 s1.heap.objs.size (.lst xs),a.laid (t':=s1.toks) (λb u e=>Fy _ e) (FQ _) ?_,rfl,q _ hf]
 exact #[z,us,0,r,FI _ rfl]
end
abbrev Sp:=List V->Hp->VK->XK->Prop
abbrev CXT:=List Env->Hp->Shared->XK->Value->Shared->Prop
structure Env0 (P:Program) (w:World) (K:FG) (mg:Str->Option Value) (base:Heap) (A:Around) (outer:List Env) (s:Shared) (H:Hp):Prop where
 frames:A.frames=some outer
 mod:Mod K mg base
 bs:∀ b o,base.get? b=some o->s.heap.get? b=some o/\H b=none
 bsz:base.objs.size<=s.heap.objs.size
 funs:s.heap.FunFrames base outer
 frf:∀ b∈frs outer,H b=none
 hok:HOk P w H s.heap
 bare:AllBare s.gens
def CE (outer:List Env) (P:Program) (w:World) (H:Hp) (s:Shared) (Q:VK) (u:Value) (s':Shared):Prop :=
 ∃ v H',s'.os=s.os/\AllBare s'.gens/\Un (frs outer) [] H H' s.heap s'.heap/\HOk P w H' s'.heap/\RelV v u/\Q v H'
def CR (CX:CXT) (outer:List Env) (P:Program) (w:World) (H:Hp) (s:Shared) (Q:VK) (E:XK) (r:Result) (s':Shared):Prop :=
 match r with
 | .ok (.ret u)=>CE outer P w H s Q u s'
 | .ok _=>False
 | .error e=>CX outer H s E e s'
structure FnOk (P:Program) (w:World) (K:FG) (mg:Str->Option Value) (base:Heap) (CX:CXT) (k:Nat) (f:Addr) (fd:FuncData) (ps:List Str) (sp:Sp):Prop where
 len:∀ vs H Q E,sp vs H Q E->vs.length=ps.length
 run:∀ (A:Around) (outer:List Env) (s:Shared) (H:Hp) (args:Args) (us:List Value) (vs:List V) (Q:VK) (E:XK),Room k A->Env0 P w K mg base A outer s H->BindsTo s fd args (ps.zip us)->Vals vs us->sp vs H Q E ->
  codeAny (model P w) A (.call (.ref f) args) (CR CX outer P w H s Q E) s
theorem FnOk.imp {K:FG} {k:Nat} (F:FnOk P w K mg base CX k f fd ps sp) (h:∀ a H Q E,sp' a H Q E->sp a H Q E):FnOk P w K mg base CX k f fd ps sp' :=
 #[λa H Q E q=>F.len a H Q E (h _ _ _ _ q),λA outer s H args us a Q E c he b e d=>F.run A outer s H args us a Q E c he b e (h _ _ _ _ d)]
section
variable {X:Cx} {pins:List (Addr×Obj)} {O:St} {H:Hp} {s s':Shared}
theorem Inv.env0 (I:Inv X pins O H s):Env0 X.prog X.w X.K X.mg X.base X.A X.stack s H :=
 #[I.ok.frames,I.ok.mod,I.bs,Gh I.ok.bsz I.sz,I.stack,I.stkFree,I.hok,I.bare]
theorem Inv.after (I:Inv X pins O H s) (h:CE X.stack X.prog X.w H s Q u s'):EP X pins O Q u s':=by
 obtain ⟨v,H',os,bare,un,hok,r,q⟩:=h
 obtain ⟨c,g,d,t,a⟩:=s'
 obtain rfl:a=s.os:=os
 exact #[v,H',I.call (h':=c) (g':=g) (d':=d) (t':=t) (ch:=[]) un hok bare (λb z=>absurd z (by simp)),r,q]
end
def tCall (sp:Sp) (dvs:List V) (E:XK) (t:TA):TE:=λO H Q=>t O H λa H1=>sp (a++dvs) H1 Q E
def Binds (K:FG) (fd:FuncData) (ps:List Str) (ds:List Value):Prop :=
 ∀ (s:Shared) (us:List Value),K.In s.heap->(us++ds).length=ps.length->BindsTo s fd #[us,[]] (ps.zip (us++ds))
theorem Binds.all {K:FG} (h:∀ us:List Value,us.length=ps.length->bindArgs fd #[us,[]]=pure (ps.zip us)):Binds K fd ps []:=λs us _ a=>by
 rw[List.append_nil] at a ⊢
 exact .of_eq (h us a)
def tZ (CX:CXT) (X:Cx) (E:XK):Prop:=∀ (pins:List (Addr×Obj)) (O:St) (H:Hp) (s:Shared) (e:Value) (s':Shared),Inv X pins O H s->CX X.stack H s E e s'->X.xe e s'
section
variable {X:Cx} {CX:CXT} {k:Nat} {f C:Addr} {fd:FuncData} {ps:List Str} {sp:Sp} {dvs:List V} {ds:List Value} {E:XK} {x m:Str} {p pos apos:Pos} {e o:Expr} {es:List Expr} {ta:TE} {t:TA}
theorem Ds (F:FnOk X.prog X.w X.K X.mg X.base CX k f fd ps sp) (g:Room k X.A) (c:Binds X.K fd ps ds) (hd:Vals dvs ds) (d:tZ CX X E) (I:Inv X pins O H s) (r:Vals vs us) (h:sp (vs++dvs) H Q E):wpAny (model X.prog X.w) X.A (call (.ref f) us) (EP X pins O Q) X.xe s:=by
 have b:Vals (vs++dvs) (us++ds):=r.append hd
 have i:(us++ds).length=ps.length:=by rw[<- b.length];exact F.len _ _ _ _ h
 refine wpAny_call (codeAny_mono (F.run X.A X.stack s H #[us,[]] (us++ds) (vs++dvs) Q E g I.env0 (c s us I.kIn i) b h) λr s' a=>?_)
 cases r with
 | error e=>exact d pins O H s e s' I a
 | ok fl =>
  cases fl with
  | ret u=>exact I.after a
  | next=>exact False.elim a
  | brk=>exact False.elim a
  | cont=>exact False.elim a
theorem Bt (F:FnOk X.prog X.w X.K X.mg X.base CX k f fd ps sp) (g:Room k X.A) (i:Gl X x) (hm:X.mg x=some (.ref f)) (j:PySem.W.keepIn X.K (.ref f)=true) (m:Binds X.K fd ps ds) (hd:Vals dvs ds) (d:tZ CX X E)
  (l:PA X (e::es) t) (a:(x == ("__debug__":Str))=false:=by decide) (he:starEach (e::es) X.env=(false,eval e X.env)::starEach es X.env:=by rfl) (b:(backTo pos (starEach es X.env)).any (·.1)=false:=by rfl) :
  PE X (.Call (.Name x p) (e::es) [] pos) (tCall sp dvs E t):=by
 intro pins s O H Q I h
 refine wpAny_Call_Name_kw (iN I i hm ?_ a)
 refine PySem.W.callWith_K (h₀:=X.base) I.ok.mod.kin j (thn (l pos pins s O H _ I h) λus s1 #[n,H1,c,r,q]=>#[c.kIn,?_]) he b
 exact Ds F g m hd d c r q
end
structure FnScope (N P:List Str) (sc:Scope):Prop where
 kind:sc.kind=.function
 co:sc.isCoroutine=false
 gen:sc.isGenerator=false
 nd:N.Nodup
 pre:N.take P.length=P
 par:∀ x∈P,sc.names.lookup x=some .local\/sc.names.lookup x=some .cell
 nofree:∀ y∈sc.names,y.2≠.free
theorem om {kindOf:Str->Option NameKind}:∀ {binds:List (Str×Value)} {m:Str->Option Value},(∀ v,(x,v) ∉ binds)->bindL kindOf binds m x=m x
 | [],_,_=>rfl
 | (n,v)::r,m,h=>by
  unfold bindL
  rw[om λw hw=>h w (Fw _ hw)]
  split
  .have:x≠n:=by rintro rfl;exact h v Fv
   simp[this]
  .rfl
theorem ot {kindOf:Str->Option NameKind}:∀ {binds:List (Str×Value)} {m:Str->Option Value},(∀ v,(x,v) ∉ binds)->bindC kindOf binds m x=m x
 | [],_,_=>rfl
 | (n,v)::r,m,h=>by
  unfold bindC
  rw[ot λw hw=>h w (Fw _ hw)]
  split
  .rfl
  .have:x≠n:=by rintro rfl;exact h v Fv
   simp[this]
theorem oq {kindOf:Str->Option NameKind}:∀ {P:List Str} {a:List Value} {i:Nat} {m:Str->Option Value},P.Nodup->P[i]?=some x->a[i]?=some v->kindOf x=some .local ->
  bindL kindOf (P.zip a) m x=some v
 | [],_,_,_,_,h,_,_=>by simp at h
 | _::_,[],_,_,_,_,h,_=>by simp at h
 | p::P,w::a,0,m,nd,h1,h2,hk=>by
  simp at h1 h2;subst h1;subst h2
  show bindL kindOf ((p,w)::P.zip a) m p=_
  unfold bindL
  rw[om λv b=>(List.nodup_cons.mp nd).1 (List.of_mem_zip b).1,if_pos hk]
  simp
 | p::P,w::a,i+1,m,nd,h1,h2,hk=>by
  show bindL kindOf ((p,w)::P.zip a) m x=_
  unfold bindL
  exact oq (i:=i) (List.nodup_cons.mp nd).2 (by simpa using h1) (by simpa using h2) hk
theorem oA {kindOf:Str->Option NameKind}:∀ {P:List Str} {a:List Value} {i:Nat} {m:Str->Option Value},P.Nodup->P[i]?=some x->a[i]?=some v->kindOf x≠some .local ->
  bindC kindOf (P.zip a) m x=some v
 | [],_,_,_,_,h,_,_=>by simp at h
 | _::_,[],_,_,_,_,h,_=>by simp at h
 | p::P,w::a,0,m,nd,h1,h2,hk=>by
  simp at h1 h2;subst h1;subst h2
  show bindC kindOf ((p,w)::P.zip a) m p=_
  unfold bindC
  rw[ot λv b=>(List.nodup_cons.mp nd).1 (List.of_mem_zip b).1,if_neg hk]
  simp
 | p::P,w::a,i+1,m,nd,h1,h2,hk=>by
  show bindC kindOf ((p,w)::P.zip a) m x=_
  unfold bindC
  exact oA (i:=i) (List.nodup_cons.mp nd).2 (by simpa using h1) (by simpa using h2) hk
def fZ (N:List Str) (a:List V):St:=a.map some++List.replicate (N.length - a.length) none
def dD (CX:CXT) (P:Program) (w:World) (K:FG) (mg:Str->Option Value) (base:Heap) (N:List Str) (qual:Str) (scope:Scope) (f:Addr) (cd:Value) (A:Around) (outer:List Env) (s:Shared) (H:Hp) (E:XK):Cx where
 prog:=P
 w:=w
 K:=K
 mg:=mg
 base:=base
 A:=A.deeper (envOfC qual scope s.heap.objs.size f cd)
 N:=N
 s₀:=s
 H₀:=H
 env:=envOfC qual scope s.heap.objs.size f cd
 outer:=outer
 stack:=envOfC qual scope s.heap.objs.size f cd::outer
 ex:=[]
 calm:=true
 fn:=λ_=>true
 pn:=[]
 xe:=λe s'=>wpAny (model P w) (A.deeper (envOfC qual scope s.heap.objs.size f cd)) (leaving (envOfC qual scope s.heap.objs.size f cd) e) (λ_ a=>CX outer H s E e a) (λb a=>CX outer H s E b a) s'
theorem rq {sc:Scope} {n:Nat} (h:sc.names.lookup x=some .cell):∃ c,(cellsFrom n sc.names []).lookup x=some c:=by
 have q:=PySem.W.cellsFrom_some sc.names n [] (.inl h)
 exact Option.isSome_iff_exists.mp q
theorem nW {K:FG} (S:FnScope N ps scope) (hd:A.handled=none) (d:Env0 P w K mg base A outer s H) (D:vs.length=ps.length) (r:Vals vs us) (x:InCallC s s.heap.objs.size (bindL (envOfC qual scope s.heap.objs.size f cd).kindOf (ps.zip us) λ_=>none) (cellsFrom (s.heap.objs.size+1) scope.names []) (bindC (envOfC qual scope s.heap.objs.size f cd).kindOf (ps.zip us) λ_=>none) s1) :
  Inv (dD CX P w K mg base N qual scope f cd A outer s H E) [] (fZ N vs) H s1:=by
 have t:ps.length<=N.length:=by have:=congrArg List.length S.pre;rw[F6] at this;omega
 obtain ⟨h1,tk,rfl,o⟩:=x.done
 have g:∀ b:Addr,b ∉ (dD CX P w K mg base N qual scope f cd A outer s H E).ex:=λb z=>absurd (show b∈([]:List Addr) from z) (by simp)
 refine ⟨⟨d.mod,S.kind,rfl,rfl,FQ _,λy z c h1 h2=>?_,λy j=>?_,λy c _ h=>?_,λ_=>hd,Around.frames_deeper d.frames,.inr ⟨rfl,rfl⟩,λb z=>absurd z (g b),d.bs,d.bsz,λb _ _=>g b,λb z=>absurd z (g b),d.funs,d.frf⟩,
  rfl,d.bare,Un.kept o,⟨_,x.toInCall.ns,λi y v h1 h2 h3=>?_⟩,λy c h=>⟨_,x.cell y c h⟩,d.hok.fresh (FQ _),λy c h=>?_,λp m=>absurd (show p∈([]:List (Addr×Obj)) from m) (by simp),d.hok.kept o,?_⟩
 .exact name_of_addr x.apart (PySem.mem_of_lookup h1) (PySem.mem_of_lookup h2)
 .have j:scope.names.lookup y=some .cell\/scope.names.lookup y=some .free:=j
  rcases j with j | j
  .exact rq j
  .exact absurd rfl (S.nofree _ (PySem.mem_of_lookup j))
 .exact Nat.le_of_lt (x.above y c (PySem.mem_of_lookup h))
 .have hi:i < vs.length:=by
   unfold fZ at h2
   by_cases hi:i < vs.length
   .exact hi
   .rw[List.getElem?_append_right (by simpa using hi)] at h2
    rw[List.getElem?_replicate] at h2
    split at h2 <;> cases h2
  have B:vs[i]?=some v:=by
   unfold fZ at h2
   rw[Gd (by simpa using hi),FP] at h2
   cases e:vs[i]? with
   | none=>rw[e] at h2;cases h2
   | some a=>rw[e] at h2;cases h2;rfl
  obtain ⟨u,hu,C⟩:=r.get B
  have m:ps[i]?=some y:=by
   rw[<- S.pre,List.getElem?_take_of_lt (by omega)];exact h1
  have l:ps.Nodup:=by rw[<- S.pre];exact S.nd.sublist (List.take_sublist _ _)
  refine #[u,C,?_]
  rcases S.par y (FL m) with k | k
  .exact .inl #[k,oq l m hu k]
  .obtain ⟨c,e⟩:=rq (n:=s.heap.objs.size+1) k
   refine .inr #[.inl k,c,e,?_]
   have q:=x.cell y c e
   rw[oA l m hu (by show scope.names.lookup y≠_;rw[k];decide)] at q
   exact q
 .exact d.hok.fresh (Nat.le_of_lt (x.above y c (PySem.mem_of_lookup h)))
 .unfold fZ
  show _=N.length
  rw[F2,FJ,List.length_replicate]
  lia
theorem CH {K:FG} {k:Nat} {B kV doc pm a ct oc:Value} (L:K.lookup f=some #[oc,od,.func (PySem.W.fnOf name qual params body scope B kV doc pm an a ct),osl]) (l:PySem.W.codeIn K a qual=true) (S:FnScope N ps scope) (len:∀ c H Q E,sp c H Q E->c.length=ps.length) (d:∀ (A:Around) (outer:List Env) (s:Shared) (H:Hp) (c:List V) (Q:VK) (E:XK),Room k (A.deeper (envOfC qual scope s.heap.objs.size f a))->sp c H Q E ->
   ∃ t,PSs (dD CX P w K mg base N qual scope f a A outer s H E) body t/\t { nx:=λ_ H'=>Q .non H',rt:=Q } (fZ N c) H) :
  FnOk P w K mg base CX (k+1) f (PySem.W.fnOf name qual params body scope B kV doc pm an a ct) ps sp:=by
 refine #[len,λA outer s H args us c Q E p i F r j=>?_]
 have C:=len _ _ _ _ j
 have z:K.In s.heap:=i.mod.kin.keeps λb o e=>(i.bs b o e).1
 have lim:s.heap.NoLimit:=i.mod.nolimit.keeps λb o e=>(i.bs b o e).1
 have g:∀ y∈ps.zip us,scope.names.lookup y.1=some .local\/(scope.names.lookup y.1=some .cell/\((cellsFrom (s.heap.objs.size+1) scope.names []).lookup y.1).isSome=true):=λ#[n,v] M=>by
  rcases S.par n (List.of_mem_zip M).1 with q | q
  .exact .inl q
  .exact .inr #[q,PySem.W.cellsFrom_some _ _ _ (.inl q)]
 refine codeAny_call_function p.depth (z _ _ L) rfl S.co S.gen rfl (PySem.W.codeRec_of z l) (F _ _ _ _ ?_)
 refine wpAny_newFunctionEnv_cells S.kind g λenv he s1 x=>?_
 subst he
 refine #[lim.keeps x.toInCall.keep,codeAny_func ?_]
 obtain ⟨t,D,G⟩:=d A outer s H c Q E (p.deeper _) j
 have I:Inv (dD CX P w K mg base N qual scope f a A outer s H E) [] (fZ N c) H s1:=nW S p.hd i C r x
 refine wpAny_mono (D [] s1 (fZ N c) H _ I G) (λfl s' h=>?_) λe s' h=>h
 have fin:∀ {O':St} {H':Hp} {v:V} {u:Value},Inv (dD CX P w K mg base N qual scope f a A outer s H E) [] O' H' s'->RelV v u->Q v H'->CE outer P w H s Q u s' :=
  λ{O' H' v u} J m q=>#[v,H',J.os,J.bare,J.base,J.hok,m,q]
 cases fl with
 | ret u =>
  obtain ⟨v,O',H',J,m,q⟩:=h
  exact fin J m q
 | next =>
  obtain ⟨O',H',J,q⟩:=h
  exact fin (v:=V.non) (u:=Value.none) J rfl q
 | brk =>
  obtain ⟨_,_,_,q⟩:=h
  exact False.elim q
 | cont =>
  obtain ⟨_,_,_,q⟩:=h
  exact False.elim q
end L2
namespace L2
open PySem PySem.Spec PyProof.Rows
section
variable {X:Cx} {x:Str} {p pos:Pos} {e:Expr} {es:List Expr} {t:TA} {id T:String} {r:List V->Hp->VK->Prop}
def tCB (r:List V->Hp->VK->Prop) (t:TA):TE:=λO H Q=>t O H λa H1=>r a H1 Q
theorem jB (l:CallR X (.builtin id) r) (d:Gl X x) (hm:X.mg x=none) (i:bootBuiltins x=some (.builtin id)) (j:PA X (e::es) t) (f:x≠"__name__":=by decide) (a:(x == ("__debug__":Str))=false:=by decide)
  (he:starEach (e::es) X.env=(false,eval e X.env)::starEach es X.env:=by rfl) (b:(backTo pos (starEach es X.env)).any (·.1)=false:=by rfl):PE X (.Call (.Name x p) (e::es) [] pos) (tCB r t):=by
 intro pins s O H Q I h
 refine wpAny_Call_Name_kw (j6 I d hm i ?_ f a)
 exact PyProof.Rows.callWith_builtin1 (thn (j pos pins s O H _ I h) λus s1 #[c,H1,g,k,m]=>l pins s1 O H1 c us Q g k m) he b
theorem nE (l:CallR X (.type T) r) (d:Gl X x) (hm:X.mg x=none) (i:bootBuiltins x=some (.type T)) (j:PA X (e::es) t) (f:x≠"__name__":=by decide) (a:(x == ("__debug__":Str))=false:=by decide)
  (he:starEach (e::es) X.env=(false,eval e X.env)::starEach es X.env:=by rfl) (b:(backTo pos (starEach es X.env)).any (·.1)=false:=by rfl):PE X (.Call (.Name x p) (e::es) [] pos) (tCB r t):=by
 intro pins s O H Q I h
 refine wpAny_Call_Name_kw (j6 I d hm i ?_ f a)
 exact PyProof.Rows.callWith_type1 (thn (j pos pins s O H _ I h) λus s1 #[c,H1,g,k,m]=>l pins s1 O H1 c us Q g k m) he b
end
end L2
namespace HT
open PySem PyProof.Rows
def lexLt:List Int->List Int->Bool
 | [],[]=>false
 | [],_::_=>true
 | _::_,[]=>false
 | x::xs,y::ys=>if x=y then lexLt xs ys else decide (x < y)
theorem lexLt_cons (x y:Int) (xs ys:List Int):lexLt (x::xs) (y::ys)=if x=y then lexLt xs ys else decide (x < y):=rfl
theorem lexLt_nil_nil:lexLt [] []=false:=rfl
theorem lexLt_nil_cons (y:Int) (ys:List Int):lexLt [] (y::ys)=true:=rfl
theorem lexLt_cons_nil (x:Int) (xs:List Int):lexLt (x::xs) []=false:=rfl
theorem zO (A:Around) (s:Shared) (a:Int) (t:Tok) (c:Int) (u:Tok):∃ e,SeqAt.EqAt A s (.int a t) (.int c u) e/\(e=true ↔ a=c) :=
 #[(a == c),SeqAt.EqAt.int_int a t c u,by simp]
theorem rcLt_int (A:Around) (s:Shared) (a:Int) (t:Tok) (c:Int) (u:Tok) (prog:Program) (w:World) (E:Value->Shared->Prop) (Q:Value->Shared->Prop) (h:Q (.bool (decide (a < c))) s) :
  wpAny (model prog w) A (richCompare .Lt (.int a t) (.int c u)) Q E s :=
 (PyProof.Rows.lt_int h:wpAny (model prog w) A (compareOp .Lt (.int a t) (.int c u)) Q E s)
section
open PySem.SeqAt
open PySem.AutoSeq1 (wpAny_loadPart')
open PySem.MeetsSeq PySem.MeetsSeq2 PySem.MeetsSeq3
theorem tuple_lt_ints (l b:Addr) (items f:Array Value) (n I:Nat) (dd D:Option Addr) (sl C:Array (Option Value)) (ns ms:List Int) (hi:IntsAre items.toList ns) (E:IntsAre f.toList ms) :
  Meets (Builtin.«tuple.__lt__» #[[.ref l,.ref b],[]])
   (λ_ R s=>s.heap.get? l=some { cls:=.type "tuple",dict:=dd,data:=.seq items n,slots:=sl }/\s.heap.get? b=some { cls:=.type "tuple",dict:=D,data:=.seq f I,slots:=C } /\
    R (.ok (.ret (.bool (lexLt ns ms)))) s) :=
 .of_wp λprog w A R s h=>by
  obtain ⟨v,g,d,tk,os⟩:=s;obtain ⟨G,H,h⟩:=h
  have f2:=AutoSeq1.sub_tuple_tuple
  have J:items.size=ns.length:=by rw[<- hi.length];simp
  have K:f.size=ms.length:=by rw[<- E.length];simp
  wp_walk using wpAny_loadPart' G,wpAny_loadPart' H,wpAny_forIn_list _ (λeh b s'=>b.1=none/\s'=#[v,g,d,tk,os]/\∃ (z ws:List Value) (j i:List Int),eh=z.zip ws /\
   IntsAre z j/\IntsAre ws i/\j.length+f.size=i.length+items.size/\R (.ok (.ret (.bool (lexLt j i)))) #[v,g,d,tk,os]) _
  case turn =>
   rintro ⟨y,x⟩ eh b s' ⟨r,rfl,z,ws,j,i,hz,p,k,hlen,m⟩
   cases p with
   | nil=>rw[List.zip_nil_left] at hz;cases hz
   | cons a t hvi' =>
    cases k with
    | nil=>rw[List.zip_nil_right] at hz;cases hz
    | cons c u hwi' =>
     rw[List.zip_cons_cons] at hz
     injection hz with hyx hrest
     injection hyx with hy hx
     subst hy hx
     rw[lexLt_cons] at m
     simp only[F5] at hlen
     obtain ⟨e,he,o⟩:=zO A.in1 #[v,g,d,tk,os] a t c u
     refine Fs (he prog w _ _ ?_)
     cases e with
     | true =>
      rw[if_pos (o.mp rfl)] at m
      wp_walk
      exact #[rfl,rfl,_,_,_,_,hrest,hvi',hwi',by omega,m]
     | false =>
      rw[if_neg (λq=>absurd (o.mpr q) FR)] at m
      have B:=rcLt_int A.in1 #[v,g,d,tk,os] a t c u prog w
      wp_walk using B
      exact #[_,rfl,by simpa using m]
  case fin =>
   rintro ⟨b1,b2⟩ s' ⟨r,rfl,z,ws,j,i,hz,p,k,hlen,m⟩
   simp only at r
   subst r
   have F:lexLt j i=decide (items.size < f.size):=by
    cases p with
    | nil =>
     cases k with
     | nil =>
      simp only[List.length_nil] at hlen
      rw[lexLt_nil_nil]
      exact (FX (by omega)).symm
     | cons c u hw =>
      simp only[List.length_nil,F5] at hlen
      rw[lexLt_nil_cons]
      exact (FW (by omega)).symm
    | cons a t F =>
     cases k with
     | nil =>
      simp only[List.length_nil,F5] at hlen
      rw[lexLt_cons_nil]
      exact (FX (by omega)).symm
     | cons c u hw =>
      rw[List.zip_cons_cons] at hz
      cases hz
   rw[F] at m
   wp_walk
   exact #[_,rfl,by simpa[Builtin.Tuple.tupleCompareSizes] using m]
  case h =>
   exact #[rfl,rfl,items.toList,f.toList,ns,ms,rfl,hi,E,by omega,h]
end
section
variable {prog:Program} {w:World} {A:Around} {E:Value->Shared->Prop} {s:Shared}
theorem cat_tup (l:IsTup s.heap t vs.toArray) (m:IsTup s.heap b ws.toArray) (i:vs≠[]) (h1:ws=[]->Q (.ref t) s) (h2:ws≠[]->Q (.ref s.heap.objs.size) { s with heap:=s.heap.push { cls:=.type "tuple",data:=.seq (vs++ws).toArray } }) (hsz:vs.length+ws.length<=sizeLine):wpAny (model prog w) A (binaryOp .Add (.ref t) (.ref b)) Q E s:=by
 obtain ⟨⟨cls,dd,data,sl⟩,g,j,n,hd⟩:=id l
 obtain ⟨⟨h,d,data2,c⟩,a,f,k,hd2⟩:=id m
 simp only at j hd f hd2
 subst j hd f hd2
 have e:vs.toArray++ws.toArray=(vs++ws).toArray:=by simp
 by_cases hw:ws=[]
 .exact concat_meets #[_,g,rfl] #[_,a,rfl] noFill_tuple_add seq_tuple_add PySem.F.slot_tuple_add PySem.F.entry_tuple_add (PySem.F.args_tuple_add_2 _ _)
   (tuple_addW1 t b vs.toArray ws.toArray n k dd d sl c (by simpa using i) (by simp[hw])) #[g,a,h1 hw]
 .refine concat_meets #[_,g,rfl] #[_,a,rfl] noFill_tuple_add seq_tuple_add PySem.F.slot_tuple_add PySem.F.entry_tuple_add (PySem.F.args_tuple_add_2 _ _)
   (tuple_addW2 t b vs.toArray ws.toArray n k dd d sl c (by simpa using i) (by simpa using hw) (by rw[FU,FU];exact hsz)) #[g,a,?_]
  rw[e]
  exact h2 hw
def sIx (n d:Nat):Option Int->Nat
 | none=>d
 | some v=>if v < 0 then (v+(n:Int)).toNat else min v.toNat n
theorem sIx_nat (n d k:Nat):sIx n d (some (k:Int))=min k n:=by
 show (if (k:Int) < 0 then ((k:Int)+(n:Int)).toNat else min (k:Int).toNat n)=min k n
 rw[if_neg (by omega),Int.toNat_natCast]
theorem Dn (n d:Nat) (hd:d<=n) (o:Option Int):sIx n d o<=n:=by
 cases o with
 | none=>exact hd
 | some v =>
  show (if v < 0 then (v+(n:Int)).toNat else min v.toNat n)<=n
  by_cases a:v < 0
  .rw[if_pos a];omega
  .rw[if_neg a];exact Nat.min_le_right _ _
theorem u9 (v:Int) (n d:Nat):(if v < 0 then max (v+(n:Int)) 0 else min v (n:Int))=((sIx n d (some v):Nat):Int):=by
 show (if v < 0 then max (v+(n:Int)) 0 else min v (n:Int))=(((if v < 0 then (v+(n:Int)).toNat else min v.toNat n):Nat):Int)
 by_cases a:v < 0
 .simp only[if_pos a];omega
 .simp only[if_neg a];omega
theorem tY (lo hi:Option Int) (n:Nat):Builtin.Slice.sliceAdjust lo hi 1 (n:Int)=(((sIx n 0 lo:Nat):Int),((sIx n n hi:Nat):Int)):=by
 have h1:¬ ((1:Int) < 0):=by omega
 unfold Builtin.Slice.sliceAdjust
 simp only[h1,if_false]
 refine Prod.ext ?_ ?_
 .cases lo with
  | none=>rfl
  | some v=>exact u9 v n 0
 .cases hi with
  | none=>rfl
  | some v=>exact u9 v n n
theorem sB (i j:Nat):Builtin.Slice.slicePlaces (i:Int) (j:Int) 1=j - i:=by
 unfold Builtin.Slice.slicePlaces
 have h1:(1:Int) > 0:=by omega
 simp only[h1,if_true,Int.ediv_one]
 split <;> lia
theorem lF (p:IsPart v o) (h:Q o s):wpAny (model prog w) A (Builtin.Slice.slicePartIndex v) Q E s:=by
 cases p with
 | none=>exact slicePart_none h
 | int i t=>exact slicePart_int h
theorem eX {sl:Addr} {d c:Value} {lo hi:Option Int} {n:Nat} (e:s.heap.IsSliceOf sl d c .none) (pl:IsPart d lo) (pu:IsPart c hi) (h:Q (((sIx n 0 lo:Nat):Int),1,sIx n n hi - sIx n 0 lo) s):wpAny (model prog w) A (Builtin.Slice.sliceApplied (.ref sl) (pure (n:Int))) Q E s:=by
 obtain ⟨os,a,f,b⟩:=id e
 unfold Builtin.Slice.sliceApplied Builtin.Slice.sliceFields
 refine Fs (Fs (wpAny_field a b (x:=d) rfl (Fs (wpAny_field a b (x:=c) rfl (Fs (wpAny_field a b (x:=.none) rfl (Ft ?_)))))))
 refine Fs (slicePart_none ?_)
 show wpAny _ _ (if ((1:Int) == 0)=true then _ else _) _ _ s
 rw[if_neg (by decide)]
 refine Fs (lF pl (Fs (lF pu (Fs (Ft ?_)))))
 show wpAny _ _ (match Builtin.Slice.sliceAdjust lo hi 1 (n:Int) with | (lo,hi)=>pure (lo,(1:Int),Builtin.Slice.slicePlaces lo hi 1)) _ _ s
 rw[tY lo hi n]
 show wpAny _ _ (pure (((sIx n 0 lo:Nat):Int),(1:Int),Builtin.Slice.slicePlaces ((sIx n 0 lo:Nat):Int) ((sIx n n hi:Nat):Int) 1)) _ _ s
 rw[sB]
 exact Ft h
theorem yF (xs:Array Value) (i k:Nat):((List.range k).filterMap λ(m:Nat)=>xs[((i:Int)+(m:Int) * 1).toNat]?).toArray=((xs.toList.drop i).take k).toArray:=by
 have e:(λ(m:Nat)=>xs[((i:Int)+(m:Int) * 1).toNat]?)=λm=>xs[i+m]?:=by
  funext m
  have:((i:Int)+(m:Int) * 1).toNat=i+m:=by omega
  rw[this]
 rw[e]
 have:=pick_run xs i k
 rw[List.filterMap_map] at this
 have a:((λx=>xs[x]?) ∘ λx=>i+x)=λm=>xs[i+m]?:=rfl
 rw[a] at this
 rw[this]
theorem getItem_tuple_cut {lo hi:Option Int} (b:IsTup s.heap t items) (g:s.heap.IsSliceOf sl vl vu .none) (pl:IsPart vl lo) (pu:IsPart vu hi) (hw:¬ (sIx items.size 0 lo=0/\sIx items.size items.size hi=items.size)) (h:Q (.ref s.heap.objs.size) { s with heap:=s.heap.push { cls:=.type "tuple",data:=.seq ((items.toList.drop (sIx items.size 0 lo)).take (sIx items.size items.size hi - sIx items.size 0 lo)).toArray } }) (hsz:items.size<=sizeLine):wpAny (model prog w) A (getItem (.ref t) (.ref sl)) Q E s:=by
 have a:sizeOk (.seq ((items.toList.drop (sIx items.size 0 lo)).take (sIx items.size items.size hi - sIx items.size 0 lo)).toArray):=by
  show ((items.toList.drop (sIx items.size 0 lo)).take (sIx items.size items.size hi - sIx items.size 0 lo)).toArray.size<=sizeLine
  rw[FU,F6,List.length_drop,Array.length_toList]
  lia
 have l:sIx items.size items.size hi<=items.size:=Dn _ _ (FQ _) hi
 obtain ⟨os,c,d,i⟩:=id g
 have e:s.TypeIs (.ref sl) "slice":=#[os,c,d]
 unfold getItem
 try with_reducible refine Fu ?_
 first | refine Fs (Ft ?_) | skip
 refine Fs (wpAny_sequenceKey b.typeIs (by decide) ?_)
 refine Fs (wpAny_callSpecial?_slot (name:=Str.ofString "__getitem__") b.typeIs PyProof.Rows.slot_tuple_getitem
  (wpAny_call_entry PyProof.Rows.slot_tuple_getitem b.typeIs entry_tuple_getitem ?_ (args_tuple_getitem _ _)))
 show wpAny _ _ (Builtin.Tuple.tupleItemsOf (.ref t) >>= _) _ _ s
 refine Fs (tupleItemsOf_ b ?_)
 refine Fs (wpAny_typeOf e ?_)
 rw[if_pos (by decide)]
 refine Fs (eX g pl pu ?_)
 have f:¬ ((((sIx items.size 0 lo:Nat):Int) == 0 && (1:Int) == 1 && (sIx items.size items.size hi - sIx items.size 0 lo) == items.size)=true):=by
  intro q
  rw[Bool.and_eq_true,Bool.and_eq_true] at q
  have j:((sIx items.size 0 lo:Nat):Int)=0:=eq_of_beq q.1.1
  have k:sIx items.size items.size hi - sIx items.size 0 lo=items.size:=eq_of_beq q.2
  exact hw #[by omega,by omega]
 show wpAny _ _ (if (((sIx items.size 0 lo:Nat):Int) == 0 && (1:Int) == 1 && (sIx items.size items.size hi - sIx items.size 0 lo) == items.size)=true then _ else _) _ _ s
 rw[if_neg f,yF]
 first
  | exact Fs (m:=Builtin.Tuple.tupleExact _) (wpAny_newObj_type (Ft #[_,rfl,Ft h]) a)
  | exact Fs (m:=Builtin.Tuple.tupleExact _) (wpAny_newObj_type (Fs (Ft (Ft #[_,rfl,Ft h]))) a)
  | exact Fs (Fs (m:=Builtin.Tuple.tupleExact _) (wpAny_newObj_type (Ft (Ft #[_,rfl,Ft h])) a))
  | exact Fs (Fs (m:=Builtin.Tuple.tupleExact _) (wpAny_newObj_type (Ft #[_,rfl,Ft h]) a))
end
end HT
namespace L2
open PySem PySem.Spec PyProof.Rows
abbrev TO:=St->Hp->(Option Int->Hp->Prop)->Prop
def PO (X:Cx) (e:Option Expr) (t:TO):Prop :=
 ∀ (pins:List (Addr×Obj)) (s:Shared) (O:St) (H:Hp) (Q:Option Int->Hp->Prop),Inv X pins O H s->t O H Q ->
  wpAny (model X.prog X.w) X.A (evalPart e X.env) (λu s'=>∃ o H',Inv X pins O H' s'/\IsPart u o/\Q o H') X.xe s
def Aw:TO:=λ_ H Q=>Q none H
def tPart (t:TE):TO:=λO H Q=>t O H λx H1=>∃ i,x=.int i/\Q (some i) H1
theorem mj:∀ {us:List Value},Vals (ns.map V.int) us->IntsAre us ns:=by
 induction ns with
 | nil=>intro us r;rw[List.map_nil] at r;cases r;exact .nil
 | cons n ns ih =>
  intro us r
  rw[FV] at r
  cases r with
  | cons r1 r2 =>
   obtain ⟨t,e⟩:=r1
   subst e
   exact .cons n t (ih r2)
section
variable {X:Cx} {e:Expr} {te:TE} {lo hi:Option Expr} {tl th:TO} {pos p2:Pos}
theorem Bo:PO X none Aw:=by
 intro pins s O H Q I h
 rw[evalPart_none]
 exact Ft #[none,H,I,.none,h]
theorem Bm (h:PE X e te):PO X (some e) (tPart te):=by
 intro pins s O H Q I hw
 rw[evalPart_some]
 refine thn (h pins s O H _ I hw) λu s1 #[x,H1,a,b,c]=>?_
 obtain ⟨i,rfl,q⟩:=c
 obtain ⟨t,rfl⟩:=b
 exact #[some i,H1,a,.int i t,q]
def SlR (X:Cx) (r:V->Option Int->Option Int->Hp->VK->Prop):Prop :=
 ∀ (pins:List (Addr×Obj)) (s:Shared) (O:St) (H:Hp) (x:V) (v b a:Value) (lo hi:Option Int) (sl:Addr) (Q:VK),Inv X pins O H s->RelV x v->s.heap.IsSliceOf sl b a .none->IsPart b lo->IsPart a hi->r x lo hi H Q ->
  ∃ T id,typeLookup (.type T) "__getitem__"=pure (some (.builtin id))/\s.TypeIs v T/\wpAny (model X.prog X.w) X.A (getItem v (.ref sl)) (EP X pins O Q) X.xe s
theorem SlR.or (h:SlR X r) (h':SlR X r'):SlR X (λx lo hi H Q=>r x lo hi H Q\/r' x lo hi H Q):=by
 intro pins s O H x v b a lo hi sl Q I c d pl pu q
 rcases q with q | q
 .exact h pins s O H x v b a lo hi sl Q I c d pl pu q
 .exact h' pins s O H x v b a lo hi sl Q I c d pl pu q
def tSl (r:V->Option Int->Option Int->Hp->VK->Prop) (te:TE) (tl th:TO):TE:=λO H Q=>te O H λx H1=>tl O H1 λl H2=>th O H2 λu a=>r x l u a Q
theorem yJ (n:SlR X r) (he:PE X e te) (B:PO X lo tl) (hu:PO X hi th):PE X (.Subscript e (.Slice lo hi none p2) pos) (tSl r te tl th):=by
 intro pins s O H Q I h
 refine Subscript_ (thn (he pins s O H _ I h) λv s1 #[x,H1,y,z,g]=>?_)
 refine wpAny_Slice (thn (B pins s1 O H1 _ y g) λc s2 #[l,H2,k,pl,p]=>thn (hu pins s2 O H2 _ k p) λa s3 #[u,d,t,pu,m]=>?_)
 rw[evalPart_none]
 refine Ft ?_
 have o:Inv X pins O d { s3 with heap:=s3.heap.push { cls:=.type "slice",data:=.fields (List.toArray [c,a,.none]) } }:=t.kept (t':=s3.toks) λb ob q=>Fy _ q
 obtain ⟨T,id,i,f,j⟩:=n pins { s3 with heap:=s3.heap.push { cls:=.type "slice",data:=.fields (List.toArray [c,a,.none]) } } O d x v c a l u s3.heap.objs.size Q o z (Heap.IsSliceOf.new ..) pl pu m
 show wpAny (model X.prog X.w) X.A (subscriptTail e (.Slice lo hi none p2) v (.ref s3.heap.objs.size)) (EP X pins O Q) X.xe { s3 with heap:=s3.heap.push { cls:=.type "slice",data:=.fields (List.toArray [c,a,.none]) } }
 exact tail_any (ops:=[.ref s3.heap.objs.size,v]) f i j (by with_unfolding_all rfl)
def rf (xs:List V) (lo hi:Option Int):List V:=(xs.drop (HT.sIx xs.length 0 lo)).take (HT.sIx xs.length xs.length hi - HT.sIx xs.length 0 lo)
theorem kP (xs:List V) (lo hi:Option Int):(rf xs lo hi).length<=xs.length:=by
 unfold rf
 rw[F6,List.length_drop]
 lia
def DN (K:FG):V->Option Int->Option Int->Hp->VK->Prop:=λx lo hi H Q=>∃ a xs,x=.ref a/\SqT K H a xs /\
 ¬ (HT.sIx xs.length 0 lo=0/\HT.sIx xs.length xs.length hi=xs.length)/\∀ p,H p=none->Q (.ref p) (upd H p (.tup (rf xs lo hi)))
theorem sl_tup:SlR X (DN X.K):=by
 intro pins s O H x v i g lo hi sl Q I d f pl pu h
 obtain ⟨a,xs,rfl,e,hw,q⟩:=h
 cases d
 obtain ⟨its,r,c,hz⟩:=I.tuple e
 have hlen:its.toArray.size=xs.length:=by rw[FU];exact r.length.symm
 refine #["tuple",_,PyProof.Rows.slot_tuple_getitem.lookup,c.typeIs,?_]
 refine HT.getItem_tuple_cut c f pl pu (by rw[hlen];exact hw) ?_ (by rw[hlen];exact hz)
 rw[hlen]
 refine #[.ref s.heap.objs.size,_,I.laid (t':=s.toks) (o:=.tup (rf xs lo hi)) (λb ob q=>Fy _ q) (FQ _) ?_,rfl,q _ (I.hok.fresh (FQ _))]
 exact #[Gh (kP xs lo hi) hz,_,(r.drop (HT.sIx xs.length 0 lo)).take (HT.sIx xs.length xs.length hi - HT.sIx xs.length 0 lo),IsTupD.new _ _]
def uz (K:FG):R2:=λx y H Q=>∃ a b xs ys,x=.ref a/\y=.ref b/\SqT K H a xs/\SqT K H b ys/\xs≠[]/\xs.length+ys.length<=sizeLine /\
 (ys=[]->Q (.ref a) H)/\(ys≠[]->∀ p,H p=none->Q (.ref p) (upd H p (.tup (xs++ys))))
theorem Vals.nil_iff (r:Vals xs us):us=[] ↔ xs=[]:=by
 cases r with
 | nil=>simp
 | cons _ _=>simp
theorem op_catT:OpR X (binaryOp .Add) (uz X.K):=by
 intro pins s O H x y v u Q I f g h
 obtain ⟨a,b,xs,ys,rfl,rfl,l,j,i,hz,n,k⟩:=h
 cases f
 cases g
 obtain ⟨its,d,m,_⟩:=I.tuple l
 obtain ⟨e,c,p2,_⟩:=I.tuple j
 refine HT.cat_tup m p2 (λz=>i (d.nil_iff.mp z)) (λz=>#[.ref a,H,I,rfl,n (c.nil_iff.mp z)]) (λz=>?_) (by rw[<- d.length,<- c.length];exact hz)
 refine #[.ref s.heap.objs.size,_,I.laid (t':=s.toks) (o:=.tup (xs++ys)) (λb ob q=>Fy _ q) (FQ _) ?_,rfl,k (λw=>z (c.nil_iff.mpr w)) _ (I.hok.fresh (FQ _))]
 exact #[by rw[F2];exact hz,_,d.append c,IsTupD.new _ _]
end
end L2
namespace L2
open PySem PySem.Spec PyProof.Rows
def ixN (n:Nat) (i:Int):Option Nat:=if 0<=i then (if i < n then some i.toNat else none) else if -(n:Int)<=i then some (i+n).toNat else none
def atI {α:Type} (xs:List α) (i:Int):Option α:=(ixN xs.length i).bind λj=>xs[j]?
theorem uR {n:Nat} {i:Int} {j:Nat} (h:ixN n i=some j):seqIndex? i n=some j/\j < n/\-(n:Int)<=i/\i < n:=by
 unfold ixN at h
 by_cases h0:0<=i
 .rw[if_pos h0] at h
  by_cases h1:i < n
  .rw[if_pos h1] at h
   have e:i.toNat=j:=Gn h
   exact #[by rw[seqIndex_of h0 h1,e],by omega,by omega,h1]
  .rw[if_neg h1] at h;cases h
 .rw[if_neg h0] at h
  by_cases h1:-(n:Int)<=i
  .rw[if_pos h1] at h
   have e:(i+n).toNat=j:=Gn h
   exact #[by rw[seqIndex_neg (by omega) h1,e],by omega,h1,by omega]
  .rw[if_neg h1] at h;cases h
theorem vi {i:Int} (h:atI xs i=some v):∃ j,seqIndex? i xs.length=some j/\xs[j]?=some v/\j < xs.length/\-(xs.length:Int)<=i/\i < xs.length:=by
 unfold atI at h
 cases e:ixN xs.length i with
 | none=>rw[e] at h;cases h
 | some j =>
  rw[e] at h
  obtain ⟨h1,h2,h3,a⟩:=uR e
  exact #[j,h1,h,h2,h3,a]
def vn (b:Expr):Prop:=∀ o i,subscripted b false o i=operate [o,i] (getItem o i)
def IxR (X:Cx) (r:R2):Prop :=
 ∀ (value slice:Expr) (pins:List (Addr×Obj)) (s:Shared) (O:St) (H:Hp) (x y:V) (v u:Value) (Q:VK),Inv X pins O H s->RelV x v->RelV y u->r x y H Q ->
  subscripted slice false v u=operate [v,u] (getItem v u)->wpAny (model X.prog X.w) X.A (subscriptTail value slice v u) (EP X pins O Q) X.xe s
def MtR (X:Cx) (id:String) (r:V->List V->Hp->VK->Prop):Prop :=
 ∀ (pins:List (Addr×Obj)) (s:Shared) (O:St) (H:Hp) (x:V) (xs:List V) (v:Value) (us:List Value) (Q:VK),Inv X pins O H s->RelV x v->Vals xs us->r x xs H Q ->
  wpAny (model X.prog X.w) X.A (call (.builtin id) (v::us)) (EP X pins O Q) X.xe s
section
variable {X:Cx} {a b:Expr} {ta tb:TE} {pos:Pos}
theorem IxR.or (h:IxR X r) (h':IxR X r'):IxR X (λx y H Q=>r x y H Q\/r' x y H Q):=by
 intro value slice pins s O H x y v u Q I a b q c
 rcases q with q | q
 .exact h value slice pins s O H x y v u Q I a b q c
 .exact h' value slice pins s O H x y v u Q I a b q c
theorem pe_ix (e:IxR X r) (g:PE X a ta) (j:PE X b tb) (f:vn b):PE X (.Subscript a b pos) (tOp r ta tb):=by
 intro pins s O H Q I h
 exact Subscript_ (Ff g j I h λv u s2 x y H2 i c d q=>e a b pins s2 O H2 x y v u Q i c d q (f _ _))
def yy (K:FG):R2:=λx y H Q=>∃ p xs i v,x=.ref p/\y=.int i/\SqL K H p xs/\atI xs i=some v/\Q v H
def yx (K:FG):R2:=λx y H Q=>∃ p xs i v,x=.ref p/\y=.int i/\SqT K H p xs/\atI xs i=some v/\Q v H
theorem ix_list:IxR X (yy X.K):=by
 intro value slice pins s O H x y v u Q I f l h c
 obtain ⟨p,xs,i,z,rfl,rfl,k,he,q⟩:=h
 cases f
 obtain ⟨t,rfl⟩:=l
 obtain ⟨its,r,pl,hz⟩:=I.list k
 obtain ⟨j,h1,h2,h3,m,g⟩:=vi he
 obtain ⟨w,d,b⟩:=r.get h2
 have e:=r.length
 have n:=oY
 have fin:EP X pins O Q w s:=#[z,H,I,b,q]
 by_cases h0:0<=i
 .have a:i.toNat=j:=by
   rw[seqIndex_of h0 g] at h1
   exact Gn h1
  exact item_listR pl.isList h0 (by omega) (by rw[a];simpa using d) fin c
 .have a:(i+(its.toArray.size:Int)).toNat=j:=by
   rw[seqIndex_neg (by omega) m] at h1
   rw[FU,<- e]
   exact Gn h1
  exact subscriptTail_builtinR (x:=w) pl.isList.typeIs slot_list_getitem.lookup
   (wpAny_getItem_list_neg (Q:=λr s'=>r=w/\EP X pins O Q r s') pl.isList (by omega) (by rw[FU] <;> omega) (by omega) (by rw[a];simpa using d) #[rfl,fin]) c
theorem EQ:IxR X (yx X.K):=by
 intro value slice pins s O H x y v u Q I c e h f
 obtain ⟨p,xs,i,z,rfl,rfl,d,he,q⟩:=h
 cases c
 obtain ⟨t,rfl⟩:=e
 obtain ⟨its,r,pl,hz⟩:=I.tuple d
 obtain ⟨j,h1,h2,h3,l,k⟩:=vi he
 obtain ⟨w,g,a⟩:=r.get h2
 have b:=r.length
 have m:=oY
 have fin:EP X pins O Q w s:=#[z,H,I,a,q]
 exact subscriptTail_builtinR (x:=w) pl.typeIs slot_tuple_getitem.lookup
  (getItem_tuple (j:=j) (Q:=λr s'=>r=w/\EP X pins O Q r s') pl (by omega) (by omega) (by rw[FU,<- b];exact h1) (by simpa using g) #[rfl,fin]) f
theorem sJ (its:List Value) (n j:Nat) (u:Value):Obj.mapSeq (·.setIfInBounds j u) { cls:=.type "list",data:=.seq its.toArray n }={ cls:=.type "list",data:=.seq (its.set j u).toArray n }:=by
 simp[Obj.mapSeq]
theorem Inv.lst {pins:List (Addr×Obj)} {O:St} {H:Hp} {s:Shared} {p:Addr} {xs:List V} (I:Inv X pins O H s) (h:H p=some (.lst xs)) :
  ∃ (its:List Value) (n:Nat),Vals xs its/\s.heap.get? p=some { cls:=.type "list",data:=.seq its.toArray n }/\xs.length<=sizeLine:=by
 obtain ⟨z,its,n,r,e⟩:=I.hok p _ h
 exact #[its,n,r,e,z]
theorem Inv.lstUpd {its its':List Value} {n a:Nat} (I:Inv X pins O H s) (h:H p=some (.lst xs)) (d:s.heap.get? p=some { cls:=.type "list",data:=.seq its.toArray n }) (hf:f { cls:=.type "list",data:=.seq its.toArray n }={ cls:=.type "list",data:=.seq its'.toArray a }) (r:Vals ys its') (hz:ys.length<=sizeLine) (t:Nat) :
  Inv X pins O (upd H p (.lst ys)) { s with heap:=s.heap.update p f,toks:=t }:=by
 have e:(s.heap.update p f).get? p=some { cls:=.type "list",data:=.seq its'.toArray a }:=by
  rw[F1 f d (by rw[hf] <;> rfl),hf]
 refine I.write (x:=p) (e:=p) (by rw[h];trivial) (.inl rfl) (λb u c q=>(Ge _ _ (Ne.symm c)).trans q) #[_,e] ?_
 exact #[hz,its',a,r,e]
def uu:V->V->V->Hp->(Hp->Prop)->Prop:=λo i v H Q=>∃ p xs k j,o=.ref p/\i=.int k/\H p=some (.lst xs)/\ixN xs.length k=some j/\Q (upd H p (.lst (xs.set j v)))
theorem xI:Ag X uu:=by
 intro pins s O H o i v ov x u Q I w m l h
 obtain ⟨p,xs,k,j,rfl,rfl,e,g,q⟩:=h
 cases w
 obtain ⟨t,rfl⟩:=m
 obtain ⟨its,n,r,b,hz⟩:=I.lst e
 obtain ⟨h1,h2,h3,f⟩:=uR g
 have c:=r.length
 have y:=oY
 have d:Inv X pins O (upd H p (.lst (xs.set j v))) { s with heap:=s.heap.update p (Obj.mapSeq (·.setIfInBounds j u)) } :=
  I.lstUpd e b (sJ its n j u) (r.set l j) (by rw[List.length_set];exact hz) s.toks
 by_cases h0:0<=k
 .have a:k.toNat=j:=by
   rw[seqIndex_of h0 f] at h1
   exact Gn h1
  exact PySem.W.ki_setAt b h0 (by omega) (by rw[FU,<- c];exact f) (by rw[a];exact #[_,d,q])
 .have a:(k+(its.toArray.size:Int)).toNat=j:=by
   rw[seqIndex_neg (by omega) h3] at h1
   rw[FU,<- c]
   exact Gn h1
  exact PySem.W.ki_setBack b (by omega) (by rw[FU,<- c];exact h3) (by omega) (by rw[a];exact #[_,d,q])
theorem oF (lo hi:Option Int) (n:Nat):(sliceBounds lo hi none n).1=((HT.sIx n 0 lo:Nat):Int)/\(sliceBounds lo hi none n).2.1=((HT.sIx n n hi:Nat):Int)/\(sliceBounds lo hi none n).2.2=1:=by
 refine #[?_,?_,rfl]
 .cases lo with
  | none=>simp[sliceBounds,HT.sIx]
  | some i =>
   simp only[sliceBounds,HT.sIx,Option.getD_none,show (1:Int) > 0 by decide,if_true]
   by_cases h:i < 0
   .simp only[h,if_true] <;> omega
   .simp only[h,if_false] <;> omega
 .cases hi with
  | none=>simp[sliceBounds,HT.sIx]
  | some i =>
   simp only[sliceBounds,HT.sIx,Option.getD_none,show (1:Int) > 0 by decide,if_true]
   by_cases h:i < 0
   .simp only[h,if_true] <;> omega
   .simp only[h,if_false] <;> omega
theorem mL (its:List Value) (lo hi:Option Int):slicePick its.toArray lo hi none=((its.drop (HT.sIx its.length 0 lo)).take (HT.sIx its.length its.length hi - HT.sIx its.length 0 lo)).toArray:=by
 obtain ⟨h1,h2,h3⟩:=oF lo hi its.toArray.size
 unfold slicePick
 rw[h1,h2,h3]
 simp only[sliceRange_one,pick_run,FU] <;> rfl
def DO (K:FG):V->Option Int->Option Int->Hp->VK->Prop:=λx lo hi H Q=>∃ a xs,x=.ref a/\SqL K H a xs/\∀ p,H p=none->Q (.ref p) (upd H p (.lst (rf xs lo hi)))
theorem sl_list:SlR X (DO X.K):=by
 intro pins s O H x v i g lo hi sl Q I d f pl pu h
 obtain ⟨a,xs,rfl,e,q⟩:=h
 cases d
 obtain ⟨its,r,c,hz⟩:=I.list e
 have hlen:=r.length
 refine #["list",_,slot_list_getitem.lookup,c.isList.typeIs,?_]
 refine wpAny_getItem_list_slice c.isList f pl pu .none (by simp) ?_ (by rw[FU] <;> omega)
 rw[mL,<- hlen]
 refine #[.ref s.heap.objs.size,_,I.laid (t':=s.toks) (o:=.lst (rf xs lo hi)) (λb ob q=>Fy _ q) (FQ _) ?_,rfl,q _ (I.hok.fresh (FQ _))]
 exact #[Gh (kP xs lo hi) hz,_,0,(r.drop (HT.sIx xs.length 0 lo)).take (HT.sIx xs.length xs.length hi - HT.sIx xs.length 0 lo),FI _ rfl]
def gi:V->Bool
 | .non=>true
 | .bl _=>true
 | .int _=>true
 | .str _=>true
 | _=>false
def eqV:V->V->Bool
 | .non,.non=>true
 | .bl a,.bl b=>a == b
 | .bl a,.int b=>(if a then 1 else 0) == b
 | .int a,.bl b=>a == (if b then 1 else 0)
 | .int a,.int b=>a == b
 | .str a,.str b=>a == b
 | _,_=>false
theorem E7 (d:RelV y u) (c:RelV x v) (e:gi y=true) (fx:gi x=true):SeqAt.EqAt A s u v (eqV y x):=by
 cases y with
 | non =>
  cases d
  cases x with
  | non=>cases c;exact SeqAt.EqAt.same _
  | bl b=>cases c;exact SeqAt.EqAt.none_bool b
  | int b=>obtain ⟨t,rfl⟩:=c;exact SeqAt.EqAt.none_int b t
  | str b=>obtain ⟨t,rfl⟩:=c;exact SeqAt.EqAt.none_str b t
  | _=>exact absurd (show false=true from fx) FR
 | bl a =>
  cases d
  cases x with
  | non=>cases c;exact SeqAt.EqAt.bool_none a
  | bl b=>cases c;exact SeqAt.EqAt.bool_bool a b
  | int b=>obtain ⟨t,rfl⟩:=c;exact SeqAt.EqAt.bool_int a b t
  | str b=>obtain ⟨t,rfl⟩:=c;exact SeqAt.EqAt.bool_str a b t
  | _=>exact absurd (show false=true from fx) FR
 | int a =>
  obtain ⟨t',rfl⟩:=d
  cases x with
  | non=>cases c;exact SeqAt.EqAt.int_none a t'
  | bl b=>cases c;exact SeqAt.EqAt.int_bool a t' b
  | int b=>obtain ⟨t,rfl⟩:=c;exact SeqAt.EqAt.int_int a t' b t
  | str b=>obtain ⟨t,rfl⟩:=c;exact SeqAt.EqAt.int_str a t' b t
  | _=>exact absurd (show false=true from fx) FR
 | str a =>
  obtain ⟨t',rfl⟩:=d
  cases x with
  | non=>cases c;exact SeqAt.EqAt.str_none a t'
  | bl b=>cases c;exact SeqAt.EqAt.str_bool a t' b
  | int b=>obtain ⟨t,rfl⟩:=c;exact SeqAt.EqAt.str_int a t' b t
  | str b=>obtain ⟨t,rfl⟩:=c;exact SeqAt.EqAt.str_str a t' b t
  | _=>exact absurd (show false=true from fx) FR
 | _=>exact absurd (show false=true from e) FR
def eqU (x:V) (u:Value):Bool:=match u with
 | .none=>eqV .non x
 | .bool b=>eqV (.bl b) x
 | .int i _=>eqV (.int i) x
 | .str z _=>eqV (.str z) x
 | _=>false
theorem pA (r:RelV y u) (f:gi y=true):eqU x u=eqV y x:=by
 cases y with
 | non=>cases r;rfl
 | bl b=>cases r;rfl
 | int i=>obtain ⟨t,rfl⟩:=r;rfl
 | str z=>obtain ⟨t,rfl⟩:=r;rfl
 | _=>exact absurd (show false=true from f) FR
theorem l5 (a:RelV x v) (fx:gi x=true):∀ {xs:List V} {us:List Value},Vals xs us->xs.all gi=true->∀ u∈us,SeqAt.EqAt A s u v (eqU x u)
 | _,_,.nil,_=>λu hu=>by cases hu
 | y::xs,u::us,.cons r t,f=>λb hu=>by
  rw[List.all_cons,Bool.and_eq_true] at f
  rcases FD.mp hu with rfl | hu
  .rw[pA r f.1];exact E7 r a f.1 fx
  .exact l5 a fx t f.2 b hu
theorem pH:CallR X (.builtin "len") (λxs H Q=>∃ p ys,xs=[.ref p]/\(SqL X.K H p ys\/SqT X.K H p ys)/\Q (.int ys.length) H):=by
 intro pins s O H xs us Q I r h
 obtain ⟨p,ys,rfl,a,q⟩:=h
 obtain ⟨u,rfl,c⟩:=dQ r
 cases c
 have d:=oY
 rcases a with a | a
 .obtain ⟨its,b,pl,hz⟩:=I.list a
  have hlen:=b.length
  exact Calls.call_len_list pl.isList (by simp only[FU] <;> omega) #[.int ys.length,H,I.tok _,#[s.toks+1,by rw[FU,hlen]],q]
 .obtain ⟨its,b,pl,hz⟩:=I.tuple a
  have hlen:=b.length
  exact len_tuple pl (by simp only[FU] <;> omega) #[.int ys.length,H,I.tok _,#[s.toks+1,by rw[FU,hlen]],q]
theorem CallR.or (h:CallR X f r) (h':CallR X f r'):CallR X f (λxs H Q=>r xs H Q\/r' xs H Q):=by
 intro pins s O H xs us Q I rs q
 rcases q with q | q
 .exact h pins s O H xs us Q I rs q
 .exact h' pins s O H xs us Q I rs q
theorem pG:CallR X (.type "list") (λxs H Q=>∃ p ys,xs=[.ref p]/\(SqL X.K H p ys\/SqT X.K H p ys)/\∀ l,H l=none->Q (.ref l) (upd H l (.lst ys))):=by
 intro pins s O H xs us Q I r h
 obtain ⟨p,ys,rfl,d,q⟩:=h
 obtain ⟨u,rfl,i⟩:=dQ r
 cases i
 have fin:∀ (its:List Value),Vals ys its->ys.length<=sizeLine->∀ (h':Heap) (c:Nat),(∀ b o',s.heap.get? b=some o'->h'.get? b=some o') ->
   h'.get? s.heap.objs.size=some { cls:=.type "list",dict:=none,data:=.seq its.toArray c,slots:=(List.toArray []) }->EP X pins O Q (.ref s.heap.objs.size) { s with heap:=h' }:=λits a hz h' c kp e =>
  #[.ref s.heap.objs.size,_,I.laid (t':=s.toks) kp (FQ _) (show ObjOk X.prog X.w _ h' _ (.lst ys) from #[hz,its,c,a,e]),rfl,q _ (I.hok.fresh (FQ _))]
 rcases d with d | d
 .obtain ⟨its,a,pl,hz⟩:=I.list d
  have hlen:=a.length
  obtain ⟨o,g,f,n,hd⟩:=pl.isList
  exact call_list_seq p (.inl rfl) g f hd (λh' c kp e=>fin its a hz h' c kp e) (by simp only[FU] <;> omega)
 .obtain ⟨its,a,pl,hz⟩:=I.tuple d
  have hlen:=a.length
  obtain ⟨o,g,f,n,hd⟩:=pl
  exact call_list_seq p (.inr rfl) g f hd (λh' c kp e=>fin its a hz h' c kp e) (by simp only[FU] <;> omega)
theorem mV:CallR X (.type "tuple") (λxs H Q=>∃ p ys,xs=[.ref p]/\((SqL X.K H p ys/\∀ l,H l=none->Q (.ref l) (upd H l (.tup ys)))\/(SqT X.K H p ys/\Q (.ref p) H))):=by
 intro pins s O H xs us Q I r h
 obtain ⟨p,ys,rfl,h⟩:=h
 obtain ⟨u,rfl,f⟩:=dQ r
 cases f
 rcases h with ⟨c,q⟩ | ⟨c,q⟩
 .obtain ⟨its,a,pl,hz⟩:=I.list c
  have hlen:=a.length
  refine call_tuple_list pl.isList (λh' kp=>?_) (by simp only[FU] <;> omega)
  have d:Inv X pins O H { s with heap:=h' }:=I.kept (t':=s.toks) kp
  have g:Inv X pins O (upd H h'.objs.size (.tup ys)) { s with heap:=h'.push { cls:=.type "tuple",data:=.seq its.toArray } } :=
   d.laid (t':=s.toks) (λb o e=>Fy _ e) (FQ _) (show ObjOk X.prog X.w _ _ _ (.tup ys) from #[hz,its,a,IsTupD.new _ _])
  exact #[.ref h'.objs.size,_,g,rfl,q _ (d.hok.fresh (FQ _))]
 .obtain ⟨its,a,pl,hz⟩:=I.tuple c
  exact call_tuple_same pl #[.ref p,H,I,rfl,q]
def tyV (K:FG) (T:String) (x:V) (H:Hp):Prop:=match x with
 | .str _=>T="str"
 | .int _=>T="int"
 | .ref p=>(T="list"/\∃ xs,SqL K H p xs)\/(T="tuple"/\((∃ o,K.lookup p=some o/\o.cls=.type "tuple"/\o.dict=none)\/∃ xs,H p=some (.tup xs))) \/
   (T="dict"/\((∃ kvs,H p=some (.dK kvs))\/∃ kvs,H p=some (.dT kvs)))\/(T="set"/\∃ S n,H p=some (.set S n))
 | _=>False
theorem CU (I:Inv X pins O H s) (r:RelV x v) (ty:tyV X.K T x H) :
  s.TypeIs v T/\∀ a,v=.ref a->∃ ob,s.heap.get? a=some ob/\ob.dict=none:=by
 cases x with
 | str z =>
  obtain ⟨t,rfl⟩:=r
  cases (show T="str" from ty)
  exact #[typeIs_str s z t,λ_ e=>nomatch e]
 | int i =>
  obtain ⟨t,rfl⟩:=r
  cases (show T="int" from ty)
  exact #[typeIs_int s i t,λ_ e=>nomatch e]
 | ref p =>
  cases r
  rcases ty with ⟨rfl,xs,h⟩ | ⟨rfl,⟨o,b,j,hd⟩ | ⟨xs,g⟩⟩ | ⟨rfl,b⟩ | ⟨rfl,S,n,b⟩
  .obtain ⟨its,_,pl,_⟩:=I.list h
   refine #[pl.isList.typeIs,λa e=>?_]
   cases e
   obtain ⟨o,n,e,c,hd,_⟩:=pl
   exact #[o,e,hd]
  .refine #[#[o,I.kIn p o b,j],λa e=>?_]
   cases e
   exact #[o,I.kIn _ o b,hd]
  .obtain ⟨_,its,_,o,e,c,n,d⟩:=I.hok p _ g
   refine #[#[o,e,c],λa f=>?_]
   cases f
   exact #[o,e,congrArg Prod.snd d]
  .have z:∃ o,s.heap.get? p=some o/\o.ExactDict:=by
    rcases b with ⟨kvs,b⟩ | ⟨kvs,b⟩
    .obtain ⟨_,_,_,_,o,_,_,e,ex,_⟩:=I.hok p _ b
     exact #[o,e,ex]
    .obtain ⟨_,_,_,_,o,_,_,e,ex,_⟩:=I.hok p _ b
     exact #[o,e,ex]
   obtain ⟨o,e,ex⟩:=z
   refine #[#[o,e,ex.1],λa f=>?_]
   cases f
   exact #[o,e,ex.2.1]
  .obtain ⟨o,_,_,_,e,ex,_⟩:=I.hok p _ b
   refine #[#[o,e,ex.1],λa f=>?_]
   cases f
   exact #[o,e,ex.2.1]
 | _=>exact False.elim ty
def tBM (K:FG) (T:String) (r:V->List V->Hp->VK->Prop) (to:TE) (t:TA):TE:=λO H Q=>to O H λx H1=>tyV K T x H1/\t O H1 λxs H2=>r x xs H2 Q
variable {o e:Expr} {es:List Expr} {to:TE} {t:TA} {name:Str} {apos cpos:Pos} {T id:String} {r:V->List V->Hp->VK->Prop}
theorem Cs (p:PlainAttrs T) (slot:Slot T name id) (f:typeOf (.builtin id)=pure (.type "method_descriptor")) (hm:MtR X id r) (q:PE X o to) (u:PA X (e::es) t)
  (b:attributeBase o name X.env (eval o X.env)=eval o X.env:=by rfl)
  (d:((backTo cpos (starEach (e::es) X.env)).all (λx=>!x.1) && (backToKw cpos (keywordEach [] X.env)).all (λx=>x.1.isSome)
   && decide ((e::es).length+([]:List Keyword).length+(if ([]:List Keyword).isEmpty then 0 else 1) < 30))=true:=by rfl)
  (c:(apos.endLine == cpos.line)=true:=by rfl) (m:starEach (e::es) X.env=(false,eval e X.env)::starEach es X.env:=by rfl) (a:(backTo cpos (starEach es X.env)).any (·.1)=false:=by rfl) :
  PE X (.Call (.Attribute o name apos) (e::es) [] cpos) (tBM X.K T r to t):=by
 intro pins s O H Q I h
 refine wpAny_Call_method_late b d c rfl (thn (q pins s O H _ I h) λv s1 #[x,H1,i,j,ty,y]=>?_)
 obtain ⟨h1,h2⟩:=CU i j ty
 refine #[T,id,p,slot,f,h1,h2,?_]
 have g:=u cpos pins s1 O H1 _ i y
 rw[m] at g ⊢
 refine Calls.callWith_builtin (by show (false || (backTo cpos (starEach es X.env)).any (·.1))=false;rw[a] <;> rfl) (Calls.evalArgs_plain ?_)
 exact thn g λus s2 #[l,H2,w,k,n]=>hm pins s2 O H2 x l v us Q w j k n
end
end L2
namespace L2
open PySem PySem.Spec PyProof.Rows
def MtM (X:Cx) (id:String) (r:V->List V->Hp->VK->Prop):Prop :=
 ∀ (pins:List (Addr×Obj)) (s:Shared) (O:St) (H:Hp) (x:V) (xs:List V) (v:Value) (us:List Value) (Q:VK),Inv X pins O H s->RelV x v->Vals xs us->r x xs H Q ->
  wpAny (model X.prog X.w) X.A (call (.builtin id) (v::us)) (EP X pins O Q) X.xe s
theorem Vals.one:∀ {x:V} {us:List Value},Vals [x] us->∃ u,us=[u]/\RelV x u
 | _,_,.cons r .nil=>#[_,rfl,r]
theorem Vals.rep (h:Vals xs us):∀ k:Nat,Vals (List.replicate k xs).flatten (List.replicate k us).flatten
 | 0=>.nil
 | k+1=>by
  rw[List.replicate_succ,List.replicate_succ,List.flatten_cons,List.flatten_cons]
  exact Vals.append h (Vals.rep h k)
section
variable {X:Cx} {pins:List (Addr×Obj)} {O:St} {H:Hp} {s:Shared} {l b:Addr} {xs ys zs:List V}
theorem Inv.lset {its its':List Value} {n:Nat} {t':Nat} (I:Inv X pins O H s) (c:H l=some (.lst xs)) (e:s.heap.get? l=some { cls:=.type "list",data:=.seq its.toArray n }) (hf:f its.toArray=its'.toArray) (a:Vals ys its') (hz:ys.length<=sizeLine) :
  Inv X pins O (upd H l (.lst ys)) { s with heap:=s.heap.update l (Obj.mapSeq f),toks:=t' }:=by
 have q:=PySem.IsL.update e f
 rw[hf] at q
 refine I.write (x:=l) (e:=l) (by rw[c];exact trivial) (.inl rfl) (λd u b hu=>(Ge s.heap (Obj.mapSeq f) (Ne.symm b)).trans hu) #[_,q] ?_
 exact #[hz,its',_,a,q]
theorem Inv.lnew {t':Nat} (I:Inv X pins O H s) (a:Vals ys its) (hz:ys.length<=sizeLine) :
  Inv X pins O (upd H s.heap.objs.size (.lst ys)) { s with heap:=s.heap.push { cls:=.type "list",data:=.seq its.toArray },toks:=t' } :=
 I.laid (λ_ _ q=>Fy _ q) (FQ _) #[hz,its,0,a,FI _ rfl]
theorem Inv.fresh (I:Inv X pins O H s):H s.heap.objs.size=none:=I.hok.fresh (FQ _)
theorem Inv.lstM (I:Inv X pins O H s) (a:H l=some (.lst xs)):xs.length<=sizeLine/\∃ (its:List Value) (n:Nat),Vals xs its/\xs.length=its.length/\s.heap.get? l=some { cls:=.type "list",data:=.seq its.toArray n }:=by
 obtain ⟨z,its,n,r,e⟩:=I.hok l _ a
 exact #[z,its,n,r,r.length,e]
theorem yX {n:Nat} (h:n<=sizeLine):Builtin.List.listTooLong n=false:=by
 unfold Builtin.List.listTooLong
 exact FX (by omega)
end
section
variable {X:Cx}
def uA:V->List V->Hp->VK->Prop:=λx a H Q=>∃ l xs y,x=.ref l/\a=[y]/\H l=some (.lst xs)/\xs.length < sizeLine/\Q .non (upd H l (.lst (xs++[y])))
theorem vY:MtM X "list.append" uA:=by
 intro pins s O H x g v us Q I b d h
 obtain ⟨l,xs,y,rfl,rfl,a,hz,q⟩:=h
 cases b
 obtain ⟨u,rfl,c⟩:=d.one
 obtain ⟨z,its,n,r,f,e⟩:=I.lstM a
 refine call_meets F.slot_list_append #[_,e,rfl] F.entry_list_append (F.args_list_append_2 _ _) (PySem.list_append l its.toArray n u (by rw[FU];omega)) #[e,?_]
 refine #[.non,_,I.lset (its':=its++[u]) a e (by simp) (r.append (.cons c .nil)) ?_,rfl,q]
 rw[F2,List.length_singleton]
 lia
def ux:V->List V->Hp->VK->Prop:=λx a H Q=>∃ l b xs zs,x=.ref l/\a=[.ref b]/\H l=some (.lst xs)/\H b=some (.lst zs)/\xs.length+zs.length<=sizeLine/\Q .non (upd H l (.lst (xs++zs)))
theorem vW:MtM X "list.extend" ux:=by
 intro pins s O H x w v us Q I f o h
 obtain ⟨l,b,xs,zs,rfl,rfl,d,k,hz,q⟩:=h
 cases f
 obtain ⟨u,rfl,m⟩:=o.one
 cases m
 obtain ⟨z,its,n,r,t,e⟩:=I.lstM d
 obtain ⟨y,a,p,g,i,j⟩:=I.lstM k
 have hsz:its.toArray.size+a.toArray.size<=sizeLine:=by rw[FU,FU];omega
 have c:¬ (!its.toArray.isEmpty && Builtin.List.listTooLong (its.toArray.size+a.toArray.size))=true:=by
  rw[yX hsz,Bool.and_false]
  exact FR
 refine call_meets F.slot_list_extend #[_,e,rfl] F.entry_list_extend (F.args_list_extend_2 _ _)
  (AutoSeq1.list_extend_list_list_0 l its.toArray n b a.toArray p c (by rw[FU];omega) (by omega)) #[e,j,?_]
 refine #[.non,_,I.lset (its':=its++a) d e (by simp) (r.append g) ?_,rfl,q]
 rw[F2]
 lia
def Bd:R2:=λx y H Q=>∃ l b xs zs,x=.ref l/\y=.ref b/\H l=some (.lst xs)/\H b=some (.lst zs)/\xs.length+zs.length<=sizeLine/\∀ p,H p=none->Q (.ref p) (upd H p (.lst (xs++zs)))
theorem Ep:OpR X (binaryOp .Add) Bd:=by
 intro pins s O H x y v u Q I c d h
 obtain ⟨l,b,xs,zs,rfl,rfl,m,j,hz,q⟩:=h
 cases c
 cases d
 obtain ⟨z,its,n,r,o,e⟩:=I.lstM m
 obtain ⟨p,a,t,f,g,i⟩:=I.lstM j
 refine PySem.P.add_list e i ?_ (by rw[FU,FU];omega)
 have k:its.toArray++a.toArray=(its++a).toArray:=by simp
 rw[k]
 exact #[.ref _,_,I.lnew (t':=s.toks) (r.append f) (by rw[F2];omega),rfl,q _ I.fresh]
end
end L2
namespace Att
open PySem PySem.W PySem.Calls PyProof.Rows
theorem kX:∀ (ns:List Int) (c:List Value),WellAll P h c (ns.map WData.int)->IntsAre c ns:=by
 intro ns
 induction ns with
 | nil =>
  intro c w
  rw[List.map_nil] at w
  cases w
  exact .nil
 | cons n ns ih =>
  intro c w
  rw[FV] at w
  cases w with
  | cons a b =>
   cases a
   exact .cons _ _ (ih _ b)
theorem vF {l:OpenLaw} {n:Nat} (k:l.most=some n) (b:l.row.toRowW.claim.pre args=true) (f:WellAll P h vals args) :
  ∃ a i ns,vals=[Value.ref a]/\args=[WData.list (ns.map WData.int)]/\h.get? a=some { cls:=.type "list",data:=.seq i.toArray }/\IntsAre i ns/\ns.length<=n:=by
 have g:WShape.hasAll [] args [.list .int]=true:=(pre_splitW b).1
 have j:l.pre.holds [] { args:=args }=true:=(pre_splitW b).2
 obtain ⟨d,r,rfl,h1,h2⟩:=hasAllW_cons g
 obtain rfl:=hasAllW_nil h2
 obtain ⟨xs,rfl,h3⟩:=hasW_list h1
 obtain ⟨ns,rfl⟩:=items_int h3
 have hlen:ns.length<=n:=by
  unfold OpenLaw.pre at j
  have c:(WTm.not (.lt (.lit (.int (n:Int))) (.len (.arg 0)))).holds [] { args:=[.list (ns.map .int)] }=true:=by
   have c:=(holds_andW j).1
   rw[k] at c
   exact c
  have e:=condW_of c (w_not (w_lt w_lit (w_len_list (w_arg rfl))))
  rw[FJ] at e
  refine Nat.le_of_not_lt λq=>?_
  have m:(n:Int) < ((ns.length:Nat):Int):=by omega
  first
   | (rw[FW m] at e;exact absurd e (by decide))
   | (simp at e;omega)
 cases f with
 | cons w1 w2 =>
  cases w2
  cases w1 with
  | list ho hall=>exact #[_,_,ns,rfl,rfl,ho,kX ns _ hall,hlen]
theorem vO (l:OpenLaw) (args:List WData):l.row.toRowW.claim.post args (.bool true) args=true :=
 postW_of (r:=l.row.toRowW) (X:=(true == true))
  (show WShape.has [] (.bool true) .bool=true by first | rfl | decide | simp[WShape.has,WShape.arms,WShape.armsAll])
  (show (WTm.eq .res (.lit (.bool true))).value [] { args:=args,res:=some (.bool true),after:=args }=some (.bool (true == true)) from w_eq_bool (w_res rfl) w_lit) rfl
theorem attach_call {l:OpenLaw} {n:Nat} (A:l.most=some n) (m:d.params.defaults=[]) (call:∀ (w:World) (s₀ b:Shared) (mg mb:Str->Option Value) (e:Addr) (o:Obj) (pm cd doc:Value) (a:Addr) (c:List Value) (ns:List Int),
   Ground q loose [] XP w s₀ mg mb b.heap->YP w b.heap ->
   b.heap.get? e=some o->o.data=.func (docDef d.name d.params d.body d.scope pm cd doc)->b.heap.CodeRec cd d.name->mg d.name=some (.ref e) ->
   b.heap.get? a=some { cls:=.type "list",data:=.seq c.toArray }->IntsAre c ns->ns.length<=n->b.gens=(List.toArray []) ->
   codeAny (model l.prog w) callerA (.call (.ref e) #[[.ref a],[]]) (λr s'=>r=.ok (.ret (.bool true))/\OldK b.heap s'.heap/\s'.os=b.os/\AllBare s'.gens) b) :
  WalkO q loose XP YP l.row.toRowW d [] (λf c=>PySem.call f c):=by
 intro w s₀ b mg mb G τ e o pm cd doc u kV B hd i s k v args vals as g p x j t
 obtain rfl:u=.none:=Dflts.none s m
 obtain rfl:kV=.none:=Dflts.noKw s
 obtain ⟨a,c,ns,rfl,rfl,h,hints,hlen⟩:=vF A g j
 refine enter_call (codeAny_mono (call w s₀ b mg mb e o pm cd doc a c ns G τ B (fd_plain hd) i k h hints hlen v) λr s' y=>?_)
 obtain ⟨rfl,h2,h3,z⟩:=y
 exact #[.inl #[.bool true,.bool true,[],rfl,λ_=>rfl,.bool true,vO l _,λ_=>#[List.Pairwise.nil,λ_ hm=>(nomatch hm)]],h2,h3,z]
end Att
namespace L2
open PySem PySem.Spec PyProof.Rows
theorem m5:∀ {a:List Value} {ns:List Int},IntsAre a ns->Vals (ns.map V.int) a
 | _,_,.nil=>.nil
 | _,_,.cons n t h=>.cons #[t,rfl] (m5 h)
def Cd (H:Hp):Prop:=∀ b,H b=none\/∃ o xs,H b=some (.frz o (.lst xs))
theorem zo {K:FG} {k:Nat} (N:K.In s₁.heap) (j:s₁.heap.Ns mainGlobals mg) (f:s₁.heap.Ns builtinsNs mb) (C:∀ x:Str,x≠"__name__"->mb x=bootBuiltins x) (p:s₁.heap.NoLimit) (S:s₁.gens=(List.toArray [])) (B:s₁.heap.get? a=some { cls:=.type "list",data:=.seq vs.toArray }) (hi:IntsAre vs ns) (Q:ns.length<=sizeLine) (X:Room k callerA) (F:∀ base:Heap,K.In base->base.Ns mainGlobals mg->FnOk P w K mg base CX k fa fd [x] sp) (i:∀ (s:Shared) (u:Value),BindsTo s fd #[[u],[]] [(x,u)]) (J:∀ H:Hp,Cd H->SqL K H a (ns.map V.int)->sp [.ref a] H (λv _=>v=.bl true) λ_ _ _=>False) (I:∀ H e s',CX [] H s₁ (λ_ _ _=>False) e s'->False) :
  codeAny (model P w) callerA (.call (.ref fa) #[[.ref a],[]]) (λr s'=>r=.ok (.ret (.bool true))/\OldK s₁.heap s'.heap/\s'.os=s₁.os/\AllBare s'.gens) s₁:=by
 have σ:=m5 hi
 have lenV:=hi.length
 have core:∀ H:Hp,Cd H->SqL K H a (ns.map V.int)->HOk P w H s₁.heap->(∀ b,H b≠none->b=a)->(H a≠none->K.lookup a=none) ->
   codeAny (model P w) callerA (.call (.ref fa) #[[.ref a],[]]) (λr s'=>r=.ok (.ret (.bool true))/\OldK s₁.heap s'.heap/\s'.os=s₁.os/\AllBare s'.gens) s₁:=by
  intro H M hS hok L hK
  have c:∀ {b:Addr} {o:Obj},s₁.heap.get? b=some o->H b=none->(pg s₁.heap H).get? b=some o:=λe n=>zC e n
  have G:∀ {b:Addr} {o:Obj} {es:Array DictEntry} {y:Nat},s₁.heap.get? b=some o->o.data=.dict es y->H b=none:=λ{b o es y} e d=>by
   cases q:H b with
   | none=>rfl
   | some u =>
    have E:b=a:=L b (by rw[q];simp)
    subst E
    rw[B] at e;cases e
    have d':Data.seq vs.toArray _=Data.dict es y:=d
    cases d'
  have g:∀ {b:Addr} {m:Str->Option Value},s₁.heap.Ns b m->(pg s₁.heap H).Ns b m:=λ{b m} #[o,es,y,e,d,r]=>#[o,es,y,c e (G e d),d,r]
  have t:K.In (pg s₁.heap H):=λb o e=>c (N b o e) (by
   cases q:H b with
   | none=>rfl
   | some u =>
    have E:b=a:=L b (by rw[q];simp)
    subst E
    rw[hK (by rw[q];simp)] at e;cases e)
  have ρ:Mod K mg (pg s₁.heap H):=#[t,g j,#[mb,g f,C],let #[mc,h1,h2]:=p;#[mc,g h1,h2]]
  have φ:Env0 P w K mg (pg s₁.heap H) callerA [] s₁ H:=#[rfl,ρ,λb o e=>Bx e,Nat.le_of_eq (wu _ _),trivial,λb f=>absurd (show b∈([]:List Addr) from f) (by simp),hok,.of_eq S]
  refine codeAny_mono ((F _ t (g j)).run callerA [] s₁ H #[[.ref a],[]] [.ref a] [.ref a] _ _ X φ (i s₁ (.ref a)) (.cons rfl .nil) (J H M hS)) λr s' h=>?_
  cases r with
  | error e=>exact (I H e s' h).elim
  | ok fl =>
   cases fl with
   | next=>exact False.elim h
   | brk=>exact False.elim h
   | cont=>exact False.elim h
   | ret u =>
    obtain ⟨v,H',os,bare,un,A,T,q⟩:=h
    have W:v=.bl true:=q
    subst W
    obtain rfl:u=Value.bool true:=T
    refine #[rfl,OldK.of_keep λb o e=>?_,os,bare]
    cases q:H b with
    | none=>exact un.keep b o e q (by intro z;exact absurd (show b∈([]:List Addr) from z) (by simp)) (by simp)
    | some u =>
     rcases M b with z | ⟨ob,xs,z⟩
     .rw[q] at z;cases z
     .have R:=un.frzs b ob _ z
      obtain ⟨e1,_⟩:=hok b _ z
      obtain ⟨τ,_⟩:=A b _ R
      rw[e] at e1;cases e1
      exact τ
 cases D:K.lookup a with
 | some o =>
  have e:=N a o D
  rw[B] at e
  cases e
  refine core (λ_=>none) (λ_=>.inl rfl) (.inr #[_,vs.toArray,_,D,rfl,rfl,rfl,by rw[FU,lenV];exact Q,by simpa using σ]) (λb u z=>by have l:(none:Option HO)=some u:=z;cases l) (λb z=>absurd rfl z) λz=>absurd rfl z
 | none =>
  refine core (λb=>if b=a then some (.frz { cls:=.type "list",data:=.seq vs.toArray } (.lst (ns.map V.int))) else none) (λb=>?_) (.inl (.inr #[{ cls:=.type "list",data:=.seq vs.toArray },if_pos rfl])) (λb u z=>?_) (λb z=>?_) λ_=>D
  .by_cases f:b=a
   .exact .inr #[_,_,if_pos f]
   .exact .inl (if_neg f)
  .by_cases f:b=a
   .have l:=(if_pos f).symm.trans z
    cases l
    subst f
    exact #[B,by rw[FJ];exact Q,vs,_,σ,B]
   .have l:=(if_neg f).symm.trans z
    cases l
  .by_cases f:b=a
   .exact f
   .exact absurd (if_neg f) z
end L2
namespace L2
open PySem PySem.Spec PyProof.Rows
end L2
namespace L2
open PySem PySem.Spec PyProof.Rows
abbrev CX0:CXT:=λ_ _ _ _ _ _=>False
abbrev E0:XK:=λ_ _ _=>False
theorem pass0:tZ CX0 X E0:=λ_ _ _ _ _ _ _ h=>h.elim
structure Fun (K:FG) (x qual:Str) (st:Stmt) (f:Addr) (fd:FuncData):Prop where
 ex:∃ (oc:Value) (od:Option Addr) (kV doc pm:Value) (an:Option Addr) (cdv ct:Value) (osl:Array (Option Value)),
  fd=PySem.W.fnOf x qual (aQ st) (aI st) (ag st) .none kV doc pm an cdv ct/\K.lookup f=some #[oc,od,.func fd,osl]/\PySem.W.codeIn K cdv qual=true
 kp:PySem.W.keepIn K (.ref f)=true
section
variable {P:Program} {w:World} {K:FG} {mg:Str->Option Value} {base:Heap}
theorem Fun.ok {st:Stmt} {k:Nat} (F:Fun K x qual st f fd) (S:FnScope N ps (ag st)) (len:∀ b H Q E,sp b H Q E->b.length=ps.length) (c:∀ (a:Value) (A:Around) (outer:List Env) (s:Shared) (H:Hp) (b:List V) (Q:VK) (E:XK),Room k (A.deeper (envOfC qual (ag st) s.heap.objs.size f a))->sp b H Q E ->
   ∃ t,PSs (dD CX0 P w K mg base N qual (ag st) f a A outer s H E).nox (aI st) t/\t { nx:=λ_ H'=>Q .non H',rt:=Q } (fZ N b) H):FnOk P w K mg base CX0 (k+1) f fd ps sp:=by
 obtain ⟨oc,l,kV,doc,pm,an,a,ct,j,rfl,i,d⟩:=F.ex
 refine CH i d S len λA outer s H b Q E g e=>?_
 obtain ⟨t,h,q⟩:=c a A outer s H b Q E g e
 exact #[t,h.nox,q]
theorem Fun.binds {st:Stmt} (F:Fun K x qual st f fd) (h:∀ (kV doc pm:Value) (an:Option Addr) (a ct:Value) (us:List Value),us.length=ps.length->bindArgs (PySem.W.fnOf x qual (aQ st) (aI st) (ag st) .none kV doc pm an a ct) #[us,[]]=pure (ps.zip us)):Binds K fd ps []:=by
 obtain ⟨oc,d,kV,doc,pm,an,a,ct,c,rfl,e,b⟩:=F.ex
 exact .all (h kV doc pm an a ct)
theorem E3 {st:Stmt} {kV doc pm a ct:Value} (l:K.lookup f=some #[oc,od,.func (PySem.W.fnOf x qual (aQ st) (aI st) (ag st) .none kV doc pm an a ct),osl]) (c:PySem.W.codeIn K a qual=true) (k:PySem.W.keepIn K (.ref f)=true):Fun K x qual st f (PySem.W.fnOf x qual (aQ st) (aI st) (ag st) .none kV doc pm an a ct):=#[#[oc,od,kV,doc,pm,an,a,ct,osl,rfl,l,c],k]
end
theorem hu_of {k:Nat} (a:Room k A):A.units+1 < cLine:=Nat.lt_of_le_of_lt (Nat.add_le_add_left (by decide:1<=64) _) a.units
theorem vB {n:Nat} (h:n<=1000):n < sizeLine:=Nat.lt_of_le_of_lt h (by decide)
def Same (H H':Hp):Prop:=∀ b o,H b=some o->H' b=some o
theorem Same.refl (H:Hp):Same H H:=λ_ _ h=>h
theorem Same.trans (a:Same H H1) (b:Same H1 H2):Same H H2:=λc o h=>b c o (a c o h)
theorem Same.free (e:Same H H') (h:H' l=Option.none):H l=Option.none:=by
 cases q:H l with
 | none=>rfl
 | some o =>
  rw[e l o q] at h
  cases h
end L2
end
section
namespace L2
open PySem PySem.Spec PyProof.Rows
section
variable {prog:Program} {w:World} {A:Around} {E:Value->Shared->Prop} {s:Shared}
theorem p8 (ty:s.TypeIs (.ref d) "dict") (h:wpAny (model prog w) A.in1 (dictSet d k v) Q E s) :
  wpAny (model prog w) A (setItem (.ref d) k v) Q E s:=by
 unfold setItem
 refine Fu (Fs (wpAny_sequenceKey ty (by decide) (Fs (wpAny_callSpecial?_slot ty slot_dict_setitem (wpAny_call_entry slot_dict_setitem ty entry_dict_setitem ?_ (args_dict_setitem _ _ _))))))
 refine Fs (wpAny_notOrdered_dict ty ?_)
 refine (?_:wpAny _ _ (dictSet d k v >>= _) _ _ s)
 exact Fs (wpAny_mono h (λ_ _ z=>Ft #[_,rfl,Ft z]) λ_ _ z=>z)
theorem ng {c:Int} {b:Nat} {F:Option Nat->Prop} (a:s.heap.get? d=some o) (g:o.ExactDict) (hd:o.data=.dict es b) (hz:es.size<=sizeLine) (find:wpAny (model prog w) A (dictFind d key c) (λr s'=>s'=s/\F r) E s) (old:∀ i h' o',F (some i)->h'.get? d=some o'->o'.ExactDict->o'.data=.dict (es.modify i λe=>{ e with val:=v }) b->Heap.SameBut d s.heap h'->Q () { s with heap:=h' }) (new:∀ h' o',F none->h'.get? d=some o'->o'.ExactDict->o'.data=.dict (es.push #[c,key,v]) (b+1)->Heap.SameBut d s.heap h'->Q () { s with heap:=h' }) :
  wpAny (model prog w) A (dictSetHashed d key c v) Q E s:=by
 unfold dictSetHashed
 refine Fu (Fs (wpAny_mono find ?_ λ_ _ z=>z))
 rintro (_ | i) _ ⟨rfl,f⟩
 .exact Fs (wpAny_rule (wpAny_updateDictKeys (hz:=hz) a hd (new _ _ f (F1 _ a (Obj.isFreed_of_dict (Obj.data_mapDictKeys hd _))) (g.mapDictKeys _) (Obj.data_mapDictKeys hd _) (Heap.SameBut.update ..))))
 .exact Fs (wpAny_rule (Fs (wpAny_updateDict a hd (wpAny_point (old i _ _ f (F1 _ a (Obj.isFreed_of_dict (Obj.data_mapDict hd _))) (g.mapDict _) (Obj.data_mapDict hd _) (Heap.SameBut.update ..))))))
end
section
variable {prog:Program} {w:World} {K:Type} [DecidableEq K] {A:Around} {E:Value->Shared->Prop} {s:Shared} {d:Addr} {k:K}
section
variable {knd:HeapKind prog w K}
def DictOfHE (knd:HeapKind prog w K) (h:Heap) (d:Addr) (xs:List (K×Addr×Value)):Prop :=
 ∃ o es a,h.get? d=some o/\o.ExactDict/\o.data=.dict es a/\es.toList=xs.map (entryOfKey knd)/\(∀ x∈xs,knd.is h x.1 x.2.1)/\(xs.map (·.1)).Nodup/\a=es.size
theorem DictOfHE.of (x:DictOfHE knd h d xs):h.DictOfH knd d xs:=let #[o,es,a,h1,h2,h3,b,e,c,_]:=x;#[o,es,a,h1,h2,h3,b,e,c]
theorem vV {y:Addr×Value} (a:(xs.map (·.1)).Nodup) (h:k ∉ xs.map (·.1)):((xs++[(k,y)]).map (·.1)).Nodup:=by
 rw[List.map_append]
 exact List.nodup_append.mpr #[a,List.nodup_cons.mpr #[List.not_mem_nil,List.nodup_nil],λx b y c e=>h (by have:=F9.mp c;subst this;exact e ▸ b)]
theorem i5 (hu:knd.room A) (b:knd.is s.heap k a) (hm:DictOfHE knd s.heap d xs) (n:∀ h',DictOfHE knd h' d (storedH xs k a v)->Heap.SameBut d s.heap h'->Q () { s with heap:=h',toks:=s.toks+knd.draws k }) (hsz:xs.length<=sizeLine:=by size_fits):wpAny (model prog w) A (dictSet d (.ref a) v) Q E s:=by
 obtain ⟨o,es,t,m,q,hd,he,g,l,rfl⟩:=hm
 unfold dictSet
 refine Fu (Fs (knd.pyHash hu b ?_))
 refine ng (s:={ s with toks:=s.toks+knd.draws k }) (F:=λ| none=>∀ (j:Nat) (p:Addr×Value),xs[j]?≠some (k,p) | some j=>∃ p,xs[j]?=some (k,p)) m q hd (size_of_entries he ▸ hsz)
  (wpAny_dictFind_heap (s:={ s with toks:=s.toks+knd.draws k }) hu b m hd he g l (λz=>#[rfl,z]) λj p z=>#[rfl,p,z]) ?_ ?_
 .rintro i h' o' ⟨p,f⟩ g1 g2 g3 h
  have at':=storedH_old (atKey_of_get l f) a v
  refine n h' #[o',_,_,g1,g2,g3,?_,?_,?_,?_] h <;> try rw[at']
  .rw[Array.toList_modify,he]
   exact modify_map_putAt (entryOfKey knd) _ k v (λ_ _=>rfl) l f
  .intro x c
   obtain ⟨y,r,rfl⟩:=FO.mp c
   have:=knd.keeps (g y r) m hd h
   by_cases e:y.1=k <;> simpa[putAt,e] using this
  .exact (keys_map_putAt xs k v).symm ▸ l
  .exact (Array.size_modify).symm
 .intro h' o' f g1 g2 g3 h
  have at':=storedH_new (atKey_none_of_get f) a v
  refine n h' #[o',_,_,g1,g2,g3,?_,?_,?_,?_] h <;> try rw[at']
  .simp[he,entryOfKey]
  .intro x c
   rcases FH.mp c with c | c
   .exact knd.keeps (g x c) m hd h
   .cases F9.mp c;exact knd.keeps b m hd h
  .exact vV l (not_mem_keys_of_get f)
  .simp
theorem mM (hu:knd.room A.in1) (b:knd.is s.heap k a) (hm:DictOfHE knd s.heap d xs) (c:∀ h',DictOfHE knd h' d (storedH xs k a v)->Heap.SameBut d s.heap h'->Q () { s with heap:=h',toks:=s.toks+knd.draws k }) (hsz:xs.length<=sizeLine:=by size_fits):wpAny (model prog w) A (setItem (.ref d) (.ref a) v) Q E s :=
 p8 hm.of.typeIs (i5 (hsz:=hsz) hu b hm c)
end
section
variable {knd:KeyKind prog w K} {key:Value}
theorem iu (a:knd.is k key=true) (hm:DictOfE knd s.heap d kvs) (l:∀ h',DictOfE knd h' d (stored kvs k v)->Heap.SameBut d s.heap h'->Q () { s with heap:=h',toks:=s.toks+1 }) (hsz:kvs.length<=sizeLine:=by size_fits):wpAny (model prog w) A (dictSet d key v) Q E s:=by
 obtain ⟨o,⟨es⟩,t,m,p,hd,h,b,j,rfl⟩:=hm
 have same:=b.findIdx k
 have hz:(#[es]:Array DictEntry).size<=sizeLine:=by have:=b.length;simp at this ⊢;omega
 unfold dictSet
 refine Fu (Fs (knd.pyHash a ?_))
 refine ng (s:={ s with toks:=s.toks+1 }) (F:=λr=>es.findIdx? (λe=>knd.is k e.key)=r) m p hd hz
  (wpAny_dictFind_of (s:={ s with toks:=s.toks+1 }) a m hd h #[rfl,by simp]) ?_ ?_
 .intro i h' o' f g1 g2 g3 g
  have at':stored kvs k v=_:=if_pos (any_of_findIdx_some (same.symm.trans f))
  refine l h' #[o',_,_,g1,g2,g3,h.modify _ _,?_,?_,(Array.size_modify).symm] g <;> rw[at']
  .simpa using b.modify j f v
  .exact (keys_map_store kvs k v).symm ▸ j
 .intro h' o' f g1 g2 g3 g
  have no:=not_mem_of_findIdx_none (same.symm.trans f)
  have at':stored kvs k v=_:=if_neg λz=>by
   obtain ⟨x,c,e⟩:=List.any_eq_true.mp z
   exact no (FO.mpr #[x,c,of_decide_eq_true e])
  refine l h' #[o',_,_,g1,g2,g3,h.push a _,?_,?_,by simp] g <;> rw[at']
  .simpa using b.append a (knd.hash k) v
  .rw[List.map_append]
   exact List.nodup_append.mpr #[j,List.nodup_cons.mpr #[List.not_mem_nil,List.nodup_nil],λx c y q e=>no (by cases F9.mp q;have n:x=k:=e;exact n ▸ c)]
theorem lG (a:knd.is k key=true) (hm:DictOfE knd s.heap d kvs) (b:∀ h',DictOfE knd h' d (stored kvs k v)->Heap.SameBut d s.heap h'->Q () { s with heap:=h',toks:=s.toks+1 }) (hsz:kvs.length<=sizeLine:=by size_fits):wpAny (model prog w) A (setItem (.ref d) key v) Q E s :=
 p8 hm.of.typeIs (iu (hsz:=hsz) a hm b)
end
end
section
variable {κ:Type} [DecidableEq κ]
def kR (kvs:List (κ×V)) (k:κ):Option V:=(kvs.find? λa=>decide (a.1=k)).map (·.2)
def fK (kvs:List (κ×V)) (k:κ) (v:V):List (κ×V) :=
 if (kvs.any λa=>decide (a.1=k))=true then kvs.map (λa=>if a.1=k then (a.1,v) else a) else kvs++[(k,v)]
theorem jj {p:κ×V} {k:κ} (e:p.1=k):kR (p::r) k=some p.2:=by simp[kR,List.find?_cons,e]
theorem jl {p:κ×V} {k:κ} (e:¬ p.1=k):kR (p::r) k=kR r k:=by simp[kR,List.find?_cons,e]
theorem p4 (k:κ):∀ kvs:List (κ×V),(kvs.any λa=>decide (a.1=k))=(kR kvs k).isSome
 | []=>rfl
 | p::r=>by
  rw[List.any_cons]
  by_cases e:p.1=k
  .simp only[jj e,FW e,Bool.true_or,Option.isSome_some]
  .rw[jl e,FX e,Bool.false_or];exact p4 k r
theorem kK (kvs:List (κ×V)) (k:κ) (v:V):(fK kvs k v).length<=kvs.length+1:=by
 unfold fK
 split
 .rw[FJ];omega
 .rw[F2,F5,List.length_nil];omega
theorem RelO.isSome_eq (r:RelO o u):o.isSome=u.isSome:=by
 cases o with
 | none=>cases u with
  | none=>rfl
  | some _=>exact (show False from r).elim
 | some _=>cases u with
  | none=>exact (show False from r).elim
  | some _=>rfl
theorem RelO.getD (r:RelO o u) (a:RelV d d'):RelV (o.getD d) (u.getD d'):=by
 cases o with
 | none=>cases u with
  | none=>exact a
  | some _=>exact (show False from r).elim
 | some _=>cases u with
  | none=>exact (show False from r).elim
  | some _=>exact r
theorem KV.val (r:KV kvs vs) (k:κ):RelO (kR kvs k) (valueAt vs k):=by
 unfold KV at r
 induction r with
 | nil=>exact True.intro
 | @cons p q ps qs h t ih =>
  obtain ⟨h1,h2⟩:=h
  by_cases e:p.1=k
  .have a:q.1=k:=h1.symm.trans e
   have b:valueAt (q::qs) k=some q.2:=by simp[valueAt,List.find?_cons,a]
   rw[jj e,b];exact h2
  .have a:¬ q.1=k:=λz=>e (h1.trans z)
   have b:valueAt (q::qs) k=valueAt qs k:=by simp[valueAt,List.find?_cons,a]
   rw[jl e,b];exact ih
theorem KV.any (r:KV kvs vs) (k:κ):(kvs.any λa=>decide (a.1=k))=vs.any λa=>decide (a.1=k):=by
 unfold KV at r
 induction r with
 | nil=>rfl
 | cons h t ih=>rw[List.any_cons,List.any_cons,ih,h.1]
theorem KV.repl (r:KV kvs vs) (k:κ) (b:RelV y u) :
  KV (kvs.map λa=>if a.1=k then (a.1,y) else a) (vs.map λa=>if a.1=k then (a.1,u) else a):=by
 unfold KV at r ⊢
 induction r with
 | nil=>exact .nil
 | @cons p q ps qs h t ih =>
  rw[FV,FV]
  refine .cons ?_ ih
  obtain ⟨h1,h2⟩:=h
  by_cases e:p.1=k
  .rw[if_pos e,if_pos (h1.symm.trans e)];exact #[h1,b]
  .rw[if_neg e,if_neg (λz=>e (h1.trans z))];exact #[h1,h2]
theorem KV.put (r:KV kvs vs) (k:κ) (a:RelV y u):KV (fK kvs k y) (stored vs k u):=by
 unfold fK stored
 rw[r.any k]
 by_cases e:(vs.any λb=>decide (b.1=k))=true
 .rw[if_pos e,if_pos e];exact r.repl k a
 .rw[if_neg e,if_neg e];exact Paired.snoc r #[rfl,a]
theorem KV.length {kvs:List (κ×V)} (r:KV kvs vs):kvs.length=vs.length:=Paired.length r
end
theorem uP (r:RelV (kV k) u):(bT P w).is k u=true:=by
 cases k with
 | inl i=>obtain ⟨t,e⟩:=(show ∃ t,u=Value.int i t from r);subst e;exact qH P w i t
 | inr x=>obtain ⟨t,e⟩:=(show ∃ t,u=Value.str x t from r);subst e;exact qG P w x t
theorem nV:∀ {ks:List Key} {us:List Value},Vals (ks.map kV) us->ItemsAre (bT P w) ks us
 | [],_,r=>by rw[List.map_nil] at r;cases r;exact .nil
 | k::ks,_,r=>by
  rw[FV] at r
  cases r with
  | cons h t=>exact .cons (uP h) (nV t)
abbrev KT (H:Hp):List (List Key×V)->List (List Key×Addr×Value)->Prop:=Paired λp q=>p.1=q.1/\H q.2.1=some (.tup (p.1.map kV))/\RelV p.2 q.2.2
theorem KT.val (r:KT H kvs xs) (k:List Key):RelO (kR kvs k) ((atKey xs k).map (·.2)):=by
 induction r with
 | nil=>exact True.intro
 | @cons p q ps qs h t ih =>
  obtain ⟨h1,_,h2⟩:=h
  by_cases e:p.1=k
  .have a:q.1=k:=h1.symm.trans e
   have b:atKey (q::qs) k=some q.2:=by simp[atKey,List.find?_cons,a]
   rw[jj e,b];exact h2
  .have a:¬ q.1=k:=λz=>e (h1.trans z)
   have b:atKey (q::qs) k=atKey qs k:=by simp[atKey,List.find?_cons,a]
   rw[jl e,b];exact ih
theorem KT.repl (r:KT H kvs xs) (k:List Key) (b:RelV y u) :
  KT H (kvs.map λa=>if a.1=k then (a.1,y) else a) (xs.map (putAt k u)):=by
 induction r with
 | nil=>exact .nil
 | @cons p q ps qs h t ih =>
  rw[FV,FV]
  refine .cons ?_ ih
  obtain ⟨h1,h2,h3⟩:=h
  unfold putAt
  by_cases e:p.1=k
  .rw[if_pos e,if_pos (h1.symm.trans e)];exact #[h1,h2,b]
  .rw[if_neg e,if_neg (λz=>e (h1.trans z))];exact #[h1,h2,h3]
theorem KT.put (r:KT H kvs xs) (k:List Key) (d:H b=some (.tup (k.map kV))) (a:RelV y u) :
  KT H (fK kvs k y) (storedH xs k b u):=by
 have e:(kvs.any λc=>decide (c.1=k))=(atKey xs k).isSome:=by
  rw[p4,(r.val k).isSome_eq,Option.isSome_map]
 unfold fK storedH
 rw[e]
 by_cases q:(atKey xs k).isSome=true
 .rw[if_pos q,if_pos q];exact r.repl k a
 .rw[if_neg q,if_neg q];exact Paired.snoc r #[rfl,d,a]
theorem KT.keeps (r:KT H kvs xs) (a:∀ b ys,H b=some (.tup ys)->H' b=some (.tup ys)):KT H' kvs xs :=
 Paired.mapP r λ_ _ z=>#[z.1,a _ _ z.2.1,z.2.2]
section
variable {P:Program} {w:World} {H:Hp} {h:Heap} {a:Addr}
theorem Cn (ok:HOk P w H h) (e:Rd H a u):ObjOk P w H h a u:=e.ok ok
theorem tf (ok:HOk P w H h) (e:Rd H a (.dK kvs)):kvs.length<=sizeLine/\(a == sysModules)=false/\∃ b,KV kvs b/\DictOfE (bT P w) h a b :=
 show ObjOk P w H h a (.dK kvs) from Cn ok e
theorem CJ (ok:HOk P w H h) (e:Rd H a (.dK kvs)):kvs.length<=sizeLine/\(a == sysModules)=false/\∃ b,KV kvs b/\h.DictOf (bT P w) a b:=let #[z,y,b,r,d]:=tf ok e;#[z,y,b,r,d.of]
theorem o8 (ok:HOk P w H h) (e:H a=some (.tup (ks.map kV))):(tupleKind (bT P w)).is h ks a:=by
 obtain ⟨_,its,r,o,h1,h2,n,h3⟩:=(show ObjOk P w H h a (.tup (ks.map kV)) from ok a _ e)
 exact #[o,its.toArray,n,h1,h2,congrArg Prod.fst h3,by simpa using nV r]
theorem td (ok:HOk P w H h) (e:Rd H a (.dT kvs)):kvs.length<=sizeLine/\(a == sysModules)=false /\
  ∃ xs,KT H kvs xs/\DictOfHE (tupleKind (bT P w)) h a xs:=by
 obtain ⟨z,y,xs,r,o,es,c,h1,h2,h3,d,f⟩:=(show ObjOk P w H h a (.dT kvs) from Cn ok e)
 refine #[z,y,xs,r,o,es,c,h1,h2,h3,d,λx b=>?_,f]
 have all:∀ {l:List (List Key×V)} {m:List (List Key×Addr×Value)},KT H l m->∀ x∈m,(tupleKind (bT P w)).is h x.1 x.2.1:=by
  intro l m q
  induction q with
  | nil=>intro x b;exact nomatch b
  | @cons p q ps qs hq t ih =>
   intro x b
   rcases FD.mp b with e | b
   .subst e
    exact o8 ok (by rw[<- hq.1];exact hq.2.1)
   .exact ih x b
 exact all r x b
theorem CI (ok:HOk P w H h) (e:Rd H a (.dT kvs)):kvs.length<=sizeLine/\(a == sysModules)=false /\
  ∃ xs,KT H kvs xs/\h.DictOfH (tupleKind (bT P w)) a xs:=let #[z,y,xs,r,d]:=td ok e;#[z,y,xs,r,d.of]
end
def DGet (H:Hp) (a:Addr) (y:V) (r:Option V):Prop :=
 (∃ kvs k,Rd H a (.dK kvs)/\y=kV k/\r=kR kvs k)\/∃ kvs k b,Rd H a (.dT kvs)/\y=.ref b/\H b=some (.tup (k.map kV))/\r=kR kvs k
def DPut (H:Hp) (a:Addr) (y v:V) (H':Hp):Prop :=
 (∃ kvs k,H a=some (.dK kvs)/\y=kV k/\kvs.length < sizeLine/\H'=upd H a (.dK (fK kvs k v))) \/
 ∃ kvs k b,H a=some (.dT kvs)/\y=.ref b/\H b=some (.tup (k.map kV))/\kvs.length < sizeLine/\H'=upd H a (.dT (fK kvs k v))
theorem DGet.t (e:H a=some (.dT kvs)) (c:H b=some (.tup (k.map kV))):DGet H a (.ref b) (kR kvs k):=.inr #[kvs,k,b,.inl e,rfl,c,rfl]
theorem DPut.t (e:H a=some (.dT kvs)) (d:H b=some (.tup (k.map kV))) (c:kvs.length < sizeLine) :
  DPut H a (.ref b) v (upd H a (.dT (fK kvs k v))):=.inr #[kvs,k,b,e,rfl,d,c,rfl]
section
variable {X:Cx} {pins:List (Addr×Obj)} {O:St} {H:Hp} {s:Shared} {a:Addr} {y v:V} {u r:Value} {o:Option V} {A:Around} {E:Value->Shared->Prop}
theorem Inv.big (I:Inv X pins O H s):sysModules < s.heap.objs.size:=by
 have h:mainGlobals < s.heap.objs.size:=(I.mod.glob.keeps I.bk).lt
 exact Nat.lt_trans (by decide) h
theorem wG (hu:A.units+1 < cLine) (I:Inv X pins O H s) (g:DGet H a y (some v)) (j:RelV y u) (h:∀ d s',Inv X pins O H s'->RelV v d->Q d s') :
  wpAny (model X.prog X.w) A (getItem (.ref a) u) Q E s:=by
 rcases g with ⟨kvs,k,e,f,l⟩ | ⟨kvs,k,b,e,f,q,l⟩
 .subst f
  obtain ⟨z,hd,n,rel,dd⟩:=CJ I.hok e
  obtain ⟨d,hw,c⟩:=RelO.some_of (v:=v) (o:=valueAt n k) (by rw[l];exact rel.val k)
  exact wpAny_getItem_of (uP j) dd.mapOf hw (h d _ (I.tok _) c)
 .subst f
  cases (show u=Value.ref b from j)
  obtain ⟨z,hd,xs,rel,dd⟩:=CI I.hok e
  obtain ⟨d,hw,c⟩:=RelO.some_of (v:=v) (o:=(atKey xs k).map (·.2)) (by rw[l];exact rel.val k)
  obtain ⟨p,m,i⟩:=Fz.mp hw
  refine wpAny_getItem_heap (tupleKind_room_in1 hu) (o8 I.hok q) dd m ?_
  rw[i]
  exact h d _ (I.tok _) c
theorem lp {t':Nat} (I:Inv X pins O H s) (f:Mut (H a)) (c:Heap.SameBut a s.heap h') (he:∃ q,h'.get? a=some q) (new:ObjOk X.prog X.w (upd H a ob) h' a ob) :
  Inv X pins O (upd H a ob) { s with heap:=h',toks:=t' } :=
 I.write (x:=a) (e:=a) f (.inl rfl) (λb q d z=>(c.2 b d).trans z) he new
theorem zQ (z:kvs.length<=sizeLine) (hd:(a == sysModules)=false) (rel:KV kvs vs) (dd:DictOfE (bT P w) h' a vs) :
  ObjOk P w H' h' a (.dK kvs):=#[z,hd,vs,rel,dd]
theorem wF (hu:A.units+1 < cLine) (I:Inv X pins O H s) (g:DPut H a y v H') (x:RelV y u) (t:RelV v r) (h:∀ s',Inv X pins O H' s'->Q () s') :
  wpAny (model X.prog X.w) A (setItem (.ref a) u r) Q E s:=by
 rcases g with ⟨kvs,k,e,m,l,i⟩ | ⟨kvs,k,b,e,m,p,l,i⟩
 .subst m i
  obtain ⟨z,hd,D,rel,dd⟩:=tf I.hok (.inl e)
  have hz:D.length<=sizeLine:=by rw[<- rel.length];exact z
  have n:(fK kvs k v).length<=sizeLine:=by have:=kK kvs k v;omega
  refine lG (hsz:=hz) (uP x) dd λh' d j=>h _ ?_
  have he:∃ q,h'.get? a=some q:=let #[q,_,_,f,_]:=d;#[q,f]
  exact lp I (by rw[e];exact True.intro) j he (zQ n hd (rel.put k t) d)
 .subst m i
  cases (show u=Value.ref b from x)
  obtain ⟨z,hd,xs,rel,dd⟩:=td I.hok (.inl e)
  have hz:xs.length<=sizeLine:=by rw[<- Paired.length rel];exact z
  have n:(fK kvs k v).length<=sizeLine:=by have:=kK kvs k v;omega
  refine mM (hsz:=hz) (tupleKind_room_in1 hu) (o8 I.hok p) dd λh' d j=>h _ ?_
  obtain ⟨q,es,C,f,h2,h3,F,_,B⟩:=d
  refine lp I (by rw[e];exact True.intro) j #[q,f] #[n,hd,_,(rel.put k p t).keeps λc ys o=>?_,q,es,C,f,h2,h3,F,B]
  rw[aw (Cv o e (λz=>nomatch z))]
  exact o
end
theorem re (I:Inv X pins O H s) (g:DGet H a y o):s.TypeIs (.ref a) "dict":=by
 rcases g with ⟨kvs,k,e,_,_⟩ | ⟨kvs,k,b,e,_,_,_⟩
 .obtain ⟨_,_,c,_,dd⟩:=CJ I.hok e
  exact dd.typeIs
 .obtain ⟨_,_,xs,_,dd⟩:=CI I.hok e
  exact dd.typeIs
theorem zR (h:Heap) (a:sysModules < h.objs.size):ObjOk P w H (h.push { cls:=.type "dict",data:=.dict (List.toArray []) }) h.objs.size (.dK []) :=
 #[Nat.zero_le _,beq_eq_false_iff_ne.mpr (Ne.symm (FT a)),[],.nil,_,(List.toArray []),0,FI _ rfl,#[rfl,rfl,rfl],rfl,(λ_ h=>by simp at h),.nil,List.nodup_nil,rfl]
theorem q9 (h:Heap) (a:sysModules < h.objs.size):ObjOk P w H (h.push { cls:=.type "dict",data:=.dict (List.toArray []) }) h.objs.size (.dT []) :=
 #[Nat.zero_le _,beq_eq_false_iff_ne.mpr (Ne.symm (FT a)),[],.nil,_,(List.toArray []),0,FI _ rfl,#[rfl,rfl,rfl],rfl,rfl,List.nodup_nil,rfl]
def Df:TE:=λ_ H Q=>∀ p,H p=none->Q (.ref p) (upd H p (.dT []))
section
variable {X:Cx} {pos:Pos}
theorem yM:PE X (.Dict [] [] pos) Df:=λpins s O H Q I h =>
 wpAny_Dict_empty #[.ref s.heap.objs.size,_,I.laid (a:=s.heap.objs.size) (o:=.dT []) (t':=s.toks) (λ_ _ q=>Fy _ q) (FQ _) (q9 s.heap I.big),rfl,h _ (I.hok.fresh (FQ _))]
end
end L2
namespace L2
open PySem PySem.Spec PyProof.Rows
end L2
end
section
namespace L2
open PySem PySem.Spec PyProof.Rows
def kZ (cells:List (Str×Addr)) (cs:List (Str×Addr)) (x:Str×NameKind):List (Str×Addr) :=
 if x.2 == .free then (match cells.lookup x.1 with | some c=>(x.1,c)::cs | none=>cs) else cs
def clo (cells:List (Str×Addr)) (names:List (Str×NameKind)):List (Str×Addr):=names.foldl (kZ cells) []
theorem my {α β:Type} {f:α->β->Sem (ForInStep β)} {g:β->α->β}:∀ {l:List α} {c:β},(∀ x∈l,∀ c,f x c=pure (.yield (g c x)))->forIn l c f=pure (l.foldl g c)
 | [],c,_=>rfl
 | x::l,c,h=>by
  rw[List.forIn_cons,h x Fv,pure_bind]
  exact my λy a=>h y (Fw _ a)
theorem iA (h:∀ x∈scope.names,x.2=.free->∃ c,env.cells.lookup x.1=some c):closureFor scope env=pure (clo env.cells scope.names):=by
 simp only[closureFor]
 rw[my (g:=kZ env.cells) (λx f c=>by
  obtain ⟨n,kind⟩:=x
  unfold kZ
  by_cases b:kind=.free
  .subst b
   obtain ⟨a,e⟩:=h _ f rfl
   have i:env.cells.lookup n=some a:=e
   simp[cellOf,i]
  .have d:(kind == NameKind.free)=false:=by simpa using b
   simp[d])]
 rfl
theorem nZ:∀ {l:List (Str×NameKind)} {cs:List (Str×Addr)},(∀ y d,cs.lookup y=some d->cells.lookup y=some d)->(l.foldl (kZ cells) cs).lookup x=some c->cells.lookup x=some c
 | [],cs,h,e=>h x c e
 | y::l,cs,h,e=>by
  refine nZ (l:=l) (cs:=kZ cells cs y) (λz d q=>?_) e
  unfold kZ at q
  split at q
  .cases b:cells.lookup y.1 with
   | none=>rw[b] at q;exact h z d q
   | some a =>
    rw[b] at q
    simp only[List.lookup_cons] at q
    cases hz:z == y.1 with
    | true=>rw[hz] at q;have:=eq_of_beq hz;subst this;rw[b];exact q
    | false=>rw[hz] at q;exact h z d q
  .exact h z d q
theorem pD (e:(clo cells l).lookup x=some c):cells.lookup x=some c:=nZ (λ_ _ q=>by simp at q) e
theorem mz (d:cells.lookup x=some c):∀ {l:List (Str×NameKind)} {cs:List (Str×Addr)},cs.lookup x=some c->(l.foldl (kZ cells) cs).lookup x=some c
 | [],_,e=>e
 | y::l,cs,e=>by
  refine mz d (l:=l) (cs:=kZ cells cs y) ?_
  unfold kZ
  split
  .cases b:cells.lookup y.1 with
   | none=>exact e
   | some a =>
    simp only[List.lookup_cons]
    cases hz:x == y.1 with
    | true=>have:=eq_of_beq hz;subst this;rw[d] at b;exact b.symm
    | false=>exact e
  .exact e
theorem n5 (a:cells.lookup x=some c):∀ {l:List (Str×NameKind)} {cs:List (Str×Addr)},(x,NameKind.free)∈l->(l.foldl (kZ cells) cs).lookup x=some c
 | [],_,m=>by simp at m
 | y::l,cs,m=>by
  rcases FD.mp m with rfl | m
  .refine mz a (l:=l) ?_
   simp[kZ,a]
  .exact n5 a (l:=l) (cs:=kZ cells cs y) m
theorem u8 (a:cells.lookup x=some c) (m:(x,NameKind.free)∈l):(clo cells l).lookup x=some c:=n5 a m
theorem jz {env:Env}:∀ {names:List (Str×NameKind)} {x:Str},names.lookup x=some .free ->
  (names.map λ(n,k)=>if (k == NameKind.free && env.scope.kind == .function && env.kindOf n == some .cell) then (n,NameKind.cell) else (n,k)).lookup x=some .cell \/
  (names.map λ(n,k)=>if (k == NameKind.free && env.scope.kind == .function && env.kindOf n == some .cell) then (n,NameKind.cell) else (n,k)).lookup x=some .free
 | [],_,h=>by simp at h
 | (n,k)::r,x,h=>by
  have b:=@jz env r x
  show List.lookup x ((if (k == NameKind.free && env.scope.kind == .function && env.kindOf n == some .cell)=true then (n,NameKind.cell) else (n,k))::_)=_ \/
   List.lookup x ((if (k == NameKind.free && env.scope.kind == .function && env.kindOf n == some .cell)=true then (n,NameKind.cell) else (n,k))::_)=_
  cases a:x == n with
  | true =>
   simp only[List.lookup_cons,a] at h
   cases h
   split
   .left;simp[List.lookup_cons,a]
   .right;simp[List.lookup_cons,a]
  | false =>
   simp only[List.lookup_cons,a] at h
   split
   .simp only[List.lookup_cons,a];exact b h
   .simp only[List.lookup_cons,a];exact b h
theorem lQ {env:Env}:∀ {names:List (Str×NameKind)} {x:Str},(∀ y∈names,y.2≠.cell) ->
  ((names.map λ(n,k)=>if (k == NameKind.free && env.scope.kind == .function && env.kindOf n == some .cell) then (n,NameKind.cell) else (n,k)).lookup x=some .cell \/
  (names.map λ(n,k)=>if (k == NameKind.free && env.scope.kind == .function && env.kindOf n == some .cell) then (n,NameKind.cell) else (n,k)).lookup x=some .free)->(x,NameKind.free)∈names
 | [],_,_,h=>by simp at h
 | (n,k)::r,x,hc,h=>by
  have c:=@lQ env r x (λy f=>hc y (Fw _ f))
  have b:=hc (n,k) Fv
  have h':List.lookup x ((if (k == NameKind.free && env.scope.kind == .function && env.kindOf n == some .cell)=true then (n,NameKind.cell) else (n,k))::(r.map λ(n,k)=>if (k == NameKind.free && env.scope.kind == .function && env.kindOf n == some .cell) then (n,NameKind.cell) else (n,k)))=some .cell \/
   List.lookup x ((if (k == NameKind.free && env.scope.kind == .function && env.kindOf n == some .cell)=true then (n,NameKind.cell) else (n,k))::(r.map λ(n,k)=>if (k == NameKind.free && env.scope.kind == .function && env.kindOf n == some .cell) then (n,NameKind.cell) else (n,k)))=some .free:=h
  cases a:x == n with
  | true =>
   have e:=eq_of_beq a
   subst e
   by_cases hf:k=.free
   .subst hf;exact Fv
   .exfalso
    have d:(k == NameKind.free)=false:=by simpa using hf
    simp[d,List.lookup_cons] at h'
    rcases h' with q | q
    .exact b q
    .exact hf q
  | false =>
   refine Fw _ (c ?_)
   split at h'
   .simpa only [List.lookup_cons,a] using h'
   .simpa only [List.lookup_cons,a] using h'
def aR (X:Cx) (NY:List Str) (scope:Scope) (s:Shared) (H:Hp) (C:Addr) (fp:List Addr):Cx where
 prog:=X.prog
 w:=X.w
 K:=X.K
 mg:=X.mg
 base:=X.base
 A:=X.A
 N:=NY
 s₀:=s
 H₀:=H
 env:=compEnvC scope (clo X.env.cells scope.names) C X.env
 outer:=X.stack
 stack:=X.stack
 ex:=fp
 fn:=λ_=>false
 calm:=X.calm
 pn:=[]
 xe:=λ_ _=>False
def cap (ix:List (Option Nat)) (O:St):St:=ix.map λo=>match o with | some i=>(O[i]?).getD none | none=>none
def iw (sc:Scope) (b:List Str) (a:Scope) (NY:List Str) (ix:List (Option Nat)):Bool :=
 sc.kind == .function && sc.names.all (λy=>y.2 != .cell) && sc.names.all (λy=>y.2 != .local || sc.names.lookup y.1 == some .local) && sc.names.all (λy=>y.2 != .free || sc.names.lookup y.1 == some .free)
  && sc.names.all (λy=>y.2 != .free || (a.names.lookup y.1 == some .cell || a.names.lookup y.1 == some .free))
  && ix.length == NY.length && (NY.zip ix).all λp=>match p.2 with | none=>true | some i=>(b[i]? == some p.1) && sc.names.contains (p.1,NameKind.free)
structure CompOk (sc:Scope) (XN:List Str) (Xsc:Scope) (NY:List Str) (ix:List (Option Nat)):Prop where
 kind:sc.kind=.function
 nocell:∀ y∈sc.names,y.2≠.cell
 loc:∀ y∈sc.names,y.2=.local->sc.names.lookup y.1=some .local
 fre:∀ y∈sc.names,y.2=.free->sc.names.lookup y.1=some .free
 out:∀ y∈sc.names,y.2=.free->Xsc.names.lookup y.1=some .cell\/Xsc.names.lookup y.1=some .free
 len:ix.length=NY.length
 cap:∀ (j:Nat) x i,NY[j]?=some x->ix[j]?=some (some i)->XN[i]?=some x/\(x,NameKind.free)∈sc.names
theorem CompOk.of (h:iw sc XN Xsc NY ix=true):CompOk sc XN Xsc NY ix:=by
 simp only[iw,Bool.and_eq_true,List.all_eq_true,beq_iff_eq] at h
 obtain ⟨⟨⟨⟨⟨⟨h1,h2⟩,h3⟩,b⟩,d⟩,c⟩,f⟩:=h
 refine #[h1,λy a=>by simpa using h2 y a,λy a e=>?_,λy a e=>?_,λy a e=>?_,c,λj x i e1 g=>?_]
 .have:=h3 y a;rw[e] at this;simpa using this
 .have:=b y a;rw[e] at this;simpa using this
 .have:=d y a;rw[e] at this;simpa using this
 .have m:(x,some i)∈NY.zip ix:=by
   refine FL (i:=j) ?_
   rw[List.getElem?_zip_eq_some]
   exact #[e1,g]
  have:=f _ m
  simpa using this
section
variable {X:Cx}
theorem FpOk.of_upd (f:FpOk X pins H b) (h:b≠D):FpOk X pins (upd H D o) b:=#[by rw[aw h];exact f.1,f.2]
theorem HOk.track (x:HOk P w H h) (d:H a=none) (new:ObjOk P w (upd H a o) h a o):HOk P w (upd H a o) h:=λb u e=>by
 by_cases f:b=a
 .subst f;rw[aF] at e;cases e;exact new
 .rw[aw f] at e
  exact (x b u e).stay (λc v _ q=>q) (λc q=>by rw[aw (aV q d)];exact q) λc xs q=>by rw[aw (aV q d)];exact q
def PTs (τ:Cx) (ifs:List Expr) (t:TT):Prop :=
 ∀ (pins:List (Addr×Obj)) (s:Shared) (O:St) (H:Hp) (Q:Bool->Hp->Prop),Inv τ pins O H s->t O H Q ->
  wpAny (model τ.prog τ.w) τ.A (forIn ifs true λc r=>if r=true then do let ok <- isTrue c τ.env (eval c τ.env);pure (ForInStep.yield ok) else pure (ForInStep.yield r)) (TP τ pins O Q) τ.xe s
def tYes:TT:=λ_ H Q=>Q true H
theorem Bg:PTs τ [] tYes:=λpins s O H Q I h=>wpAny_tests_nil #[H,I,h]
theorem Bf (h:PT τ c t):PTs τ [c] t:=λpins s O H Q I q=>wpAny_tests_one (h pins s O H Q I q)
def rM (J:It) (g:TG) (tc:TT) (te:TE) (ρ:List V->Hp->Prop) (Y0:St) (H1:Hp):Prop :=
 ∃ W:Nat->Nat->List V->St->Hp->Prop,(∃ m,W 0 m [] Y0 H1)/\∀ i m ys Y H,W i m ys Y H->ys.length < sizeLine /\
  ((J.stop i H/\ρ ys H)\/(J.go i H/\∃ N:List V->St->Hp->Prop,(∀ a Y' H',N a Y' H'->∃ d,d < m/\W (i+1) d a Y' H')/\∀ x H',J.yld i H x H'->g x Y H' λY2 H2=>tc Y2 H2 λb c =>
   if b=true then te Y2 c λy e=>N (ys++[y]) Y2 e else N ys Y2 c))
def Cj (a:TI) (g:TG) (tc:TT) (te:TE) (ix:List (Option Nat)):TE:=λO H Q =>
 a O H λJ H1=>rM J g tc te (λys H2=>∀ p,H2 p=none->Q (.ref p) (upd H2 p (.lst ys))) (cap ix O) H1
theorem tj (d:CompOk scope X.N X.env.scope NY ix) (I:Inv X pins O H s) (f:∀ b∈fp,FpOk X pins H b) (j:s.heap.objs.size<=C) (n:∀ b∈fp,b < s.heap.objs.size) (L:s4.os=s.os) (F:s4.gens=s.gens) (keep:∀ b o,s.heap.get? b=some o->s4.heap.get? b=some o) (ns:s4.heap.Ns C λ_=>none):Inv (aR X NY scope s H C fp) [] (cap ix O) H s4:=by
 have G:FpOk X pins H C:=I.fpOk j (I.hok.fresh j)
 have cls:∀ x c,(clo X.env.cells scope.names).lookup x=some c->X.env.cells.lookup x=some c:=λx c e=>pD e
 have h:∀ x,(x,NameKind.free)∈scope.names->∃ c,X.env.cells.lookup x=some c:=λx m=>by
  rcases d.out _ m rfl with q | q
  .exact I.ok.has x (.inl q)
  .exact I.ok.has x (.inr q)
 refine ⟨⟨I.ok.mod,d.kind,I.ok.glob,I.ok.blt,j,λx y c e1 t=>I.ok.inj x y c (cls x c e1) (cls y c t),λx E=>?_,λx c e _=>(FR e).elim,λe=>I.ok.hd e,I.ok.frames,.inl rfl,λb g=>⟨FT (FY (n b g) j),λx c e=>(f b g).2.2.2.2.1 x c (cls x c e)⟩,
  I.bs,Gh I.ok.bsz I.sz,λb o e g=>?_,λb g hz=>?_,I.stack,I.stkFree⟩,L,by rw[F];exact I.bare,Un.kept keep,⟨_,ns,λi x v e1 t R=>?_⟩,λx c e=>?_,G.1,λx c e=>I.freeC x c (cls x c e),λp K=>absurd (show p∈([]:List (Addr×Obj)) from K) (by simp),I.hok.kept keep,?_⟩
 .have m:(x,NameKind.free)∈scope.names:=lQ d.nocell E
  obtain ⟨c,e⟩:=h x m
  exact #[c,u8 e m]
 .rcases (f b g).2.2.2.1 with z | z
  .exact I.ok.noex b o e z
  .exact absurd (FY (FF e) (Gh I.ok.bsz z)) (Nat.lt_irrefl _)
 .rcases FD.mp (I.stkSub b hz) with e | e
  .exact (f b g).2.1 e
  .exact (f b g).2.2.1 e
 .-- a captured name
  have q:∃ k,ix[i]?=some (some k)/\O[k]?=some (some v):=by
   unfold cap at t
   grind
  obtain ⟨k,P,ev⟩:=q
  obtain ⟨M,m⟩:=d.cap i x k e1 P
  obtain ⟨S,B,Q⟩:=I.loc
  have σ:Vis X.env.scope x:=by
   rcases d.out _ m rfl with q | q
   .exact .inr (.inl q)
   .exact .inr (.inr q)
  obtain ⟨u,r,l⟩:=Q k x v M ev σ
  refine #[u,r,.inr ?_]
  rcases l with ⟨A,_⟩ | ⟨_,c,D,J⟩
  .exfalso
   rcases d.out _ m rfl with q | q
   .have:=A.symm.trans q;cases this
   .have:=A.symm.trans q;cases this
  .obtain ⟨o,w,hd⟩:=J
   exact #[jz (d.fre _ m rfl),c,u8 D m,o,keep c o w,hd]
 .obtain ⟨v,o,w,hd⟩:=I.cell x c (cls x c e)
  exact #[v,o,keep c o w,hd]
 .show (cap ix O).length=NY.length
  unfold cap
  rw[FJ]
  exact d.len
theorem iz (I:Nat->Shared->Prop) (turn:∀ n s,I n s->wpAny (model prog w) A (pyNext it) (λr e=>match r with
   | none=>R (.ok .next) e
   | some v=>wpAny (model prog w) A (letOwnedTupleGo target it v) (λ_ a=>wpAny (model prog w) A (assign target env v) (λ_ f =>
     wpAny (model prog w) A (forIn ifs true λc r=>if r=true then do let ok <- isTrue c env (eval c env);pure (ForInStep.yield ok) else pure (ForInStep.yield r)) (λok d =>
      if ok=true then wpAny (model prog w) A (eval elt env) (λx k =>
       wpAny (model prog w) A (call (.builtin "list.append") [acc,x]) (λ_ i=>∃ m,m < n/\I m i) (λ_ _=>False) k) (λ_ _=>False) d
      else ∃ m,m < n/\I m d) (λ_ _=>False) f) (λ_ _=>False) a) (λ_ _=>False) e) (λ_ _=>False) s) (n:Nat) (h:I n s) :
  codeAny (model prog w) A (.compLoop (.ListComp elt [#[target,iter,ifs,0]] scope pos) 0 it acc env) R s:=by
 refine codeAny_loop rfl I (λn s o=>?_) n h
 show wpAny _ A ((compTurn (.ListComp elt [#[target,iter,ifs,0]] scope pos) 0 it acc env).onRaise (λx=>do noteFrame x env;theTreesLotGoes x)) _ _ s
 refine wpAny_noted ?_
 rw[compTurn_list]
 refine Fs (wpAny_standAt (Fs (wpAny_mono (turn n s o) (λr e g=>?_) λ_ _ h'=>h'.elim)))
 cases r with
 | none=>exact Ft g
 | some v =>
  refine Fs (wpAny_mono g (λ_ a b=>?_) λ_ _ h'=>h'.elim)
  refine Fs (wpAny_mono b (λ_ f q=>Fs (wpAny_mono q (λok d j=>?_) λ_ _ h'=>h'.elim)) λ_ _ h'=>h'.elim)
  cases ok with
  | false=>exact Ft #[rfl,j]
  | true =>
   exact Fs (Fs (wpAny_mono j (λx k p=>Fs (wpAny_mono p (λ_ i l=>Ft (Ft #[rfl,l])) λ_ _ h'=>h'.elim)) λ_ _ h'=>h'.elim))
theorem rg {RR:Value->Addr->Result->Shared->Prop} (hc:X.calm=true) (ck:CompOk scope X.N X.env.scope NY ix) (hg:∀ s H C fp,PG (aR X NY scope s H C fp) tg g) (ht:∀ s H C fp,PTs (aR X NY scope s H C fp) ifs tc) (he:∀ s H C fp,PE (aR X NY scope s H C fp) elt te) (I:Inv X pins O H s) (T:Turn X.prog X.w X.K tg J fp it tn) (st:tn 0 s.heap) (f:∀ b∈fp,FpOk X pins H b) (hW:rM J g tc te ρ (cap ix O) H) (bb:∀ D C s' ys H' m,s'.heap.Ns C m->H' D=none->FpOk X pins (upd H' D (.lst ys)) C->Inv X pins O (upd H' D (.lst ys)) s'->ρ ys H'->RR (.ref D) C (.ok .next) s') :
  wpAny (model X.prog X.w) X.A (newList []) (λacc τ=>wpAny (model X.prog X.w) X.A (newFunctionEnv scope X.env.globals (clo X.env.cells scope.names) [] X.env.qual none .none (some X.env)) (λF s₄ =>
   codeAny (model X.prog X.w) X.A (.compStart (.ListComp elt [#[tg,iter,ifs,0]] scope pos) 0 (.ref it) acc { F with scope:=relabel scope X.env }) (RR acc F.locals) s₄) E τ) E s:=by
 obtain ⟨W,⟨m0,w0⟩,turn⟩:=hW
 refine wpAny_newObj_type (wpAny_newFunctionEnv ck.nocell (by intro y hy;simp at hy) (λh₁ t j=>?_) ck.kind)
 dsimp only at t j ⊢
 generalize L:s.heap.push { cls:=.type "list",dict:=none,data:=.seq ([]:List Value).toArray }=H2 at t j ⊢
 have ax:H2.objs.size=s.heap.objs.size+1:=by rw[<- L,Gf]
 have B:s.heap.objs.size≠H2.objs.size:=by rw[ax];exact FT (Nat.lt_succ_self _)
 have h:s.heap.objs.size<=H2.objs.size:=by rw[ax];exact Nat.le_succ _
 generalize R:s.heap.objs.size=D at *
 generalize hC:H2.objs.size=C at *
 have below:∀ b o,s.heap.get? b=some o->b < D:=λb o e=>by rw[<- R];exact FF e
 have old:∀ b o,s.heap.get? b=some o->h₁.get? b=some o:=λb o e=>j.extBut b o (FT (FY (below b o e) h)) (Fy _ (L ▸ Fy _ e))
 have σ:H2.get? D=some { cls:=.type "list",dict:=none,data:=.seq ([]:List Value).toArray }:=by
  rw[<- L,<- R];exact FI _ rfl
 have av:h₁.PlainList D (List.toArray []):=#[_,j.extBut _ _ B (Fy _ σ)]
 have ar:∀ b∈fp,b < s.heap.objs.size:=λb a=>by
  obtain ⟨o,e,_⟩:=T.obj 0 _ st b a
  exact FF e
 have l:∀ b∈fp,b < D:=λb a=>by rw[<- R];exact ar b a
 have IY:Inv (aR X NY scope s H C fp) [] (cap ix O) H { s with heap:=h₁,toks:=s.toks+([]:List (Str×Value)).length } :=
  tj ck I f (by rw[R];exact h) ar rfl rfl old t
 have b3:H D=none:=I.hok.fresh (by rw[R];exact FQ _)
 have k:∀ b∈frs X.stack,b < D:=λb a=>by
  obtain ⟨_,o,ho,_⟩:=I.stack.mem a
  exact below b o ho
 have loop:∀ τ:Shared,τ={ s with heap:=h₁,toks:=s.toks+([]:List (Str×Value)).length } ->
   codeAny (model X.prog X.w) X.A (.compLoop (.ListComp elt [#[tg,iter,ifs,0]] scope pos) 0 (.ref it) (.ref D) (aR X NY scope s H C fp).env) (RR (.ref D) C) τ:=by
  rintro τ rfl
  refine iz (λn s'=>∃ i ys Y H' its,Inv (aR X NY scope s H C fp) [] Y H' s'/\H' D=none/\s'.heap.PlainList D its/\Vals ys its.toList/\tn i s'.heap/\(∀ b∈fp,H' b=none)/\W i n ys Y H') ?_ m0
   #[0,[],cap ix O,H,(List.toArray []),IY,b3,av,.nil,T.keep _ _ _ st λb _ o e=>old b o e,λb a=>(f b a).1,w0]
  rintro n s3 ⟨i,ys,Y,S,its,I3,d3,l3,v3,az,V,w3⟩
  obtain ⟨nl,e3⟩:=id l3
  have φ:Inv (aR X NY scope s H C fp) [(D,{ cls:=.type "list",data:=.seq its nl })] Y S s3:=I3.pins_of λp hp=>by
   have e:p=(D,{ cls:=.type "list",data:=.seq its nl }):=by simpa using hp
   subst e
   exact #[e3,d3,B,λz=>Nat.lt_irrefl _ (k D z),λv z=>by cases z]
  have G:∀ {H':Hp} {pl:List (Addr×Obj)},(∀ b∈fp,H' b=none)->(∀ p∈pl,p.1=D)->∀ b∈fp,FpOk (aR X NY scope s H C fp) pl H' b:=λhn hp b a =>
   ⟨hn b a,FT (FY (l b a) h),λz=>by
    rcases FD.mp (I.stkSub b z) with e | e
    .exact (f b a).2.1 e
    .exact (f b a).2.2.1 e,.inl a,λx c e=>(f b a).2.2.2.2.1 x c (pD e),λp bt=>by
    have e:p.1=D:=hp p ((FH.mp bt).elim (λz=>absurd (show p∈([]:List (Addr×Obj)) from z) (by simp)) λz=>z)
    rw[e]
    exact Nat.ne_of_gt (l b a)⟩
  obtain ⟨zl,step⟩:=turn i n ys Y S w3
  have single:∀ p∈[(D,({ cls:=.type "list",data:=.seq its nl }:Obj))],p.1=D:=λp hp=>by
   have e:p=(D,{ cls:=.type "list",data:=.seq its nl }):=by simpa using hp
   rw[e]
  rcases step with ⟨stop,qn⟩ | ⟨go,N,hN,step⟩
  .refine wpAny_mono (T.done (aR X NY scope s H C fp) rfl rfl rfl hc i _ s3 Y S (λ_ _=>False) φ (G V single) az stop) (λr s4 #[hr,Q]=>?_) λ_ _ e=>e
   subst hr
   obtain ⟨mC,a9,_⟩:=id Q.loc
   obtain ⟨e4,d4,_⟩:=Q.pin (D,{ cls:=.type "list",data:=.seq its nl }) (by simp[aR])
   have a6:∀ b o,s.heap.get? b=some o->b≠D:=λb o e=>FT (below b o e)
   have M:=Q.base
   refine bb D C s4 ys S mC a9 d4 ?_ ?_ qn
   .exact (I.fpOk (by rw[R];exact h) (by exact Q.free)).of_upd (Ne.symm B)
   .refine I.call' (ch:=fp) Q.os (H':=upd S D (.lst ys)) #[M.keep,M.slot,λb o e n hx=>?_,M.there,λb xs e=>?_,λb o u e=>?_,λb ps e=>?_] ?_ Q.bare λb a=>?_
    .rw[aw (a6 b o e)];exact M.free b o e n hx
    .have q:=M.tups b xs e;rw[aw (aV q d4)];exact q
    .have q:=M.frzs b o u e;rw[aw (aV q d4)];exact q
    .obtain ⟨more,q⟩:=M.tbls b ps e;exact #[more,by rw[aw (aV q d4)];exact q]
    .exact Q.hok.track d4 #[Nat.le_of_lt zl,its.toList,nl,v3,by simpa using e4]
    .exact #[(f b a).2.2.2.1,(f b a).2.1,(f b a).2.2.2.2.1,(f b a).2.2.2.2.2]
  .refine wpAny_mono (T.item (aR X NY scope s H C fp) rfl rfl rfl hc i _ s3 Y S (λ_ _=>False) φ (G V single) az go) (λr s4 #[u,hr,h4]=>?_) λ_ _ e=>e
   subst hr
   refine wpAny_mono h4 (λ_ s5 #[x,H5,I5,r5,y5,P,a5]=>?_) λ_ _ e=>e
   have b4:=I5.pinned (G a5 single) (T.obj _ _ P)
   refine wpAny_mono (hg s H C fp _ s5 Y H5 x u _ b4 r5 (step x H5 y5)) (λ_ s6 #[Y6,H6,I6,q6]=>?_) λ_ _ e=>e
   refine wpAny_mono (ht s H C fp _ s6 Y6 H6 _ I6 q6) (λb s7 #[H7,I7,q7]=>?_) λ_ _ e=>e
   have after:∀ {s':Shared} {H':Hp},Inv (aR X NY scope s H C fp) ([(D,{ cls:=.type "list",data:=.seq its nl })]++lT fp s5.heap) Y6 H' s'->tn (i+1) s'.heap/\(∀ b∈fp,H' b=none)/\H' D=none/\s'.heap.PlainList D its:=λ{s' H'} I' =>
    ⟨T.keep _ _ _ P λb a o e=>(I'.pin (b,o) (FC _ (FC _ (fM a e)))).1,λb a=>by
     obtain ⟨o,e,d⟩:=T.obj _ _ P b a
     exact (I'.pin (b,o) (FC _ (FC _ (fM a e)))).2.1,(I'.pin (D,_) (FC _ (FA _ (F9.mpr rfl)))).2.1,
     nl,(I'.pin (D,_) (FC _ (FA _ (F9.mpr rfl)))).1⟩
   cases b with
   | false =>
    rw[if_neg FR]
    rw[if_neg FR] at q7
    obtain ⟨m',hm,w7⟩:=hN _ _ _ q7
    obtain ⟨a1,a2,a3,a4⟩:=after I7
    exact #[m',hm,i+1,ys,Y6,H7,its,I7.pins_of (λ_ z=>absurd z (by simp)),a3,a4,v3,a1,a2,w7]
   | true =>
    rw[if_pos rfl]
    rw[if_pos rfl] at q7
    refine wpAny_mono (he s H C fp _ s7 Y6 H7 _ I7 q7) (λy s8 #[yv,H8,I8,r8,n8]=>?_) λ_ _ e=>e
    obtain ⟨m',hm,w8⟩:=hN _ _ _ n8
    obtain ⟨a1,a2,a3,a4⟩:=after I8
    have b5:ys.length=its.size:=by simpa using v3.length
    have hsz:its.size<=sizeLine:=by lia
    refine wpAny_list_append_plain (hsz:=hsz) a4 λh9 l9 ae=>?_
    have I9:Inv (aR X NY scope s H C fp) [] Y6 H8 { s8 with heap:=h9,toks:=s8.toks }:=(I8.pins_of (pins':=[]) λ_ z=>absurd z (by simp)).turned (it:=D) (λb o a e=>(ae.2 b a).trans e) a3 B (.inr (by show s.heap.objs.size<=D;rw[R];exact FQ _)) (λx c e z=>?_) λp z=>absurd (show p∈([]:List (Addr×Obj)) from z) (by simp)
    .refine #[m',hm,i+1,ys++[yv],Y6,H8,its.push y,I9,a3,l9,?_,T.keep _ _ _ a1 λb a o e=>(ae.2 b (FT (l b a))).trans e,a2,w8]
     rw[Array.toList_push]
     exact v3.append (.cons r8 .nil)
    .obtain ⟨v,o,ho,_⟩:=I.cell x c (pD e)
     exact Nat.lt_irrefl _ (z ▸ below c o ho)
 exact codeAny_compStart_list (loop _ rfl) (T.self X.A 0 _ _ _ (T.keep _ _ _ st λb _ o e=>old b o e) (loop _ rfl))
theorem Br (NY:List Str) (ix:List (Option Nat)) (p:X.calm=true) (hi:PI X tg iter wi) (j:∀ s H C fp,PG (aR X NY scope s H C fp) tg g) (d:∀ s H C fp,PTs (aR X NY scope s H C fp) ifs tc) (he:∀ s H C fp,PE (aR X NY scope s H C fp) elt te) (a:iw scope X.N X.env.scope NY ix=true) (u:∀ x,foldedSetIterable iter X.env x=pure x:=by intro _;rfl):PE X (.ListComp elt [#[tg,iter,ifs,0]] scope pos) (Cj wi g tc te ix):=by
 intro pins s O H Q I h
 have a:=CompOk.of a
 rw[eval_ListComp]
 refine wpAny_comprehension_free (use:=none) rfl u (iA (scope:=scope) (env:=X.env) λx m e=>?_) a.kind a.loc (thn (hi pins s O H _ I h) λv s1 h1=>thn h1 λz s2 h2=>?_)
 .rcases a.out x m e with q | q
  .exact I.ok.has x.1 (.inl q)
  .exact I.ok.has x.1 (.inr q)
 .obtain ⟨it,fp,F,J,H2,e,n,T,c,f2,B⟩:=h2
  subst e
  refine rg (RR:=λacc C=>compPost (model X.prog X.w) X.A X.xe none (EP X pins O Q) acc C) p a j d he n T c f2 B ?_
  intro D C s' ys H' m y k l r i
  obtain ⟨f0,f1,f2,E,f4,t⟩:=l
  exact #[m,y,λh' sb=>#[.ref D,_,r.turned (t':=s'.toks) (λb o f e=>(sb.2 b f).trans e) f0 f1 E f4 t,rfl,i D k]]
def Cm (i:Nat) (a:TI) (g:TG) (tc:TT) (te:TE) (ix:List (Option Nat)):TS:=λD O H =>
 a O H λJ H1=>rM J g tc te (λys H2=>∀ p,H2 p=none->D.nx (O.set i (some (.ref p))) (upd H2 p (.lst ys))) (cap ix O) H1
theorem su {i:Nat} (V:X.N.Nodup) (S:X.N[i]?=some y) (t:Loc X.env.scope y) (NY:List Str) (ix:List (Option Nat)) (M:X.calm=true) (hi:PI X tg iter wi) (B:∀ s H C fp,PG (aR X NY scope s H C fp) tg g) (r:∀ s H C fp,PTs (aR X NY scope s H C fp) ifs tc) (he:∀ s H C fp,PE (aR X NY scope s H C fp) elt te) (c:iw scope X.N X.env.scope NY ix=true) (j:swapsWith (.ListComp elt [#[tg,iter,ifs,0]] scope pos) (some (.Name y py)) spos.line X.env=pure true:=by rfl) (hf:X.fn y=true\/X.env.scope.names.lookup y=some .local:=by first | exact .inl rfl | exact .inr rfl | assumption) (R:∀ x,foldedSetIterable iter X.env x=pure x:=by intro _;rfl):PS X (.Assign [.Name y py] (.ListComp elt [#[tg,iter,ifs,0]] scope pos) spos) (Cm i wi g tc te ix):=by
 intro pins s O H D I h
 have c:=CompOk.of c
 rw[exec_Assign_Name_used _ _ _ _ j]
 refine Fs (wpAny_standAt (Fs ?_))
 show wpAny _ X.A (do let _ <- comprehension (.ListComp elt [#[tg,iter,ifs,0]] scope pos) scope X.env _ (newList []) false (eval iter X.env) (some (assign (.Name y py) X.env))) _ _ s
 refine Fs (wpAny_mono (wpAny_comprehension_free (use:=some (assign (.Name y py) X.env)) (Q:=λ_ s'=>SP X pins D .next s') rfl R (iA (scope:=scope) (env:=X.env) λx m e=>?_) c.kind c.loc
  (thn (hi pins s O H _ I h) λv s1 h1=>thn h1 λW s2 h2=>?_)) (λ_ s' L=>Ft (Ft L)) λ_ _ e=>e)
 .rcases c.out x m e with q | q
  .exact I.ok.has x.1 (.inl q)
  .exact I.ok.has x.1 (.inr q)
 .obtain ⟨it,fp,tn,J,H2,e,K,T,k,f2,τ⟩:=h2
  subst e
  refine rg (RR:=λacc C=>compPost (model X.prog X.w) X.A X.xe (some (assign (.Name y py) X.env)) (λ_ s'=>SP X pins D .next s') acc C) M c B r he K T k f2 τ ?_
  intro f C s' ys H' m φ E G σ u
  obtain ⟨f0,f1,f2,ρ,f4,P⟩:=G
  show wpAny _ X.A (assign (.Name y py) X.env (.ref f)) _ _ _
  refine wpAny_assign_Name (nh σ V S t (v:=.ref f) rfl (λn p #[a,sb,F]=>?_) hf)
  have d:C≠a:=by
   rcases F with e | e
   .rw[e];exact f1
   .exact λz=>f4 y a e z.symm
  exact #[m,φ.sameBut sb d,λh' l=>#[_,_,p.turned (t':=n.toks) (λb o hb e=>(l.2 b hb).trans e) f0 f1 ρ f4 P,u f E]]
end
section
variable {X:Cx}
inductive KindOf (K:FG) (H:Hp):V->String->Prop
 | int (i:Int):KindOf K H (.int i) "int"
 | bool (b:Bool):KindOf K H (.bl b) "bool"
 | str (x:Str):KindOf K H (.str x) "str"
 | non:KindOf K H .non "NoneType"
 | tuple {a:Addr} {xs:List V}:SqT K H a xs->KindOf K H (.ref a) "tuple"
 | list {a:Addr} {xs:List V}:SqL K H a xs->KindOf K H (.ref a) "list"
 | dK {a:Addr} {kvs}:H a=some (.dK kvs)->KindOf K H (.ref a) "dict"
 | dT {a:Addr} {kvs}:H a=some (.dT kvs)->KindOf K H (.ref a) "dict"
def kW (k t:String):Bool:=k == t || (k == "bool" && t == "int")
theorem Inv.clsK (I:Inv X pins O H s) (h:KindOf X.K H (.ref a) k):∃ o,s.heap.get? a=some o/\o.cls=.type k:=by
 cases h with
 | tuple h=>obtain ⟨its,_,⟨o,e,c,_⟩,_⟩:=I.tuple h;exact #[o,e,c]
 | list h=>obtain ⟨its,_,⟨o,n,e,c,_⟩,_⟩:=I.list h;exact #[o,e,c]
 | dK h=>obtain ⟨_,_,_,_,o,_,_,e,c,_⟩:=I.hok a _ h;exact #[o,e,c.1]
 | dT h=>obtain ⟨_,_,_,_,o,_,_,e,c,_⟩:=I.hok a _ h;exact #[o,e,c.1]
theorem pI:CallR X (.builtin "isinstance") (λxs H Q=>∃ x k,xs=[x,.ty "int"]/\KindOf X.K H x k/\Q (.bl (kW k "int")) H):=by
 intro pins s O H xs us Q I r h
 obtain ⟨x,k,rfl,d,q⟩:=h
 obtain ⟨u,v,rfl,a,f⟩:=lB r
 cases (show v=Value.type "int" from f)
 cases d with
 | int i=>obtain ⟨tk,rfl⟩:=a;exact IsiPair.int_int #[.bl true,H,I,rfl,q]
 | bool b=>cases (show u=Value.bool b from a);exact IsiPair.bool_int #[.bl true,H,I,rfl,q]
 | str z=>obtain ⟨tk,rfl⟩:=a;exact IsiPair.str_int #[.bl false,H,I.tok _,rfl,q]
 | non=>cases (show u=Value.none from a);exact IsiPair.NoneType_int #[.bl false,H,I.tok _,rfl,q]
 | tuple hh=>cases a;obtain ⟨o,e,c⟩:=I.clsK (.tuple hh);exact IsiPair.tuple_int e c #[.bl false,H,I.tok _,rfl,q]
 | list hh=>cases a;obtain ⟨o,e,c⟩:=I.clsK (.list hh);exact IsiPair.list_int e c #[.bl false,H,I.tok _,rfl,q]
 | dK hh=>cases a;obtain ⟨o,e,c⟩:=I.clsK (.dK hh);exact IsiPair.dict_int e c #[.bl false,H,I.tok _,rfl,q]
 | dT hh=>cases a;obtain ⟨o,e,c⟩:=I.clsK (.dT hh);exact IsiPair.dict_int e c #[.bl false,H,I.tok _,rfl,q]
theorem mW:CallR X (.builtin "isinstance") (λxs H Q=>∃ x k,xs=[x,.ty "bool"]/\KindOf X.K H x k/\Q (.bl (kW k "bool")) H):=by
 intro pins s O H xs us Q I r h
 obtain ⟨x,k,rfl,d,q⟩:=h
 obtain ⟨u,v,rfl,a,f⟩:=lB r
 cases (show v=Value.type "bool" from f)
 cases d with
 | int i=>obtain ⟨tk,rfl⟩:=a;exact IsiPair.int_bool #[.bl false,H,I.tok _,rfl,q]
 | bool b=>cases (show u=Value.bool b from a);exact IsiPair.bool_bool #[.bl true,H,I,rfl,q]
 | str z=>obtain ⟨tk,rfl⟩:=a;exact IsiPair.str_bool #[.bl false,H,I.tok _,rfl,q]
 | non=>cases (show u=Value.none from a);exact IsiPair.NoneType_bool #[.bl false,H,I.tok _,rfl,q]
 | tuple hh=>cases a;obtain ⟨o,e,c⟩:=I.clsK (.tuple hh);exact IsiPair.tuple_bool e c #[.bl false,H,I.tok _,rfl,q]
 | list hh=>cases a;obtain ⟨o,e,c⟩:=I.clsK (.list hh);exact IsiPair.list_bool e c #[.bl false,H,I.tok _,rfl,q]
 | dK hh=>cases a;obtain ⟨o,e,c⟩:=I.clsK (.dK hh);exact IsiPair.dict_bool e c #[.bl false,H,I.tok _,rfl,q]
 | dT hh=>cases a;obtain ⟨o,e,c⟩:=I.clsK (.dT hh);exact IsiPair.dict_bool e c #[.bl false,H,I.tok _,rfl,q]
theorem mG:CallR X (.builtin "isinstance") (λxs H Q=>∃ x k,xs=[x,.ty "tuple"]/\KindOf X.K H x k/\Q (.bl (kW k "tuple")) H):=by
 intro pins s O H xs us Q I r h
 obtain ⟨x,k,rfl,d,q⟩:=h
 obtain ⟨u,v,rfl,a,f⟩:=lB r
 cases (show v=Value.type "tuple" from f)
 cases d with
 | int i=>obtain ⟨tk,rfl⟩:=a;exact IsiPair.int_tuple #[.bl false,H,I.tok _,rfl,q]
 | bool b=>cases (show u=Value.bool b from a);exact IsiPair.bool_tuple #[.bl false,H,I.tok _,rfl,q]
 | str z=>obtain ⟨tk,rfl⟩:=a;exact IsiPair.str_tuple #[.bl false,H,I.tok _,rfl,q]
 | non=>cases (show u=Value.none from a);exact IsiPair.NoneType_tuple #[.bl false,H,I.tok _,rfl,q]
 | tuple hh=>cases a;obtain ⟨o,e,c⟩:=I.clsK (.tuple hh);exact IsiPair.tuple_tuple e c #[.bl true,H,I,rfl,q]
 | list hh=>cases a;obtain ⟨o,e,c⟩:=I.clsK (.list hh);exact IsiPair.list_tuple e c #[.bl false,H,I.tok _,rfl,q]
 | dK hh=>cases a;obtain ⟨o,e,c⟩:=I.clsK (.dK hh);exact IsiPair.dict_tuple e c #[.bl false,H,I.tok _,rfl,q]
 | dT hh=>cases a;obtain ⟨o,e,c⟩:=I.clsK (.dT hh);exact IsiPair.dict_tuple e c #[.bl false,H,I.tok _,rfl,q]
theorem wV {bs:List Bool}:((List.range bs.length).all λi=>bs.getD i false)=bs.all id:=by
 rw[Bool.eq_iff_iff]
 simp only[List.all_eq_true,List.mem_range,id]
 constructor
 .intro h b a
  obtain ⟨i,hi,rfl⟩:=List.mem_iff_getElem.mp a
  simpa[List.getD,hi] using h i hi
 .intro h i hi
  simpa[List.getD,hi] using h _ (List.getElem_mem hi)
theorem zZ (w:X.calm=true):CallR X (.builtin "all") (λxs H Q=>∃ (a:Addr) (bs:List Bool),xs=[.ref a]/\SqL X.K H a (bs.map V.bl)/\Q (.bl (bs.all id)) H):=by
 intro pins s O H xs us Q I r h
 obtain ⟨a,bs,rfl,t,q⟩:=h
 obtain ⟨u,rfl,g⟩:=dQ r
 cases g
 obtain ⟨its,k,p,hz⟩:=I.list t
 have l:=k.length
 rw[FJ] at l
 have j:a < s.heap.objs.size:=by obtain ⟨o,_,e,_⟩:=id p;exact FF e
 refine call_all_walk (wpAny_pyIter_list p.isList ?_)
 refine #[s.heap.objs.size,_,_,_,_,_,λi=>bs.getD i false,rfl,Walks.list (show X.A.in1.handled=none from I.ok.hd w) s.heap.objs.size a (FT j) its.toArray,#[#[_,FI _ rfl,rfl,rfl],p.isList.at λo e=>Fy _ e],?_,?_]
 .intro i v s' B C z f
  have c:its[i]?=some v:=by simpa using z
  have hi:i < bs.length:=by
   have:=(FK.mp c).1
   lia
  obtain ⟨u,hu,g⟩:=k.get (i:=i) (x:=V.bl (bs[i])) (by simp[hi])
  rw[c] at hu
  cases hu
  cases (show v=Value.bool bs[i] from g)
  refine Gg ?_
  have e:bs.getD i false=bs[i]:=by simp[List.getD,hi]
  have d:B (bs.getD i false) s':=f
  rw[e] at d
  exact d
 .intro h' tk m
  have y:Inv X pins O H { s with heap:=h',toks:=tk }:=I.kept λb o e=>m b o (by
   intro hm
   have n:b=s.heap.objs.size:=by simpa using hm
   exact absurd (n ▸ FF e) (Nat.lt_irrefl _)) (Fy _ e)
  refine #[.bl (bs.all id),H,y,?_,q]
  show Value.bool _=Value.bool _
  rw[FU,<- l,wV]
def Ite (K:FG) (a:Addr):It :=
 #[λi H=>∃ xs x,SqL K H a xs/\xs[i]?=some x,λi H x H'=>∃ T y,x=.ref T/\H T=none/\H'=upd H T (.tup [.int i,y])/\∀ xs,SqL K H a xs->xs[i]?=some y,λi H=>∃ xs,SqL K H a xs/\xs.length<=i]
theorem Inv.two {tk:Nat} (I:Inv X pins O H s) (g:FpOk X pins H e) (f:FpOk X pins H it) (k:∀ b o,b≠e->b≠it->s.heap.get? b=some o->h'.get? b=some o):Inv X pins O H { s with heap:=h',toks:=tk }:=by
 have j:∀ b u,H b=some u->b≠e/\b≠it:=λb u q=>#[aV q g.1,aV q f.1]
 have a:∀ b,b ∉ [e,it]->b≠e/\b≠it:=λb h=>#[λz=>h (by simp[z]),λz=>h (by simp[z])]
 refine I.step (g':=s.gens) (d':=s.drawn) (ch:=[e,it]) (λb h=>?_) (λb o _ _ d q _=>k b o (a b d).1 (a b d).2 q) (λb o _ _ d q _=>#[o.slots,k b o (a b d).1 (a b d).2 q]) (λ_ _ _ _ n=>n)
  (λb o d q=>#[o,k b o (a b d).1 (a b d).2 q]) (λ_ _ q=>q) (λ_ _ _ q=>q) (λb ps q=>#[(List.toArray []),by rw[q];simp]) (λm hm=>?_) (λb u q=>?_) I.bare
 .have p:b=e\/b=it:=by simpa using h
  rcases p with rfl | rfl
  .exact #[g.2.2.2.1,g.2.1,g.2.2.2.2.1,g.2.2.2.2.2]
  .exact #[f.2.2.2.1,f.2.1,f.2.2.2.2.1,f.2.2.2.2.2]
 .obtain ⟨o,es,i,l,r⟩:=hm
  exact #[o,es,i,k _ o (Ne.symm g.2.1) (Ne.symm f.2.1) l,r]
 .refine (I.hok b u q).stay (λc v d z=>?_) (λ_ z=>z) λ_ _ z=>z
  grind
theorem Inv.trackT (I:Inv X pins O H s) (J:Inv X pins O H s0) (f:s0.heap.objs.size<=T) (h:IsTupD s.heap T its.toArray) (w:Vals xs its) (hz:xs.length<=sizeLine):Inv X pins O (upd H T (.tup xs)) s:=by
 have m:H T=none:=J.hok.fresh f
 obtain ⟨e1,B,E,a,r,C,z,t,A,i,j⟩:=id I
 have d:∀ b,H b=none->∀ o,s0.heap.get? b=some o->upd H T (.tup xs) b=none:=λb G o e=>by
  rw[aw (FT (FY (FF e) f))];exact G
 have g:∀ b u,H b=some u->upd H T (.tup xs) b=some u:=λb u e=>by rw[aw (aV e m)];exact e
 have k:X.s₀.heap.objs.size<=T:=Gh J.sz f
 refine #[e1,B,E,#[a.keep,a.slot,λb o q n h=>?_,a.there,λb ys q=>g _ _ (a.tups b ys q),λb o u q=>g _ _ (a.frzs b o u q),λb ps q=>?_],r,C,?_,λx c q=>?_,λp l=>?_,?_,j]
 .rw[aw (FT (FY (FF q) k))];exact a.free b o q n h
 .obtain ⟨more,y⟩:=a.tbls b ps q;exact #[more,g _ _ y]
 .rw[aw (FT (FY J.lt f))];exact z
 .obtain ⟨v,o,D,_⟩:=J.cell x c q
  exact d c (t x c q) o D
 .obtain ⟨a1,a2,F⟩:=A p l
  exact #[a1,d p.1 a2 p.2 (J.pin p l).1,F]
 .exact i.track m #[hz,its,w,h]
theorem vv {P:Program} {w:World} {K:FG} {elts:List Expr} {k:Nat} {pos:Pos} (a e it:Addr) (m:e≠it):Turn P w K (.Tuple elts k pos) (Ite K a) [e,it] e (λi h=>(∃ old,IsEnum h e it i old)/\h.IsListIter it a i) where
 mem:=by simp
 obj:=λi h st b g=>by
  obtain ⟨⟨old,he⟩,o,t,c,d⟩:=st
  have M:b=e\/b=it:=by simpa using g
  rcases M with rfl | rfl
  .exact #[_,he,λv z=>by cases z]
  .exact #[o,t,λv z=>by rw[d] at z;cases z]
 keep:=λi h h' st k=>#[let #[old,he]:=st.1;#[old,k e (by simp) _ he],st.2.at λo q=>k it (by simp) o q]
 item:=by
  intro X C hw N σ i pins s O H E I hf st L
  subst C hw N
  obtain ⟨xs,x,A,B⟩:=L
  obtain ⟨its,D,p,hz⟩:=I.list A
  obtain ⟨u,hu,ρ⟩:=D.get B
  obtain ⟨⟨old,he⟩,hit⟩:=st
  refine wpAny_pyNext_enum_item he hit p.isList (x:=u) (by simpa using hu) m λh' F j V hsz Q=>?_
  refine #[_,rfl,wpAny_letOwnedTupleGo_enum F λy l f=>?_]
  have n:e < s.heap.objs.size:=FF he
  have φ:Inv X pins O H { s with heap:=y,toks:=s.toks+1 }:=I.two (hf e (by simp)) (hf it (by simp)) λb o hb1 hb2 q=>(f.2 b hb1).trans (Q b o hb1 hb2 q)
  have G:y.get? s.heap.objs.size=some { cls:=.type "tuple",data:=.seq (List.toArray [.int i s.toks,u]) }:=(f.2 _ (Nat.ne_of_gt n)).trans V
  have R:=φ.trackT (s0:=s) (T:=s.heap.objs.size) (xs:=[.int i,x]) (its:=[.int i s.toks,u]) I (FQ _) #[_,G,rfl,_,rfl] (.cons #[_,rfl] (.cons ρ .nil)) (by show 2<=sizeLine;decide)
  refine #[.ref s.heap.objs.size,_,R,rfl,#[_,x,rfl,I.hok.fresh (FQ _),rfl,λys τ=>by rw[I.list_inj τ A];exact B],#[#[_,by simpa using l],?_],λb g=>?_]
  .obtain ⟨o,t,r⟩:=j
   exact #[o,(f.2 it (Ne.symm m)).trans t,r]
  .have J:b < s.heap.objs.size:=by
    have M:b=e\/b=it:=by simpa using g
    rcases M with rfl | rfl
    .exact n
    .obtain ⟨o,t,r⟩:=hit;exact FF t
   rw[aw (FT J)]
   exact (hf b g).1
 done:=by
  intro X C hw N σ i pins s O H E I hf st L
  subst C hw N
  obtain ⟨xs,A,B⟩:=L
  obtain ⟨its,D,p,hz⟩:=I.list A
  obtain ⟨⟨old,he⟩,hit⟩:=st
  have hl:=D.length
  obtain ⟨f0,f1,f2,f3,f4,S⟩:=hf it (by simp)
  exact wpAny_pyNext_enum_end (I.ok.hd σ) he hit p.isList (by simp;lia) λh' W=>#[rfl,I.turned (t':=s.toks) (λb o g q=>W b o g q) f0 f1 f3 f4 S]
 self:=λ_ _ _ _ _ st h=>let #[_,he]:=st.1;wpAny_pyIter_enum he h
def CF (K:FG) (ta:TA):TI:=λO H R=>ta O H λb H1=>∃ a,b=[.ref a]/\(∃ xs,SqL K H1 a xs)/\R (Ite K a) H1
theorem Bq {k:Nat} (g:Gl X "enumerate") (hm:X.mg "enumerate"=none) (j:PA X [a] ta) (n:starEach [a] X.env=[(false,eval a X.env)]:=by rfl):PI X (.Tuple elts k tp) (.Call (.Name "enumerate" p) [a] [] pos) (CF X.K ta):=by
 intro pins s O H R I h
 refine Call_ (j6 I g hm boot_enumerate (PyProof.Rows.callWith_type1 (thn (j pos pins s O H _ I h) λus s1 #[w,H1,d,r,f]=>?_) n rfl))
 obtain ⟨a,e,⟨xs,m⟩,q⟩:=f
 subst e
 obtain ⟨u,rfl,o⟩:=dQ r
 cases o
 obtain ⟨its,v,pl,hz⟩:=d.list m
 refine call_enumerate_list pl.isList λh' he hit hsz i=>?_
 refine wpAny_pyIter_enum he ?_
 have l:Inv X pins O H1 { s1 with heap:=h' }:=d.kept (t':=s1.toks) i
 refine #[s1.heap.objs.size+1,[s1.heap.objs.size+1,s1.heap.objs.size],_,_,H1,rfl,l,vv a _ _ (Nat.succ_ne_self _),#[#[_,he],hit],λb t=>?_,q]
 have c:s1.heap.objs.size<=b:=by
  grind
 exact d.fpOk c (d.hok.fresh c)
end
structure Callee (P:Program) (w:World) (K:FG) (mg:Str->Option Value) (base:Heap) (x:Str) (k:Nat) (ps:List Str) (sp:Sp):Prop where
 ex:∃ (f:Addr) (fd:FuncData),FnOk P w K mg base CX0 k f fd ps sp/\mg x=some (.ref f)/\PySem.W.keepIn K (.ref f)=true/\Binds K fd ps []
structure DefAt (K:FG) (mg:Str->Option Value) (x:Str) (st:Stmt) (f:Addr) (fd:FuncData):Prop where
 fn:Fun K x x st f fd
 mg:mg x=some (.ref f)
def Def (K:FG) (mg:Str->Option Value) (x:Str) (st:Stmt):Prop:=∃ f fd,DefAt K mg x st f fd
theorem Def.callee {K:FG} {st:Stmt} {k:Nat} (D:Def K mg x st) (b:∀ (kV doc pm:Value) (an:Option Addr) (a ct:Value) (us:List Value),us.length=ps.length->bindArgs (PySem.W.fnOf x x (aQ st) (aI st) (ag st) .none kV doc pm an a ct) #[us,[]]=pure (ps.zip us)) (h:∀ f fd,Fun K x x st f fd->FnOk P w K mg base CX0 k f fd ps sp):Callee P w K mg base x k ps sp :=
 let #[f,fd,d]:=D
 #[f,fd,h f fd d.fn,d.mg,d.fn.kp,d.fn.binds b]
section
variable {X:Cx} {x:Str} {p pos:Pos} {e:Expr} {es:List Expr} {t:TA} {k:Nat} {ps:List Str} {sp:Sp}
def tFn (sp:Sp) (t:TA):TE:=λO H Q=>t O H λa H1=>sp a H1 Q E0
theorem pe_fn (c:Callee X.prog X.w X.K X.mg X.base x k ps sp) (g:Room k X.A) (l:PA X (e::es) t) (i:Gl X x:=by rfl) (a:(x == ("__debug__":Str))=false:=by decide)
  (he:starEach (e::es) X.env=(false,eval e X.env)::starEach es X.env:=by rfl) (b:(backTo pos (starEach es X.env)).any (·.1)=false:=by rfl):PE X (.Call (.Name x p) (e::es) [] pos) (tFn sp t):=by
 obtain ⟨f,fd,F,hm,j,m⟩:=c.ex
 have h:=Bt (pos:=pos) (p:=p) (dvs:=[]) (E:=E0) F g i hm j m .nil pass0 l a he b
 intro pins s O H Q I q
 refine h pins s O H Q I ?_
 show t O H λd H1=>sp (d++[]) H1 Q E0
 have n:t O H (λd H1=>sp d H1 Q E0):=q
 simpa using n
end
def But (p:Addr) (H H':Hp):Prop:=∀ b o,H b=some o->b≠p->H' b=some o
theorem But.trans (a:But p H H1) (b:But p H1 H2):But p H H2:=λc o h n=>b c o (a c o h n) n
abbrev Pt:=Int×Int
def aZ (p q r:Pt):Int:=(q.1 - p.1) * (r.2 - p.2) - (q.2 - p.2) * (r.1 - p.1)
def Small (p:Pt):Prop:=-(2 ^ 62) < p.1/\p.1 < 2 ^ 62/\-(2 ^ 62) < p.2/\p.2 < 2 ^ 62
def Rising (ps:List Pt):Prop:=∀ (i j:Nat) (p q:Pt),i < j->ps[i]?=some p->ps[j]?=some q->p.1 < q.1
def NoLine (ps:List Pt):Prop:=∀ (i j k:Nat) (p q r:Pt),i < j->j < k->ps[i]?=some p->ps[j]?=some q->ps[k]?=some r->aZ p q r≠0
structure GoodSh (ps:List Pt):Prop where
 pos:0 < ps.length
 most:ps.length<=24
 small:∀ p∈ps,Small p
 rising:Rising ps
 noline:NoLine ps
def wT:Expr->Option Int
 | .Constant (.int i) _ _=>some i
 | _=>none
theorem uF:∀ {es:List Expr} (ns:List Int),es.map wT=ns.map some->PA X es (λ_ H Q=>Q (ns.map V.int) H)
 | [],[],_=>lV
 | [],_::_,h=>by simp at h
 | _::_,[],h=>by simp at h
 | e::es,n::ns,h=>by
  simp only[FV,List.cons.injEq] at h
  obtain ⟨h1,h2⟩:=h
  have b:=uF (X:=X) ns h2
  cases e with
  | Constant c j pos =>
   cases c with
   | int i =>
    have a:i=n:=by simpa[wT] using h1
    subst a
    exact fL oQ b
   | _=>simp[wT] at h1
  | _=>simp[wT] at h1
def kE:List Pt->List (Pt×Pt)
 | []=>[]
 | p::r=>r.map (λq=>(p,q))++kE r
theorem nN:∀ {ps:List Pt} {i j:Nat} {p q:Pt},i < j->ps[i]?=some p->ps[j]?=some q->(p,q)∈kE ps
 | [],_,_,_,_,_,h,_=>by simp at h
 | a::r,0,0,_,_,h,_,_=>by lia
 | a::r,0,j+1,p,q,_,h1,h2=>by
  simp at h1 h2;subst h1
  exact FA _ (FO.mpr #[q,FL h2,rfl])
 | a::r,i+1,0,_,_,h,_,_=>by lia
 | a::r,i+1,j+1,p,q,h,h1,h2=>FC _ (nN (ps:=r) (i:=i) (j:=j) (by lia) (by simpa using h1) (by simpa using h2))
theorem qz:∀ {ps:List Pt} {p q:Pt},(p,q)∈kE ps->∃ i j:Nat,i < j/\ps[i]?=some p/\ps[j]?=some q
 | [],_,_,h=>by simp[kE] at h
 | a::r,p,q,h=>by
  rcases FH.mp h with h | h
  .obtain ⟨z,hz,e⟩:=FO.mp h
   cases e
   obtain ⟨j,b,e⟩:=List.mem_iff_getElem.mp hz
   exact #[0,j+1,by lia,rfl,by simp[b,e]]
  .obtain ⟨i,j,h0,h1,h2⟩:=qz h
   exact #[i+1,j+1,by lia,by simpa using h1,by simpa using h2]
theorem nF:∀ ps:List Pt,(kE ps).length<=ps.length * ps.length
 | []=>by simp[kE]
 | a::r=>by
  have b:=nF r
  simp only[kE,F2,FJ,F5]
  have:(r.length+1) * (r.length+1)=r.length * r.length+2 * r.length+1:=by
   rw[Nat.add_mul,Nat.mul_add];lia
  lia
def Aj (ps:List Pt) (z:Pt):Prop:=∀ (i j:Nat) (p q:Pt),i < j->ps[i]?=some p->ps[j]?=some q->aZ p q z≠0
def above (ps:List Pt) (x y:Int):Nat:=((kE ps).filter λpr=>decide (aZ pr.1 pr.2 (x,y)<=0)).length
theorem zU {α:Type} {p q:α->Bool}:∀ {l:List α},(∀ a∈l,p a=true->q a=true)->(l.filter p).length<=(l.filter q).length
 | [],_=>by simp
 | a::l,h=>by
  have d:=zU (l:=l) λb g=>h b (Fw _ g)
  have f:=h a Fv
  cases c:p a with
  | true=>rw[List.filter_cons_of_pos c,List.filter_cons_of_pos (f c)];simpa using d
  | false =>
   rw[List.filter_cons_of_neg (by simp[c])]
   cases e:q a with
   | true=>rw[List.filter_cons_of_pos e];simp;lia
   | false=>rw[List.filter_cons_of_neg (by simp[e])];exact d
theorem zT {α:Type} {p q:α->Bool}:∀ {l:List α} {z:α},(∀ a∈l,p a=true->q a=true)->z∈l->q z=true->p z=false->(l.filter p).length < (l.filter q).length
 | [],_,_,hz,_,_=>by simp at hz
 | a::l,z,h,hz,h1,h2=>by
  have f:∀ b∈l,p b=true->q b=true:=λb i=>h b (Fw _ i)
  rcases FD.mp hz with rfl | hz
  .rw[List.filter_cons_of_neg (by simp[h2]),List.filter_cons_of_pos h1]
   have:=zU f
   simp;lia
  .have e:=zT f hz h1 h2
   have g:=h a Fv
   cases c:p a with
   | true=>rw[List.filter_cons_of_pos c,List.filter_cons_of_pos (g c)];simpa using e
   | false =>
    rw[List.filter_cons_of_neg (by simp[c])]
    cases d:q a with
    | true=>rw[List.filter_cons_of_pos d];simp;lia
    | false=>rw[List.filter_cons_of_neg (by simp[d])];exact e
theorem vf (p q:Pt) (x y:Int):aZ p q (x,y+1)=aZ p q (x,y)+(q.1 - p.1):=by
 unfold aZ
 grind
theorem Ae {x y:Int} (R:Rising ps) {i j:Nat} (a:i < j) (hi:ps[i]?=some p) (c:ps[j]?=some q) (h0:aZ p q (x,y)=0):above ps x (y+1) < above ps x y:=by
 refine zT (z:=(p,q)) (λpr b h=>?_) (nN a hi c) (by simp[h0]) ?_
 .obtain ⟨d,e,h',e1,f⟩:=qz (p:=pr.1) (q:=pr.2) b
  have:=R d e _ _ h' e1 f
  have h:=of_decide_eq_true h
  rw[vf] at h
  exact FW (by lia)
 .have:=R i j _ _ a hi c
  show decide (aZ p q (x,y+1)<=0)=false
  rw[vf,h0]
  exact FX (by lia)
theorem Af (ps:List Pt) (x y:Int):above ps x y<=ps.length * ps.length:=Gh (List.length_filter_le _ _) (nF ps)
theorem dw {α:Type} {l:List α} {z a:α} {i:Nat} (h:(l++[z])[i]?=some a):(l[i]?=some a/\i < l.length)\/(a=z/\i=l.length):=by grind
theorem Rising.snoc (R:Rising ps) (h:∀ p∈ps,p.1 < z.1):Rising (ps++[z]):=λi j p q a h1 h2=>by
 rcases dw h1 with ⟨a1,b1⟩ | ⟨rfl,b1⟩
 .rcases dw h2 with ⟨a2,b2⟩ | ⟨rfl,b2⟩
  .exact R i j p q a a1 a2
  .exact h p (FL a1)
 .rcases dw h2 with ⟨a2,b2⟩ | ⟨rfl,b2⟩
  .lia
  .lia
theorem NoLine.snoc (N:NoLine ps) (F:Aj ps z):NoLine (ps++[z]):=λi j k p q r a c h1 h2 h3=>by
 rcases dw h1 with ⟨a1,b1⟩ | ⟨rfl,b1⟩
 .rcases dw h2 with ⟨a2,b2⟩ | ⟨rfl,b2⟩
  .rcases dw h3 with ⟨d,b⟩ | ⟨rfl,b⟩
   .exact N i j k p q r a c a1 a2 d
   .exact F i j p q a a1 a2
  .rcases dw h3 with ⟨d,b⟩ | ⟨rfl,b⟩ <;> lia
 .rcases dw h2 with ⟨a2,b2⟩ | ⟨rfl,b2⟩ <;> lia
def i8 (a b c:Int) (p:Pt):Pt:=(a * p.1+c,b * p.2)
theorem tV (a b c:Int) (p q r:Pt):aZ (i8 a b c p) (i8 a b c q) (i8 a b c r)=(a * b) * aZ p q r:=by
 unfold aZ i8
 grind
theorem Rising.scale {a b c:Int} (g:0 < a) (R:Rising ps):Rising (ps.map (i8 a b c)):=λi j p q d h1 h2=>by
 rw[FP] at h1 h2
 obtain ⟨e,e1,rfl⟩:=Fz.mp h1
 obtain ⟨f,h,rfl⟩:=Fz.mp h2
 have:=R i j e f d e1 h
 have h3:a * e.1 < a * f.1:=Int.mul_lt_mul_of_pos_left this g
 show a * e.1+c < a * f.1+c
 lia
theorem NoLine.scale {a b c:Int} (n:0 < a) (o:0 < b) (N:NoLine ps):NoLine (ps.map (i8 a b c)):=λi j k p q r d e h1 h2 h3=>by
 rw[FP] at h1 h2 h3
 obtain ⟨g,e1,rfl⟩:=Fz.mp h1
 obtain ⟨m,f,rfl⟩:=Fz.mp h2
 obtain ⟨h,l,rfl⟩:=Fz.mp h3
 rw[tV]
 exact Int.mul_ne_zero (Int.mul_ne_zero (by lia) (by lia)) (N i j k g m h d e e1 f l)
section InBlock
variable {X:Cx} {NY:List Str} {scope:Scope} {s:Shared} {H:Hp} {C:Addr} {fp:List Addr}
end InBlock
mutual
inductive DV (K:FG) (H:Hp):V->PyData->Prop
 | non:DV K H .non .none
 | bl (b:Bool):DV K H (.bl b) (.bool b)
 | int (i:Int):DV K H (.int i) (.int i)
 | str (x:Str):DV K H (.str x) (.str x)
 | tup {a:Addr} {xs:List V} {ds:List PyData}:SqT K H a xs->DVs K H xs ds->DV K H (.ref a) (.tuple ds)
 | lst {a:Addr} {xs:List V} {ds:List PyData}:SqL K H a xs->DVs K H xs ds->DV K H (.ref a) (.list ds)
inductive DVs (K:FG) (H:Hp):List V->List PyData->Prop
 | nil:DVs K H [] []
 | cons {x:V} {d:PyData} {xs:List V} {ds:List PyData}:DV K H x d->DVs K H xs ds->DVs K H (x::xs) (d::ds)
end
section
variable {X:Cx} {pins:List (Addr×Obj)} {O:St} {H:Hp} {s:Shared}
mutual
theorem DV.reads (I:Inv X pins O H s):∀ {v:V} {d:PyData} {u:Value},DV X.K H v d->RelV v u->∃ as,Reads s.heap u d as
 | _,_,u,.non,r=>by cases (show u=Value.none from r);exact #[_,.none]
 | _,_,u,.bl b,r=>by cases (show u=Value.bool b from r);exact #[_,.bool b]
 | _,_,u,.int i,r=>by obtain ⟨t,rfl⟩:=r;exact #[_,.int i t]
 | _,_,u,.str x,r=>by obtain ⟨t,rfl⟩:=r;exact #[_,.str x t]
 | _,_,u,.tup (a:=a) h rs,r=>by
  cases (show u=Value.ref a from r)
  obtain ⟨its,f,⟨o,e,c,n,d⟩,_⟩:=I.tuple h
  obtain ⟨as,q⟩:=DVs.reads I rs f
  exact #[_,.tuple e c d (by simpa using q)]
 | _,_,u,.lst (a:=a) h rs,r=>by
  cases (show u=Value.ref a from r)
  obtain ⟨its,f,⟨o,n,e,c,_,d⟩,_⟩:=I.list h
  obtain ⟨as,q⟩:=DVs.reads I rs f
  exact #[_,.list e c d (by simpa using q)]
theorem DVs.reads (I:Inv X pins O H s):∀ {v:List V} {d:List PyData} {us:List Value},DVs X.K H v d->Vals v us->∃ as,ReadsAll s.heap us d as
 | _,_,_,.nil,.nil=>#[_,.nil]
 | _,_,_,.cons h r,.cons q t=>by
  obtain ⟨as,e1⟩:=DV.reads I h q
  obtain ⟨bs,a⟩:=DVs.reads I r t
  exact #[_,.cons e1 a]
end
end
section
variable {X:Cx}
theorem wL (c:X.A.guards=some []) (hu:X.A.units+64 < cLine):CallR X (.builtin "repr") (λxs H Q=>∃ (a:Addr) (d:PyData),xs=[.ref a]/\DV X.K H (.ref a) d/\d.showable=true/\d.hasDict=false/\d.depth<=16/\d.shown.length<=sizeLine/\Q (.str d.shown) H):=by
 intro pins s O H xs us Q I r h
 obtain ⟨a,d,rfl,hd,h1,h2,h3,b,q⟩:=h
 obtain ⟨u,rfl,g⟩:=dQ r
 cases (show u=Value.ref a from g)
 obtain ⟨as,i⟩:=DV.reads I hd rfl
 exact repr_of_reads' i h1 (PyData.noDict_hsm h2) c (by lia) (λ_ _ e=>e) (λh' j tk f=>#[.str d.shown,H,I.kept f,#[_,rfl],q]) b
end
end L2
end
section
namespace PySem
open Sem (wp)
end PySem
end
section
namespace L2
open PySem PySem.Spec PyProof.Rows
section
variable {X:Cx}
theorem y7:MtR X "list.index" (λx D H Q=>∃ (a:Addr) (xs:List V) (k:V) (j:Nat),x=.ref a/\D=[k]/\SqL X.K H a xs/\gi k=true/\xs.all gi=true/\(∃ y,xs[j]?=some y/\eqV y k=true)/\(∀ (i:Nat) (y:V),i < j->xs[i]?=some y->eqV y k=false)/\Q (.int j) H):=by
 intro pins s O H x D v us Q I M σ h
 obtain ⟨a,xs,k,j,rfl,rfl,φ,P,fx,⟨y,G,R⟩,t,q⟩:=h
 cases M
 obtain ⟨u,rfl,S⟩:=dQ σ
 obtain ⟨its,r,⟨o,n,e,C,hd,E⟩,hz⟩:=I.list φ
 obtain ⟨w,hw,B⟩:=r.get G
 have hlen:=r.length
 have N:j < its.length:=(FK.mp hw).1
 have J:∀ z∈xs,gi z=true:=List.all_eq_true.mp fx
 have hit:eqU k its.toArray[j]=true:=by
  have e1:its.toArray[j]=w:=by
   have:=(FK.mp hw).2
   simpa using this
  rw[e1,pA B (J y (FL G))]
  exact R
 have no:∀ m (hm:m < its.toArray.size),m < j->eqU k its.toArray[m]=false:=λm hm f=>by
  have b:m < xs.length:=by simp at hm;lia
  obtain ⟨T,g,p⟩:=r.get (FE b)
  have e1:its.toArray[m]=T:=by
   have:=(FK.mp g).2
   simpa using this
  rw[e1,pA p (J _ (List.getElem_mem _))]
  exact t m _ f (FE b)
 have L:s.heap.get? a=some { cls:=.type "list",dict:=none,data:=.seq its.toArray n,slots:=o.slots }:=by
  rw[e]
  obtain ⟨c,d,dt,sl⟩:=o
  dsimp only at C hd E
  subst C hd E
  rfl
 have A:(j:Int) < 2 ^ 63 - 1:=by
  have:sizeLine < 2 ^ 60:=by decide
  lia
 refine call_meets F.slot_list_index #[_,L,rfl] F.entry_list_index (F.args_list_index_2 _ _) (SeqAt.list_indexAt a its.toArray n none o.slots u (eqU k) j (by simpa using N) A hit no) #[L,λz l=>l5 S P r fx z (by simpa using l),?_]
 exact #[.int j,H,I.tok _,#[_,rfl],q]
end
end L2
end
section
namespace PyProof.Rows
open PySem
end PyProof.Rows
end
section
namespace L2
open PySem PySem.Spec PyProof.Rows
theorem ji:∀ {us:List Value} {ns:List Int},IntsAre us ns->Vals (ns.map V.int) us
 | _,_,.nil=>.nil
 | _,_,.cons n t h=>.cons #[t,rfl] (ji h)
def IsNts (h:Heap) (b:Addr) (n:List Int):Prop:=∃ it:Array Value,IsTup h b it/\IntsAre it.toList n
abbrev bf (f:Bool):SortKind:=(sortPriv% PySem.Builtin.KeyKind.tuples) f
section
variable {prog:Program} {w:World} {A:Around} {E:Value->Shared->Prop} {s:Shared}
theorem sE (f:Bool) {a b:Int} (h:Q (decide (a < b)) s):wpAny (model prog w) A (oneLt' f (.int a t) (.int b u)) Q E s:=by
 cases f with
 | true=>exact oneLt_int h
 | false =>
  rw[oneLt'_eq]
  simp only[Ga,if_false]
  refine Fs (HT.rcLt_int A s a t b u prog w E _ ?_)
  exact Gg h
theorem nP (f:Bool) (n m:Nat) {k:Option Bool×Unit->Sem Bool} (l:∀ p q i c,g ((p,q),i) c=(do
          let b <- eqBool p q
          if (!b)=true then do
            let r <- oneLt' (f && i == 0) p q
            pure (ForInStep.done (some r,()))
          else pure (ForInStep.yield (none,())))) (j:∀ b,k (some b,())=pure b) (d:k (none,())=pure (decide (n < m))):∀ (h ws:List Value) (ns ms:List Int) (i:Nat),IntsAre h ns->IntsAre ws ms->ns.length+m=ms.length+n->Q (HT.lexLt ns ms) s ->
    wpAny (model prog w) A (forIn ((h.zip ws).zipIdx i) ((none,()):Option Bool×Unit) g) (λr s'=>wpAny (model prog w) A (k r) Q E s') E s
  | [],ws,ns,ms,i,h1,h2,hl,q=>by
    cases h1
    have e:HT.lexLt [] ms=decide (n < m):=by
      cases ms with
      | nil=>simp at hl;rw[HT.lexLt_nil_nil];exact (FX (by lia)).symm
      | cons a ms=>simp at hl;rw[HT.lexLt_nil_cons];exact (FW (by lia)).symm
    rw[e] at q
    rw[List.zip_nil_left]
    simp only[List.zipIdx_nil,List.forIn_nil]
    refine Ft ?_
    rw[d]
    exact Ft q
  | v::h,[],ns,ms,i,h1,h2,hl,q=>by
    cases h2
    cases h1 with
    | cons a t h1 =>
    rename_i ns
    have e:HT.lexLt (a::ns) []=decide (n < m):=by
      simp at hl;rw[HT.lexLt_cons_nil];exact (FX (by lia)).symm
    rw[e] at q
    rw[List.zip_nil_right]
    simp only[List.zipIdx_nil,List.forIn_nil]
    refine Ft ?_
    rw[d]
    exact Ft q
  | v::h,u::ws,ns,ms,i,h1,h2,hl,q=>by
    cases h1 with
    | cons a t h1 =>
    cases h2 with
    | cons b t2 h2 =>
    rename_i ns ms
    rw[List.zip_cons_cons,List.zipIdx_cons,List.forIn_cons,l]
    rw[HT.lexLt_cons] at q
    refine Fs (Fs ((intKind prog w).eqBool (a:=a) (b:=b) (by simp[intKind,Value.isInt]) (by simp[intKind,Value.isInt]) ?_))
    by_cases e:a=b
    . rw[if_pos e] at q
      rw[FW e]
      simp only[Bool.not_true,Ga,if_false]
      refine Ft ?_
      exact nP f n m l j d h ws ns ms (i+1) h1 h2 (by simp at hl;lia) q
    . rw[if_neg e] at q
      rw[FX e]
      simp only[Bool.not_false,if_true]
      refine Fs (sE _ (Ft (Ft ?_)))
      rw[j]
      exact Ft q
theorem wl (j:IsNts s.heap a x) (n:IsNts s.heap b y) (h:Q (HT.lexLt x y) s):wpAny (model prog w) A (keyLt' (bf f) (.ref a) (.ref b)) Q E s:=by
 obtain ⟨c,⟨r,e1,c1,p,i⟩,g⟩:=j
 obtain ⟨d,⟨q,l,c2,t,o⟩,e⟩:=n
 refine Fs (listItems_at e1 i ?_)
 refine Fs (listItems_at l o ?_)
 refine Fs ?_
 have m:x.length=c.size:=by rw[<- g.length];simp
 have k:y.length=d.size:=by rw[<- e.length];simp
 exact nP f c.size d.size (λ_ _ _ _=>rfl) (λ_=>rfl) rfl c.toList d.toList x y 0 g e (by lia) h
end
section
variable {prog:Program} {w:World} {A:Around} {E:Value->Shared->Prop} {s:Shared}
theorem sZ (v:Value):firstOfTuple' v=(do
  if (<- typeOf v) != .type "tuple" then return none
  return (<- Builtin.List.listItems v)[0]?):=rfl
theorem n9 (f:IsNts s.heap b n) (h0:n≠[]) (h:∀ i t,Q (some (.int i t)) s):wpAny (model prog w) A (firstOfTuple' (.ref b)) Q E s:=by
 obtain ⟨it,⟨o,e,c,k,d⟩,j⟩:=f
 rw[sZ]
 refine Fs (wpAny_typeOf (T:="tuple") #[o,e,c] ?_)
 rw[if_neg (by decide)]
 refine Fs (listItems_at e d ?_)
 cases a:it.toList with
 | nil=>rw[a] at j;cases j;exact absurd rfl h0
 | cons v vs =>
  rw[a] at j
  cases j with
  | cons i t j =>
   have:it[0]?=some (.int i t):=by rw[<- Array.getElem?_toList,a];rfl
   rw[this]
   exact Ft (h i t)
theorem mD:∀ (bs:List Addr),(∀ b∈bs,∃ n,n≠[]/\IsNts s.heap b n)->(∀ (a:List Value) (ns:List Int),IntsAre a ns->a.length=bs.length->Q (a.map some) s) ->
  wpAny (model prog w) A ((bs.map Value.ref).mapM firstOfTuple') Q E s
 | [],_,q=>by
  simp only[List.map_nil,List.mapM_nil]
  exact Ft (q [] [] .nil rfl)
 | b::bs,h,q=>by
  rw[FV,List.mapM_cons]
  obtain ⟨n,h0,d⟩:=h b Fv
  refine Fs (n9 d h0 λi t=>?_)
  refine Fs (mD bs (λc f=>h c (Fw _ f)) λa ns hi e=>?_)
  exact Ft (q (.int i t::a) (i::ns) (.cons i t hi) (by simp[e]))
theorem zr (h2:bs≠[]) (d:∀ b∈bs,∃ n,n≠[]/\IsNts s.heap b n) (h:Q (bf true) s):wpAny (model prog w) A (keyKind' (bs.map Value.ref).toArray) Q E s:=by
 rw[keyKind'_eq,List.mapM_toArray]
 refine Fs ?_
 rw[map_eq_pure_bind]
 refine Fs (mD bs d λa ns hi f=>Ft ?_)
 have e:(a.map some).toArray.all (·.isSome)=true:=by simp
 rw[if_pos e]
 refine Fs (wpAny_rule ?_)
 have hf:(a.map some).toArray.filterMap id=a.toArray:=by simp
 rw[hf,oneTypeOnly'_eq,List.mapM_toArray,mapM_typeOf_ints hi]
 simp only[map_pure,pure_bind]
 cases a with
 | nil=>exact absurd (Gp.mp f.symm) h2
 | cons v a =>
  have c:((List.map (λ_=>Value.type "int") (v::a)).toArray.all λx=>x == Value.type "int")=true:=by
   simp only[List.all_toArray,List.all_map,List.all_eq_true]
   intro _ _
   rfl
  have h0:(List.map (λ_=>Value.type "int") (v::a)).toArray[0]?=some (Value.type "int"):=by simp
  rw[h0]
  simp only[c,if_true,pure_bind,Option.any_some]
  exact Ft h
end
theorem IsNts.at (x:IsNts h b n) (e:∀ o,h.get? b=some o->h'.get? b=some o):IsNts h' b n:=by
 obtain ⟨it,⟨o,e1,r⟩,j⟩:=x
 exact #[it,#[o,e o e1,r],j]
structure NRow (h:Heap) (bs:List Addr) (ns:List (List Int)):Prop where
 len:ns.length=bs.length
 at':∀ (i:Nat) (b:Addr) (n:List Int),bs[i]?=some b->ns[i]?=some n->IsNts h b n/\n≠[]
 asc:∀ (i:Nat) (x y:List Int),ns[i]?=some y->ns[i+1]?=some x->HT.lexLt x y=false
theorem NRow.keep (r:NRow h bs ns) (k:∀ b∈bs,∀ o,h.get? b=some o->h'.get? b=some o):NRow h' bs ns :=
 #[r.len,λi b n e1 a=>#[(r.at' i b n e1 a).1.at (k b (FL e1)),(r.at' i b n e1 a).2],r.asc]
theorem jh:∀ bs:List Addr,Vals (bs.map V.ref) (bs.map Value.ref)
 | []=>.nil
 | _::bs=>.cons rfl (jh bs)
end L2
end
section
namespace L2
open PySem
abbrev Up (xs:Array Nat):Prop:=xs.toList.Pairwise (· < ·)
theorem Up.at (h:Up xs) {i k:Nat} (a:i < k) (b:k < xs.size):xs[i]'(by omega) < xs[k]:=by
 have:=List.pairwise_iff_getElem.mp h i k (by simp;lia) (by simpa using b) a
 simpa using this
theorem z8 (h:Up xs) (j:Nat):∀ (fuel lo hi:Nat),hi - lo<=fuel->lo<=hi->hi<=xs.size ->
  (∀ i (z:i < xs.size),i < lo->xs[i] < j)->(∀ i (z:i < xs.size),hi<=i->j<=xs[i]) ->
  (∀ i (z:i < xs.size),i < SetTable.below.go xs j fuel lo hi->xs[i] < j)/\(∀ i (z:i < xs.size),SetTable.below.go xs j fuel lo hi<=i->j<=xs[i])/\SetTable.below.go xs j fuel lo hi<=xs.size:=by
 intro fuel
 induction fuel with
 | zero =>
  intro lo hi f l z a b
  have e:lo=hi:=by lia
  subst e
  unfold SetTable.below.go
  exact #[a,b,z]
 | succ fuel ih =>
  intro lo hi f l z a b
  unfold SetTable.below.go
  by_cases g:lo < hi
  .rw[if_pos g]
   have hm:(lo+hi) / 2 < xs.size:=by lia
   have m:xs.getD ((lo+hi) / 2) j=xs[(lo+hi) / 2]:=by simp[Array.getD,hm]
   dsimp only
   rw[m]
   by_cases c:xs[(lo+hi) / 2] < j
   .rw[if_pos c]
    refine ih _ _ (by lia) (by lia) z (λi k d=>?_) b
    by_cases e:i=(lo+hi) / 2
    .subst e;exact c
    .exact Nat.lt_trans (h.at (show i < (lo+hi) / 2 by lia) hm) c
   .rw[if_neg c]
    refine ih _ _ (by lia) (by lia) (by lia) a (λi k d=>?_)
    by_cases e:i=(lo+hi) / 2
    .subst e;lia
    .have:=h.at (show (lo+hi) / 2 < i by lia) k;lia
  .rw[if_neg g]
   have e:lo=hi:=by lia
   subst e
   exact #[a,b,z]
theorem mJ (h:Up xs) (j:Nat):(∀ i (z:i < xs.size),i < SetTable.below xs j->xs[i] < j)/\(∀ i (z:i < xs.size),SetTable.below xs j<=i->j<=xs[i])/\SetTable.below xs j<=xs.size :=
 z8 h j xs.size 0 xs.size (by lia) (by lia) (FQ _) (λi z c=>by lia) (λi z c=>by lia)
theorem tX (h:Up xs) {i:Nat} (hi:i < xs.size):SetTable.below xs (xs[i]+1)=i+1:=by
 obtain ⟨a,b,c⟩:=mJ h (xs[i]+1)
 generalize SetTable.below xs (xs[i]+1)=r at *
 by_cases l:r<=i
 .have:=b i hi l;lia
 .by_cases g:i+1 < r
  .have h1:=a (i+1) (by lia) g
   have h2:=h.at (show i < i+1 by lia) (by lia)
   lia
  .lia
theorem tW (h:Up xs):SetTable.below xs 0=0:=by
 obtain ⟨a,b,c⟩:=mJ h 0
 by_cases l:0 < SetTable.below xs 0
 .have:=a 0 (by lia) l;lia
 .lia
theorem vq (h:Up xs) {j:Nat} (m:(xs[SetTable.below xs j]? == some j)=false):Up (SetTable.insertAt xs (SetTable.below xs j) j):=by
 obtain ⟨a,b,c⟩:=mJ h j
 show (SetTable.insertAt xs (SetTable.below xs j) j).toList.Pairwise _
 rw[SetTable.toList_insertAt]
 generalize SetTable.below xs j=r at *
 have g:∀ x∈xs.toList.take r,x < j:=λx d=>by
  obtain ⟨i,hi,rfl⟩:=List.mem_take_iff_getElem.mp d
  simp at hi
  exact a i (by lia) (by lia)
 have f:∀ x∈xs.toList.drop r,j < x:=λx d=>by
  obtain ⟨i,hi,rfl⟩:=List.mem_drop_iff_getElem.mp d
  simp at hi
  have h1:=b (r+i) (by lia) (by lia)
  have h2:xs[r]'(by lia)≠j:=by
   intro e
   rw[Array.getElem?_eq_getElem (by lia),e] at m
   simp at m
  simp only[Array.getElem_toList]
  rcases Nat.eq_zero_or_pos i with e | e
  .subst e
   simp only[Nat.add_zero] at h1 ⊢
   lia
  .have h3:=h.at (show r < r+i by lia) (by lia)
   have n:=b r (by lia) (FQ _)
   lia
 have k:(xs.toList.take r++xs.toList.drop r).Pairwise (· < ·):=by rw[List.take_append_drop];exact h
 rw[List.pairwise_append] at k ⊢
 refine #[k.1,List.pairwise_cons.mpr #[f,k.2.1],λx d y l=>?_]
 rcases FD.mp l with rfl | l
 .exact g x d
 .exact Nat.lt_trans (g x d) (f y l)
theorem vC {t:SetTable} {j:Nat} (h:∀ i,t.slot j≠.live i):(t.place[SetTable.below t.place j]? == some j)=false:=by
 cases e:(t.place[SetTable.below t.place j]? == some j) with
 | false=>rfl
 | true =>
  refine absurd ?_ (h (SetTable.below t.place j))
  unfold SetTable.slot
  simp only[e,if_true]
theorem yE {h:Int} {j:Nat}:∀ (n:Nat) (p:SetTable.Probe),(∀ x,p.dummy=some x->∀ i,t.slot x≠.live i) ->
  SetTable.probe.go t f h n p=some (.empty j d)->∀ i,t.slot (d.getD j)≠.live i:=by
 intro n
 induction n with
 | zero=>intro p _ e;simp[SetTable.probe.go] at e
 | succ n ih =>
  intro p g e
  have b:∀ q:SetTable.Probe,(t.advance q).dummy=q.dummy:=λq=>by unfold SetTable.advance;split <;> rfl
  unfold SetTable.probe.go at e
  split at e
  .rename_i c
   simp only[Option.some.injEq,SetTable.Met.empty.injEq] at e
   obtain ⟨e1,k⟩:=e
   cases hd:p.dummy with
   | none=>rw[<- k,hd,Option.getD_none,<- e1,c];exact λi z=>by cases z
   | some x=>rw[<- k,hd,Option.getD_some];exact g x hd
  .rename_i c
   refine ih _ (λx a=>?_) e
   rw[b] at a
   simp only[Option.some.injEq] at a
   rw[<- a,c]
   exact λi z=>by cases z
  .split at e
   .simp at e
   .exact ih _ (λx a=>g x (by rw[<- a,b])) e
theorem ww {t:SetTable} {h:Int} {j:Nat} (e:t.freeSlot h=some (j,b)):∀ i,t.slot j≠.live i:=by
 unfold SetTable.freeSlot at e
 split at e
 .rename_i f d a
  simp only[Option.some.injEq,Prod.mk.injEq] at e
  rw[<- e.1]
  exact yE _ _ (λx c=>by simp[SetTable.probeStart] at c) a
 .cases e
structure Tab (b:Bool) (t:SetTable):Prop where
 up:Up t.place
 led:t.led=b
theorem xb (n:Nat):Up (Array.range n):=by
 show (Array.range n).toList.Pairwise _
 rw[Array.toList_range]
 exact List.pairwise_lt_range
theorem Tab.stand (h:Tab b t) (n:Nat):Tab b (t.standIn n):=#[xb n,h.led]
theorem Tab.or (h:Tab b t) (n:Nat):Tab b (t.orStandIn n):=by
 unfold SetTable.orStandIn
 split
 .exact h
 .exact h.stand n
theorem Tab.new (h:Tab b t) (es:Array (Int×Value)) (k:Int) (x:Value):Tab b (layNew t es k x).2.1:=by
 unfold layNew
 split
 .rename_i j d e
  have z:Tab b (t.put j).1:=#[vq h.up (vC (ww e)),h.led]
  exact z.or _
 .exact h.stand _
theorem Tab.all (h:Tab b t) (es:Array (Int×Value)) (n:Nat):Tab b (relayAll t es n).2.1:=by
 unfold relayAll
 split
 .rename_i t' order e
  dsimp only
  split
  .unfold SetTable.relaid SetTable.laid at e
   simp only[Option.bind_eq_bind,F8,Option.pure_def,Option.some.injEq,Prod.mk.injEq] at e
   obtain ⟨k,_,e1,_⟩:=e
   subst e1
   refine #[?_,h.led]
   have aux:∀ (f:Nat->Option Nat) (m:Nat),((List.filterMap (λj=>(f j).map (j,·)) (List.range m)).map (·.1)).Pairwise (· < ·):=λf m=>by
    rw[List.pairwise_map,List.pairwise_filterMap]
    refine List.pairwise_lt_range.imp λ{a c} d x g y i=>?_
    rw[Fz] at g i
    obtain ⟨_,_,rfl⟩:=g
    obtain ⟨_,_,rfl⟩:=i
    exact d
   exact aux _ _
  .exact h.stand _
 .exact h.stand _
theorem Tab.off (h:Tab b t) (c:Bool):Tab b (if c=true then t else { t with plain:=false }):=by
 cases c
 .exact #[h.up,h.led]
 .exact h
end L2
end
section
namespace L2
open PySem PyProof.Rows
abbrev ik (w:World):Bool:=!w.params.followText "set-order"
def SetL (prog:Program) (w:World) (h:Heap) (a:Addr) (ns:List Int):Prop :=
 ∃ o es b t ms,h.get? a=some o/\o.ExactSet/\o.data=.set es b t/\ElemsOf (intKind prog w) es.toList/\IntsAre (es.toList.map (·.2)) ms/\ms.Perm ns/\es.size < scanBound/\t.fits es.size=true/\Tab (ik w) t
theorem SetL.keep (x:SetL prog w h a ns) (k:∀ o,h.get? a=some o->h'.get? a=some o):SetL prog w h' a ns :=
 let #[o,es,b,t,ms,e,r]:=x;#[o,es,b,t,ms,k o e,r]
theorem SetL.typeIs {s:Shared} (x:SetL prog w s.heap a ns):s.TypeIs (.ref a) "set" :=
 let #[o,_,_,_,_,e,c,_]:=x;#[o,e,c.1]
def met (ns:List Int) (k:Int):List Int:=if k∈ns then ns else ns++[k]
theorem eW:∀ {l:List (Int×Value)},ElemsOf (intKind prog w) l->∃ ms,IntsAre (l.map (·.2)) ms
 | [],_=>#[[],.nil]
 | e::l,h=>by
  obtain ⟨ms,hm⟩:=eW h.tail
  obtain ⟨⟨k,a,_⟩,_⟩:=h.head
  obtain ⟨t,b⟩:=Value.isInt_shape a
  refine #[k::ms,?_]
  rw[FV,b]
  exact .cons k t hm
theorem j8 (p:List.Perm vs ws) (a:IntsAre vs ns) (b:IntsAre ws ms):ns.Perm ms:=by
 rw[<- a.nums,<- b.nums]
 exact p.map _
section
variable {prog:Program} {w:World} {A:Around} {E:Value->Shared->Prop} {s:Shared}
theorem wx {l:List (Int×Value)} {k:Int} (hi:IntsAre (l.map (·.2)) ms):(l.findIdx? (λe=>(intKind prog w).is k e.2)).isSome=true ↔ k∈ms:=by
 induction l generalizing ms with
 | nil=>cases hi;simp
 | cons e l ih =>
  obtain ⟨h0,v⟩:=e
  rw[FV] at hi
  cases hi with
  | cons n t hr =>
   rw[List.findIdx?_cons]
   by_cases c:k=n
   .subst c
    rw[if_pos (intKind_is prog w k t)]
    simp
   .have:(intKind prog w).is k (Value.int n t)=false:=by
     cases z:(intKind prog w).is k (Value.int n t) with
     | false=>rfl
     | true=>exact absurd ((intKind prog w).inj _ _ _ z (intKind_is prog w n t)) c
    rw[this]
    simp only[Ga,if_false,Option.isSome_map,FD,c,false_or]
    exact ih hr
theorem xM {k:Int} (hS:SetL prog w s.heap a ns) (M:ns.length+1 < scanBound) (h:∀ b h',Heap.SameBut a s.heap h'->SetL prog w h' a (met ns k)->Q b { s with heap:=h' }):wpAny (model prog w) A (setAddHashed a (.int k tk) (hashInt k)) Q E s:=by
 obtain ⟨o,es,N,t,ms,y,hex,hd,g,hi,B,P,hf,T⟩:=hS
 have hn:es.size=ns.length:=by rw[<- B.length_eq,<- hi.length,FJ,Array.length_toList]
 have F:=wx (prog:=prog) (w:=w) (k:=k) hi
 unfold setAddHashed setAddHashedIn
 refine Fu (Fs (wpAny_setState_of y hd hf ?_))
 dsimp only
 rw[if_pos (byScan_of (x:=.int k tk) rfl P g)]
 refine Fs (Fs (wpAny_rule (Fs (wpAny_setScan_of (knd:=intKind prog w) (intKind_is prog w k tk) y hd hf g ?_))))
 cases V:List.findIdx? (λe=>(intKind prog w).is k e.2) es.toList with
 | some j =>
  rw[V] at F
  have H:k∈ns:=B.mem_iff.mp (F.mp rfl)
  refine Ft (Ft ?_)
  have:=h false s.heap (Heap.SameBut.refl a s.heap) #[o,es,N,t,ms,y,hex,hd,g,hi,by rw[met,if_pos H];exact B,P,hf,T]
  exact this
 | none =>
  rw[V] at F
  have H:k ∉ ns:=λz=>by have:=F.mpr (B.mem_iff.mpr z);simp at this
  have p:=layNew_perm t es (hashInt k) (.int k tk)
  have f1:=layNew_fits t es (hashInt k) (.int k tk)
  have t1:=T.new es (hashInt k) (.int k tk)
  generalize layNew t es (hashInt k) (.int k tk)=L at p f1 t1 ⊢
  obtain ⟨d,u,τ,R⟩:=L
  dsimp only at p f1 t1 ⊢
  rw[Array.toList_push] at p
  have n:ElemsOf (intKind prog w) d.toList:=(g.push (intKind_is prog w k tk) rfl).perm p
  obtain ⟨J,S⟩:=eW n
  have b1:d.size=es.size+1:=by have:=p.length_eq;simpa using this
  have q1:J.Perm (met ns k):=by
   have ρ:IntsAre ((es.toList++[(hashInt k,Value.int k tk)]).map (·.2)) (ms++[k]):=by
    rw[List.map_append]
    exact hi.append (.cons k tk .nil)
   rw[met,if_neg H]
   exact (j8 (p.map _) S ρ).trans (B.append_right [k])
  have done:∀ (h1:Heap) (l:Obj) (f:Array (Int×Value)) (m:Nat) (i:SetTable),h1.get? a=some l->l.ExactSet->l.data=.set f m i->f.toList.Perm d.toList->i.fits f.size=true->Tab (ik w) i->Heap.SameBut a s.heap h1->Q true { s with heap:=h1 }:=by
   intro h1 l f m i g1 g2 g3 C g5 X g7
   obtain ⟨I,W⟩:=eW (n.perm C)
   exact h true h1 g7 #[l,f,m,i,I,g1,g2,g3,n.perm C,W,(j8 (C.map _) W S).trans q1,by have:=C.length_eq;simp at this;lia,g5,X]
  have φ:∀ (b:Bool) {K:Shared} {G:Unit->Shared->Prop},G () K->wpAny (model prog w) A (match b with | true=>rule "set.scan.the-table-gave-way" | false=>pure ()) G E K:=λb K G q=>by
   cases b
   .exact Ft q
   .exact wpAny_rule q
  have two:∀ (c:Bool),wpAny (model prog w) A (do
    storeSet a d (if c=true then u else { u with plain:=false })
    if (!τ && (if c=true then u else { u with plain:=false }).tooFull)=true then do
     let r:=relayAll (if c=true then u else { u with plain:=false }) d (SetTable.grown d.size)
     (match r.2.2 with | true=>rule "set.scan.the-table-gave-way" | false=>pure ())
     storeSet a r.1 r.2.1
     pure (some true)
    else pure (some true)) (λr s'=>r=some true/\Q true s') E s:=by
   intro c
   have i:=t1.off c
   have f2:(if c=true then u else { u with plain:=false }).fits d.size=true:=by cases c <;> exact f1
   generalize (if c=true then u else { u with plain:=false })=v at i f2 ⊢
   refine Fs (wpAny_storeSet_of (hz:=fits_of_scanBound (by lia)) y hd ?_)
   have l:(s.heap.update a (Obj.putSet d v)).get? a=some { o with data:=.set d (N+1) v }:=by
    have:=F1 (Obj.putSet d v) y (by rw[putSet_of d v hd];rfl)
    rw[putSet_of d v hd] at this
    exact this
   split
   .have D:=relayAll_perm v d (SetTable.grown d.size)
    have σ:=relayAll_fits v d (SetTable.grown d.size)
    have t3:=i.all d (SetTable.grown d.size)
    generalize relayAll v d (SetTable.grown d.size)=r at D σ t3 ⊢
    obtain ⟨f,v2,g2⟩:=r
    dsimp only at D σ t3 ⊢
    have b3:f.size=d.size:=by have:=D.length_eq;simpa using this
    refine Fs (φ _ (Fs (wpAny_storeSet_of (hz:=fits_of_scanBound (by lia)) l rfl (Ft #[rfl,?_]))))
    have o2:((s.heap.update a (Obj.putSet d v)).update a (Obj.putSet f v2)).get? a=some { o with data:=.set f (N+1+1) v2 }:=by
     have:=F1 (Obj.putSet f v2) l (by rw[putSet_of f v2 rfl];rfl)
     rw[putSet_of f v2 rfl] at this
     exact this
    exact done _ _ f _ v2 o2 hex rfl D σ t3 ((Heap.SameBut.update _ a _).trans (Heap.SameBut.update _ a _))
   .refine Ft #[rfl,?_]
    exact done _ _ d _ v l hex rfl (List.Perm.refl _) f2 i (Heap.SameBut.update _ a _)
  have fin:∀ (r:Option Bool) (s':Shared) {x:Sem Bool},r=some true/\Q true s'->wpAny (model prog w) A (match r with | some b=>pure b | none=>x) Q E s':=λr s' x z=>by
   obtain ⟨rfl,q⟩:=z
   exact Ft q
  refine Fs (φ _ ?_)
  split
  .refine Fs (wpAny_of_eq (a:=true) rfl ?_)
   exact wpAny_mono (two true) (λr s' z=>fin r s' z) λ_ _ z=>z
  .refine Fs (Ft ?_)
   exact wpAny_mono (two true) (λr s' z=>fin r s' z) λ_ _ z=>z
end
theorem uI (ns:List Int) (k:Int):(met ns k).length<=ns.length+1:=by
 unfold met
 split <;> simp
theorem qI:∀ (ks ns:List Int),(ks.foldl met ns).length<=ns.length+ks.length
 | [],ns=>FQ _
 | k::ks,ns=>by
  have a:=qI ks (met ns k)
  have b:=uI ns k
  simp only[List.foldl_cons,F5]
  lia
section
variable {prog:Program} {w:World} {A:Around} {E:Value->Shared->Prop}
theorem xH (q:A.handled=none) (j:I≠S) (z:l≠S) (x:l≠I) :
  ∀ (k i:Nat) (s:Shared) (ns ms:List Int),items.size - i=k->s.heap.IsTupleIter I l i->s.heap.IsTuple l items->IntsAre (items.toList.drop i) ms->SetL prog w s.heap S ns->ns.length+ms.length+1 < scanBound ->
   (∀ h' tk,SetL prog w h' S (ms.foldl met ns)->(∀ b o,b≠S->b≠I->s.heap.get? b=some o->h'.get? b=some o)->R (.ok (.ret .none)) { s with heap:=h',toks:=tk }) ->
   codeAny (model prog w) A (.builtin "set.update.loop" #[[.ref S,.ref I],[]]) R s:=by
 intro k
 induction k with
 | zero =>
  intro i s ns ms r hi f a m p h
  refine codeAny_builtin F.entry_set_update_loop ?_
  rw[Around.under_plainId F.plain_set_update_loop _]
  have e:ms=[]:=by
   rw[List.drop_eq_nil_of_le (by simp;lia)] at a
   cases a
   rfl
  subst e
  refine Fs (wpAny_pyNext_tuple_end (s:=s) q hi f (Array.getElem?_eq_none (by lia)) λh' d=>?_)
  exact Ft (h h' s.toks (m.keep λo e=>d _ _ (Ne.symm j) e) λb o _ c e=>d _ _ c e)
 | succ k ih =>
  intro i s ns ms r hi f a m p h
  have lt:i < items.size:=by lia
  refine codeAny_builtin F.entry_set_update_loop ?_
  rw[Around.under_plainId F.plain_set_update_loop _]
  rw[List.drop_eq_getElem_cons (by simpa using lt)] at a
  generalize D:items.toList[i]=v at a
  have d:items[i]?=some v:=by rw[<- D,Array.getElem?_eq_getElem lt,Array.getElem_toList]
  cases a with
  | @cons n t _ ms' hr =>
   refine Fs (wpAny_pyNext_tuple_item (s:=s) hi f d λh1 y s1=>?_)
   have B:SetL prog w h1 S ns:=m.keep λo e=>s1.extBut _ _ (Ne.symm j) e
   have E:h1.IsTuple l items:=f.extBut s1.extBut x
   refine Fs (Fu (Fu (Fs ((intKind prog w).pyHash (k:=n) (intKind_is prog w n t) ?_))))
   refine xM (s:={ s with heap:=h1,toks:=s.toks+1 }) B (by simp only[F5] at p;lia) λb h2 s2 C=>?_
   refine Ft #[plainId_quiet F.plain_set_update_loop _,?_]
   have G:=uI ns n
   refine ih (i+1) { s with heap:=h2,toks:=s.toks+1 } (met ns n) ms' (by lia) (y.extBut s2.extBut j) (E.extBut s2.extBut z) hr C (by simp only[F5] at p;lia) λh3 g u k3=>?_
   exact h h3 g u λb o c1 c2 e=>k3 b o c1 c2 (s2.extBut _ _ c1 (s1.extBut _ _ c2 e))
variable {s:Shared}
theorem BG (h:∀ o,o=({ cls:=.type "set",dict:=none,data:=.set (List.toArray []) 0 (.fresh 0 0 (ik w)) }:Obj)->Q (.ref s.heap.objs.size) { s with heap:=s.heap.push o }) :
  codeAny (model prog w) A (.call (.builtin "set.__new__") #[[.type "set",a],[]]) (wants Q E) s:=by
 refine codeAny_of_tree ?_
 refine Fs (wpAny_of_eq (F.newCall_set_1 a) (Ft #[plainId_quiet F.plain_set_new _,codeAny_builtin F.entry_set_new ?_]))
 rw[Around.under_plainId F.plain_set_new _]
 have sub:=sub_set_self
 obtain ⟨b,g,d,tk,os⟩:=s
 wp_walk
 refine wpAny_askSetting ?_
 wp_walk
 exact h _ rfl
theorem pF (C:A.handled=none) (u:s.heap.IsTuple l items) (hi:IntsAre items.toList ns) (J:items.size+1 < scanBound) (h:∀ h' tk,SetL prog w h' s.heap.objs.size (ns.foldl met [])->(∀ b o,s.heap.get? b=some o->h'.get? b=some o)->Q (.ref s.heap.objs.size) { s with heap:=h',toks:=tk }) :
  wpAny (model prog w) A (call (.type "set") [.ref l]) Q E s:=by
 obtain ⟨c,tl,q⟩:=F.called_set.mro
 have made:=F.called_set.made
 have below:=F.called_set.sub
 have j:=F.called_set.notType
 have D:=F.called_set.canCreate
 have one:=F.typeCall_set_1 (.ref l)
 obtain ⟨i,g,d,tk,os⟩:=s
 refine wpAny_call (codeAny_of_tree (Ft #[Code.quiet_builtin _ (by decide +kernel),codeAny_builtin F.entry_type_call ?_]))
 rw[Around.under_plain (weight_type_call_type "set" [.ref l] []) rfl]
 repeat (any_goals (first | assumption | wp_step))
 refine codeAny_mono (BG (E:=E) (Q:=λv r=>v=.ref i.objs.size/\r=#[i.push { cls:=.type "set",dict:=none,data:=.set (List.toArray []) 0 (.fresh 0 0 (ik w)) },g,d,tk,os]) λo e=>by subst e;exact #[rfl,rfl]) ?_
 rintro (e | f) r n
 .exact n
 cases f with
 | ret v =>
  obtain ⟨rfl,rfl⟩:=n
  have got:(i.push { cls:=.type "set",dict:=none,data:=.set (List.toArray []) 0 (.fresh 0 0 (ik w)) }).get? i.objs.size=some { cls:=.type "set",dict:=none,data:=.set (List.toArray []) 0 (.fresh 0 0 (ik w)) }:=FI _ rfl
  have ty:(#[i.push { cls:=.type "set",dict:=none,data:=.set (List.toArray []) 0 (.fresh 0 0 (ik w)) },g,d,tk,os]:Shared).TypeIs (.ref i.objs.size) "set":=#[_,got,rfl]
  have p:(i.push { cls:=.type "set",dict:=none,data:=.set (List.toArray []) 0 (.fresh 0 0 (ik w)) }).IsTuple l items:=u.push _
  refine Fs (wpAny_isInstance ty sub_set_self (wpAny_ite_false rfl ?_))
  refine Fs (Fu (wpAny_callSpecial?_slot ty F.called_set.init (wpAny_call (codeAny_call_builtin F.called_set.init.plain F.entry_set_init (check_set_init_1 ty ?_)))))
  obtain ⟨⟨c2,H,G,s2⟩,h2,t,I,x⟩:=id p
  simp only at t x
  subst t x
  have B:=F.sub_tuple_set
  have y:=F.sub_tuple_frozenset
  wp_walk using wpAny_pyIter_tuple p
  have lt:l < i.objs.size:=by obtain ⟨_,e,_⟩:=u;exact FF e
  refine xH (l:=l) (items:=items) (by simpa using C) (by rw[Gf];exact Nat.ne_of_gt (Nat.lt_succ_self _)) (FT lt) (by rw[Gf];exact FT (Nat.lt_succ_of_lt lt)) items.size 0 _ [] ns (by lia) #[_,FI _ rfl,rfl,rfl] (p.push _) (by simpa using hi) #[_,(List.toArray []),0,_,[],Fy _ got,#[rfl,rfl,rfl],rfl,(λe he=>by simp at he),.nil,List.Perm.refl _,by decide,rfl,#[List.Pairwise.nil,rfl]] (by have:=hi.length;simp at this;simp;lia) λh' m S k=>?_
  wp_walk
  exact h h' m S λb o e=>k b o (λz=>by subst z;exact absurd (FF e) (Nat.lt_irrefl _)) (λz=>by have a:=FF e;rw[z,Gf] at a;exact absurd a (Nat.not_lt.mpr (Nat.le_succ _))) (Fy _ (Fy _ e))
 | _=>exact n.elim
end
theorem Bp (f:Nat->Nat):∀ (n k:Nat) (left:List α) (out:Array α),left.length<=n->(pickOrder.go f n k left out).toList.Perm (out.toList++left):=by
 intro n
 induction n with
 | zero =>
  intro k left out h
  obtain rfl:left=[]:=Gp.mp (by lia)
  simp[pickOrder.go]
 | succ n ih =>
  intro k left out h
  unfold pickOrder.go
  cases e:left[f k % left.length]? with
  | none =>
   have d:left.length<=f k % left.length:=List.getElem?_eq_none_iff.mp e
   have z:left.length=0:=by
    rcases Nat.eq_zero_or_pos left.length with z | z
    .exact z
    .have:=Nat.mod_lt (f k) z;lia
   obtain rfl:left=[]:=Gp.mp z
   simp
  | some x =>
   have b:f k % left.length < left.length:=(FK.mp e).1
   dsimp only
   refine (ih _ _ _ (by rw[List.length_eraseIdx];split <;> lia)).trans ?_
   rw[Array.toList_push,List.append_assoc]
   refine List.Perm.append_left _ ?_
   rw[List.eraseIdx_eq_take_drop_succ]
   have c:left=left.take (f k % left.length)++x::left.drop (f k % left.length+1):=by
    rw[<- (FK.mp e).2,<- List.drop_eq_getElem_cons b,List.take_append_drop]
   have p:=(List.perm_middle (a:=x) (l₁:=left.take (f k % left.length)) (l₂:=left.drop (f k % left.length+1))).symm
   rw[<- c] at p
   exact p
theorem vP (f:Nat->Nat) (xs:Array α):(pickOrder f xs).toList.Perm xs.toList:=by
 have:=Bp f xs.size 0 xs.toList (List.toArray []) (by simp)
 simpa[pickOrder] using this
section
variable {prog:Program} {w:World} {A:Around} {E:Value->Shared->Prop}
theorem oh:∀ (n:Nat) (xs:List α) (s:Shared) {Q:List α->Shared->Prop},xs.length<=n->(∀ ys d',ys.Perm xs->Q ys { s with drawn:=d' })->wpAny (model prog w) A (drawOrder n xs) Q E s
 | 0,xs,s,Q,h,hQ=>by
  obtain rfl:xs=[]:=Gp.mp (by lia)
  exact Ft (hQ [] s.drawn (List.Perm.refl _))
 | n+1,[],s,Q,h,hQ=>Ft (hQ [] s.drawn (List.Perm.refl _))
 | n+1,x::xs,s,Q,h,hQ=>by
  unfold drawOrder
  refine Fs (λΓ p hΓ=>?_)
  show Sem.wp _ _ (Sem.choose _ _ Sem.pure) _ _ _ _
  rw[Sem.wp_choose]
  refine #[by simp,?_]
  generalize hi:(model prog w).w.draws .order (s.drawn.get .order) % (x::xs).length=i
  have lt:i < (x::xs).length:=by rw[<- hi];exact Nat.mod_lt _ (by simp)
  refine (show wpAny (model prog w) A (pure i) _ E { s with drawn:=s.drawn.bump .order } from Ft ?_) Γ p hΓ
  obtain ⟨y,a⟩:∃ y,(x::xs)[i]?=some y:=#[_,FE lt]
  rw[a]
  dsimp only
  refine Fs (oh n ((x::xs).eraseIdx i) _ (by rw[List.length_eraseIdx,if_pos lt];simp at h ⊢;lia) λys d' b=>?_)
  refine Ft (hQ (y::ys) d' ?_)
  refine (b.cons y).trans ?_
  rw[List.eraseIdx_eq_take_drop_succ]
  have c:x::xs=(x::xs).take i++y::(x::xs).drop (i+1):=by
   rw[<- (FK.mp a).2,<- List.drop_eq_getElem_cons lt,List.take_append_drop]
  exact (List.perm_middle.symm).trans (by rw[<- c])
end
theorem slot_next:Slot "set_iterator" "__next__" "set_iterator.__next__" :=
 .of (owner:="set_iterator") (n:="__next__") (by rw[typeLookup_type,builtinLookup_eq_fast];kernel_rfl) (by decide +kernel) (by decide +kernel) (by decide +kernel) (by first | exact .inl (by decide +kernel) | exact .inr (by decide +kernel)) (by rw[isSubtype_type];kernel_rfl)
theorem mE:entryFor table "set_iterator.__next__"=some Builtin.«set_iterator.__next__»:=entryFor_of_tree (by kernel_rfl)
theorem yN:Manifest.owners.lookup (String.ofList (['r','o','t','a','r','e','t','i','_','t','e','s']:List Char).reverse)=some Manifest.sig_set_iterator:=by kernel_rfl
theorem oB (a:Value):argsOk "set_iterator.__next__" #[[a],[]]:=by
 unfold argsOk
 rw[signature?_of (id:="set_iterator.__next__") (n:=['_','_','t','x','e','n','_','_']) (o:=['r','o','t','a','r','e','t','i','_','t','e','s']) (by kernel_rfl) yN]
 kernel_rfl
theorem s9:entryFor table "set.__iter__"=some Builtin.«frozenset.__iter__»:=entryFor_alias (id':="frozenset.__iter__") (by kernel_rfl) rfl (by decide +kernel) (by kernel_rfl)
def SIt (w:World) (h:Heap) (I a:Addr) (es:Array (Int×Value)) (b:Nat) (t:SetTable) (ord:List Value) (i:Nat):Prop :=
  ∃ first,h.get? I=some { cls:=.type "set_iterator",dict:=none,data:=.fields (List.toArray [first,rawInt i,.ref a,rawInt es.size,rawInt b]),slots:=(List.toArray []) } /\
    ((w.params.followText "set-order"=true /\ first=rawInt 0 /\ ord=(pickOrder (w.params.setOrder a b) es).toList.map (·.2)) \/
     (w.params.followText "set-order"=false /\ (!t.plain && es.size > 1)=false /\ (∃ k:Nat,first=rawInt k /\ SetTable.below t.place k=i) /\ ord=es.toList.map (·.2)) \/
     (∃ (T:Addr) (ps:List Nat),first=.ref T /\ T≠I /\ h.get? T=some { cls:=.type "tuple",data:=.seq (ps.map λ(p:Nat)=>rawInt p).toArray } /\ ps.Perm (List.range es.size) /\ ord=ps.filterMap λp=>es[p]?.map (·.2)))
structure SAt (w:World) (h:Heap) (a:Addr) (es:Array (Int×Value)) (ep:Nat) (t:SetTable):Prop where
 at':∃ o,h.get? a=some o/\o.data=.set es ep t
 fits:t.fits es.size=true
 tab:Tab (ik w) t
section
variable {prog:Program} {w:World} {A:Around} {E:Value->Shared->Prop} {s:Shared}
theorem xG {d:Nat} {i:Nat} (K:SIt w s.heap I a es d t ord i) (H:SAt w s.heap a es d t) (c:ord[i]?=some v) (h:∀ h',SIt w h' I a es d t ord (i+1)->Heap.SameBut I s.heap h'->Q (some v) { s with heap:=h' }):wpAny (model prog w) A (pyNext (.ref I)) Q E s:=by
 obtain ⟨⟨o,f,hd⟩,hf,B⟩:=H
 obtain ⟨first,g1,m⟩:=K
 obtain ⟨y,g,F,tk,os⟩:=s
 have ty:(#[y,g,F,tk,os]:Shared).TypeIs (.ref I) "set_iterator":=#[_,g1,rfl]
 have led:=B.led
 unfold pyNext
 refine Fs (wpAny_attempt (wpAny_callSpecial?_slot ty slot_next (wpAny_call_entry slot_next ty mE ?_ (oB _))))
 rcases m with ⟨l,rfl,b⟩ | ⟨l,nd,⟨k,rfl,bk⟩,b⟩ | ⟨T,ps,rfl,D,gT,pp,b⟩
 .have N:(model prog w).w.params.followText "set-order"=true:=l
  have n:(pickOrder (w.params.setOrder a d) es)[i]?.map (·.2)=some v:=by rw[<- c,b];simp
  obtain ⟨x,G,ex⟩:=Fz.mp n
  have at2:Option.map (λe:Int×Value=>(e.2,Int.toNat 0)) (pickOrder (({ program:=(model prog w).prog,params:=(model prog w).w.params }:Setting).params.setOrder a d) es)[(i:Int).toNat]?=some (v,0):=by
   refine (show Option.map _ (pickOrder (w.params.setOrder a d) es)[(i:Int).toNat]?=_ from ?_)
   rw[Int.toNat_natCast,G,<- ex];rfl
  wp_walk using wpAny_setState_of f hd hf,wpAny_askSetting
  rw[at2]
  wp_walk
  exact #[_,rfl,Ft (h _ #[rawInt 0,F1 _ (F1 _ g1 rfl) rfl,.inl #[l,rfl,b]] ((Heap.SameBut.update ..).trans (Heap.SameBut.update ..)))]
 .have N:(model prog w).w.params.followText "set-order"=false:=l
  have C:t.led=true:=by rw[led];simp[ik,l]
  have lt:i < es.size:=by
   have:=(FK.mp c).1
   rw[b] at this
   simpa using this
  have P:t.place.size=es.size:=by
   unfold SetTable.fits at hf
   rw[Bool.and_eq_true] at hf
   exact eq_of_beq hf.1
  have ev:es[i].2=v:=by
   rw[b,FP,Array.getElem?_toList,Array.getElem?_eq_getElem lt] at c
   simpa using c
  have r:SetTable.below t.place (k:Int).toNat=i:=bk
  wp_walk using wpAny_setState_of f hd hf,wpAny_askSetting
  refine wpAny_ite_false (show decide ((!t.plain && decide (es.size > 1))=true)=false by rw[nd];rfl) ?_
  wp_walk
  rw[r,Array.getElem?_eq_getElem lt,Array.getElem?_eq_getElem (show i < t.place.size by lia)]
  wp_walk
  subst ev
  exact #[_,rfl,Ft (h _ #[rawInt (t.place[i]+1:Nat),F1 _ (F1 _ g1 rfl) rfl,.inr (.inl #[l,nd,#[_,rfl,tX B.up (by lia)],b])] ((Heap.SameBut.update ..).trans (Heap.SameBut.update ..)))]
 .obtain ⟨p,x,u,j,ev⟩:∃ p x,ps[i]?=some p/\es[p]?=some x/\x.2=v:=by
   have all:∀ (l:List Nat),(∀ p∈l,p < es.size)->∀ i:Nat,(l.filterMap λp=>es[p]?.map λx:Int×Value=>x.2)[i]?=l[i]?.bind λp=>es[p]?.map λx:Int×Value=>x.2:=by
    intro l
    induction l with
    | nil=>intro _ i;simp
    | cons p l ih =>
     intro z i
     rw[List.filterMap_cons,Array.getElem?_eq_getElem (z p Fv)]
     cases i with
     | zero=>simp[Array.getElem?_eq_getElem (z p Fv)]
     | succ i=>simpa using ih (λq σ=>z q (Fw _ σ)) i
   rw[b,all ps (λp y=>List.mem_range.mp (pp.mem_iff.mp y))] at c
   obtain ⟨p,e1,J⟩:=F8.mp c
   obtain ⟨x,L,M⟩:=Fz.mp J
   exact #[p,x,e1,L,M]
  wp_walk using wpAny_setState_of f hd hf,wpAny_askSetting
  rw[show (List.map (λp:Nat=>rawInt p) ps).toArray[(i:Int).toNat]?=some (rawInt p) by simp[u]]
  wp_walk using wpAny_setState_of f hd hf,wpAny_askSetting
  rw[show es[(p:Int).toNat]?=some x from j]
  wp_walk
  subst ev
  exact #[_,rfl,Ft (h _ #[.ref T,F1 _ g1 rfl,.inr (.inr #[T,ps,rfl,D,(Heap.SameBut.update ..).extBut _ _ D gT,pp,b])] (Heap.SameBut.update ..))]
theorem AJ {h:Nat} {i:Nat} (D:A.handled=none) (J:SIt w s.heap I a es h t ord i) (G:SAt w s.heap a es h t) (d:ord.length<=i) (j:∀ h',Heap.ExtBut I s.heap h'->Q none { s with heap:=h' }):wpAny (model prog w) A (pyNext (.ref I)) Q E s:=by
 obtain ⟨⟨o,u,hd⟩,hf,B⟩:=G
 obtain ⟨first,g1,m⟩:=J
 obtain ⟨r,g,C,tk,os⟩:=s
 have ty:(#[r,g,C,tk,os]:Shared).TypeIs (.ref I) "set_iterator":=#[_,g1,rfl]
 have led:=B.led
 have c:A.in1.handled=none:=D
 unfold pyNext
 refine Fs (wpAny_attempt (wpAny_callSpecial?_slot ty slot_next (wpAny_call_entry slot_next ty mE ?_ (oB _))))
 rcases m with ⟨l,rfl,f⟩ | ⟨l,nd,⟨k,rfl,bk⟩,f⟩ | ⟨T,ps,rfl,K,gT,pp,f⟩
 .have F:(model prog w).w.params.followText "set-order"=true:=l
  have at2:Option.map (λe:Int×Value=>(e.2,Int.toNat 0)) (pickOrder (({ program:=(model prog w).prog,params:=(model prog w).w.params }:Setting).params.setOrder a h) es)[(i:Int).toNat]?=none:=by
   refine (show Option.map _ (pickOrder (w.params.setOrder a h) es)[(i:Int).toNat]?=_ from ?_)
   rw[Int.toNat_natCast,Array.getElem?_eq_none (by rw[f] at d;simpa using d)];rfl
  wp_walk using wpAny_setState_of u hd hf,wpAny_askSetting
  rw[at2]
  wp_walk
  refine wpAny_raiseNew_none c ?_
  refine Fs (wpAny_isInstance (v:=.ref _) (T:="StopIteration") (b:=true) ?_ isSubtype_stop ?_)
  .exact #[_,FI _ rfl,rfl]
  .exact Ft (j _ (((Heap.SameBut.update ..).extBut.push _).push _))
 .have F:(model prog w).w.params.followText "set-order"=false:=l
  have y:t.led=true:=by rw[led];simp[ik,l]
  have ge:es.size<=i:=by rw[f] at d;simpa using d
  have n:SetTable.below t.place (k:Int).toNat=i:=bk
  wp_walk using wpAny_setState_of u hd hf,wpAny_askSetting
  refine wpAny_ite_false (show decide ((!t.plain && decide (es.size > 1))=true)=false by rw[nd];rfl) ?_
  wp_walk
  rw[n,Array.getElem?_eq_none ge]
  wp_walk
  refine wpAny_raiseNew_none c ?_
  refine Fs (wpAny_isInstance (v:=.ref _) (T:="StopIteration") (b:=true) ?_ isSubtype_stop ?_)
  .exact #[_,FI _ rfl,rfl]
  .exact Ft (j _ (((Heap.SameBut.update ..).extBut.push _).push _))
 .have len:∀ (l:List Nat),(∀ p∈l,p < es.size)->(l.filterMap λp=>es[p]?.map λx:Int×Value=>x.2).length=l.length:=by
   intro l
   induction l with
   | nil=>intro _;rfl
   | cons p l ih =>
    intro z
    rw[List.filterMap_cons,Array.getElem?_eq_getElem (z p Fv)]
    simpa using ih λq H=>z q (Fw _ H)
  rw[f,len ps λp r=>List.mem_range.mp (pp.mem_iff.mp r)] at d
  wp_walk using wpAny_setState_of u hd hf,wpAny_askSetting
  rw[show (List.map (λp:Nat=>rawInt p) ps).toArray[(i:Int).toNat]?=none by simpa using d]
  wp_walk
  refine wpAny_raiseNew_none c ?_
  refine Fs (wpAny_isInstance (v:=.ref _) (T:="StopIteration") (b:=true) ?_ isSubtype_stop ?_)
  .exact #[_,FI _ rfl,rfl]
  .exact Ft (j _ ((((Heap.SameBut.update ..).trans (Heap.SameBut.update ..)).extBut.push _).push _))
end
section
variable {prog:Program} {w:World} {A:Around} {E:Value->Shared->Prop} {s:Shared}
theorem xJ {f:Nat} (n:SAt w s.heap a es f t) (c:s.TypeIs (.ref a) "set") (hz:es.size<=sizeLine) (i:∀ h' I d' ord,s.heap.objs.size<=I->ord.Perm (es.toList.map (·.2))->SIt w h' I a es f t ord 0->(∀ b o,s.heap.get? b=some o->h'.get? b=some o)->Q (.ref I) { s with heap:=h',drawn:=d' }) :
  wpAny (model prog w) A (pyIter (.ref a)) Q E s:=by
 obtain ⟨⟨o,d,hd⟩,hf,k⟩:=n
 obtain ⟨h,g,j,tk,os⟩:=s
 refine wpAny_pyIter_slot c F.slot_set_iter (wpAny_call_entry F.slot_set_iter c s9 ?_ (F.args_set_iter_1 _))
 cases l:w.params.followText "set-order" with
 | true =>
  have m:(model prog w).w.params.followText "set-order"=true:=l
  wp_walk using wpAny_setState_of d hd hf,wpAny_askSetting
  exact #[_,rfl,"set_iterator",_,#[_,FI _ rfl,rfl],slot_next.lookup,i _ h.objs.size j _ (FQ _) ((vP (w.params.setOrder a f) es).map _) #[rawInt 0,FI _ rfl,.inl #[l,rfl,rfl]] λb o e=>Fy _ e]
 | false =>
  have m:(model prog w).w.params.followText "set-order"=false:=l
  cases nd:(!t.plain && decide (es.size > 1)) with
  | false =>
   wp_walk using wpAny_setState_of d hd hf,wpAny_askSetting
   refine wpAny_ite_false (show decide ((!w.params.followText "set-order" && (!t.plain && decide (es.size > 1)))=true)=false by rw[l,nd];rfl) ?_
   wp_walk using wpAny_setState_of d hd hf,wpAny_askSetting
   exact #[_,rfl,"set_iterator",_,#[_,FI _ rfl,rfl],slot_next.lookup,i _ h.objs.size j _ (FQ _) (List.Perm.refl _) #[rawInt 0,FI _ rfl,.inr (.inl #[l,nd,#[0,rfl,tW k.up],rfl])] λb o e=>Fy _ e]
  | true =>
   wp_walk using wpAny_setState_of d hd hf,wpAny_askSetting
   refine wpAny_ite_true (show decide ((!w.params.followText "set-order" && (!t.plain && decide (es.size > 1)))=true)=true by rw[l,nd];rfl) ?_
   refine Fs (oh _ _ _ (by simp) λys d' pp=>?_)
   have q:ys.length=es.size:=by have:=pp.length_eq;simpa using this
   refine Fs (wpAny_newTuple ?_ (by simp;lia))
   refine Fs (Fs (wpAny_setState_of (Fy _ d) hd hf (Ft ?_)))
   wp_walk
   have pm:(ys.filterMap λp=>es[p]?.map λx:Int×Value=>x.2).Perm (es.toList.map (·.2)):=by
    refine (pp.filterMap _).trans ?_
    rw[<- filterMap_getElem?_range es,List.map_filterMap]
   refine #[_,rfl,"set_iterator",_,#[_,FI _ rfl,rfl],slot_next.lookup,i _ _ d' _ ?_ pm #[.ref h.objs.size,FI _ rfl,.inr (.inr #[_,ys,rfl,?_,Fy _ (FI _ rfl),pp,rfl])] λb o e=>Fy _ (Fy _ e)]
   .rw[Gf];exact Nat.le_succ _
   .rw[Gf];exact FT (Nat.lt_succ_self _)
theorem SAt.keep {b:Nat} (x:SAt w h a es b t) (k:∀ o,h.get? a=some o->h'.get? a=some o):SAt w h' a es b t :=
 let #[#[o,e,d],f,t]:=x;#[#[o,k o e,d],f,t]
theorem SIt.keep {c:Nat} {i:Nat} (x:SIt w h I a es c t ord i) (l:I≠S) (j:∀ T ps,h.get? T=some { cls:=.type "tuple",data:=.seq ps }->T≠S) (k:∀ b o,b≠S->h.get? b=some o->h'.get? b=some o):SIt w h' I a es c t ord i:=by
 obtain ⟨f,g,m⟩:=x
 refine #[f,k _ _ l g,?_]
 rcases m with m | m | ⟨T,ps,e1,e,d,n⟩
 .exact .inl m
 .exact .inr (.inl m)
 .exact .inr (.inr #[T,ps,e1,e,k _ _ (j _ _ d) d,n])
theorem B0 (u:A.handled=none) (D:a≠I) (j:S≠I) (y:S≠a) {p:Nat} (hz:ord.length<=sizeLine) (res:Value) :
  ∀ (k i:Nat) (s:Shared) (c:Nat),ord.length - i=k->i<=ord.length->SIt w s.heap I a es p t ord i->SAt w s.heap a es p t ->
  s.heap.get? S=some { cls:=.type "list",dict:=none,data:=.seq (ord.take i).toArray c,slots:=(List.toArray []) } ->
  (∀ h' B tk,h'.get? S=some { cls:=.type "list",dict:=none,data:=.seq ord.toArray B,slots:=(List.toArray []) }->(∀ b o,b≠I->b≠S->s.heap.get? b=some o->h'.get? b=some o)->R (.ok (.ret res)) { s with heap:=h',toks:=tk }) ->
  codeAny (model prog w) A (.builtin "list.extend.loop" #[[.ref S,.ref I,res],[]]) R s:=by
 intro k
 induction k with
 | zero =>
  intro i s c x hi hit hm d fin
  obtain rfl:i=ord.length:=by lia
  refine codeAny_builtin F.entry_extend_loop ?_
  rw[Around.under_plainId F.plain_extend_loop _]
  refine Fs (AJ (s:=s) (show A.in1.handled=none from u) hit hm (FQ _) λh' m=>?_)
  rw[List.take_length] at d
  exact Ft (fin h' c s.toks (m S _ j d) λb o f _ e=>m b o f e)
 | succ k ih =>
  intro i s c x hi hit hm d fin
  have lt:i < ord.length:=by lia
  refine codeAny_builtin F.entry_extend_loop ?_
  rw[Around.under_plainId F.plain_extend_loop _]
  refine Fs (xG (s:=s) (v:=ord[i]) hit hm (FE lt) λh1 h s1=>?_)
  have l:=s1.extBut _ _ j d
  refine Fs (wpAny_updateSeq l rfl (Ft #[plainId_quiet F.plain_extend_loop _,?_]) (by simp;lia) (by simp;lia))
  obtain ⟨c2,r⟩:∃ c2,(h1.update S (Obj.mapSeq (·.push ord[i]))).get? S=some (seqObj "list" ((ord.take i).toArray.push ord[i]) c2):=#[_,get?_update_seq l (·.push ord[i])]
  have up:∀ b o,b≠S->h1.get? b=some o->(h1.update S (Obj.mapSeq (·.push ord[i]))).get? b=some o:=λb o n e=>(Heap.SameBut.update ..).extBut _ _ n e
  have tk:(ord.take i).toArray.push ord[i]=(ord.take (i+1)).toArray:=by
   rw[List.take_add_one,FE lt]
   simp
  rw[tk] at r
  refine ih (i+1) { s with heap:=h1.update S (Obj.mapSeq (·.push ord[i])) } c2 (by lia) lt (h.keep (S:=S) (Ne.symm j) (λT ps e z=>by subst z;rw[l] at e;simp at e) up) ((hm.keep λo e=>s1.extBut _ _ D e).keep λo e=>up _ _ (Ne.symm y) e) r λh3 C g g3 k3=>?_
  exact fin h3 C g g3 λb o f q e=>k3 b o f q (up _ _ q (s1.extBut _ _ f e))
theorem zB (ty:s.TypeIs (.ref d) "set") (h:Q false s):wpAny (model prog w) A (Builtin.List.listLengthHint (.ref d)) Q E s:=by
 unfold Builtin.List.listLengthHint
 refine Fs (wpAny_specialOf ty F.slot_set_len.lookup ?_)
 have cut:splitId "set.__len__"=some ("set","__len__"):=by kernel_rfl
 dsimp only
 simp only[cut]
 refine Fs (wpAny_isInstance ty (b:=true) sub_set_self (wpAny_ite_false rfl ?_))
 rw[if_pos (by kernel_rfl)]
 exact Fs (wpAny_typeOf ty (Ft h))
theorem rj {v:Nat} (N:A.handled=none) (D:SAt w s.heap a es v t) (ty:s.TypeIs (.ref a) "set") (hz:es.size<=sizeLine) (h:∀ h' d' tk ord,ord.Perm (es.toList.map (·.2))->s.heap.objs.size<=h'.objs.size->(∀ b o,s.heap.get? b=some o->h'.get? b=some o)->Q ord { s with heap:=h',drawn:=d',toks:=tk }):wpAny (model prog w) A (collect (.ref a)) Q E s:=by
 have lt:a < s.heap.objs.size:=by obtain ⟨⟨o,e,_⟩,_⟩:=D;exact FF e
 obtain ⟨d,g,l,tk,os⟩:=s
 unfold collect
 refine Fs (wpAny_runValue (codeAny_builtin F.entry_proto_collect ?_))
 rw[Around.under_plainId F.plain_proto_collect _]
 refine Fs (wpAny_newObj_type (Ft #[plainId_quiet F.plain_list_iadd _,codeAny_builtin F.entry_list_iadd ?_]))
 rw[Around.under_plainId F.plain_list_iadd _]
 have σ:(d.push { cls:=.type "list",data:=.seq ([]:List Value).toArray }).get? d.objs.size=some { cls:=.type "list",data:=.seq ([]:List Value).toArray }:=FI _ rfl
 have a1:SAt w (d.push { cls:=.type "list",data:=.seq ([]:List Value).toArray }) a es v t:=D.keep λo e=>Fy _ e
 have i:(#[d.push { cls:=.type "list",data:=.seq ([]:List Value).toArray },g,l,tk,os]:Shared).TypeIs (.ref a) "set":=let #[o,e,c]:=ty;#[o,Fy _ e,c]
 have K:(d.push { cls:=.type "list",data:=.seq ([]:List Value).toArray }).objs.size=d.objs.size+1:=Gf ..
 have k1:∀ b o,d.get? b=some o->(d.push { cls:=.type "list",data:=.seq ([]:List Value).toArray }).get? b=some o:=λb o e=>Fy _ e
 refine (show wpAny _ A.in1 (Builtin.List.listExtendWith (.ref d.objs.size) (.ref a) (.ref d.objs.size)) _ _ #[d.push { cls:=.type "list",data:=.seq ([]:List Value).toArray },g,l,tk,os] from ?_)
 generalize d.push { cls:=.type "list",data:=.seq ([]:List Value).toArray }=H1 at *
 unfold Builtin.List.listExtendWith
 refine Fs (wpAny_typeOf i ?_)
 rw[if_neg (by
  have e1:Builtin.List.listSameRef (.ref d.objs.size) (.ref a)=false:=beq_false_of_ne (Nat.ne_of_gt lt)
  have P:(Value.type "set" == Value.type "list")=false:=by decide
  have V:(Value.type "set" == Value.type "tuple")=false:=by decide
  rw[e1,P,V]
  decide)]
 refine Fs (xJ (s:=#[H1,g,l,tk,os]) a1 i hz λh2 I k ord j pm u k2=>?_)
 have m:(#[h2,g,k,tk,os]:Shared).TypeIs (.ref a) "set":=let #[o,e,c]:=i;#[o,k2 _ _ e,c]
 refine Fs (Fu (zB m ?_))
 have j:H1.objs.size<=I:=j
 rw[K] at j
 have J:d.objs.size≠I:=FT j
 have L:a≠I:=FT (Nat.lt_trans lt j)
 have ol:ord.length=es.size:=by have:=pm.length_eq;simpa using this
 have y:h2.get? d.objs.size=some (seqObj "list" (List.toArray []) 0):=k2 _ _ σ
 have a2:SAt w h2 a es v t:=a1.keep λo e=>k2 _ _ e
 refine wpAny_ite_true (by kernel_rfl) ?_
 refine Fs (wpAny_rule ?_)
 refine Fs (Fs (listUpdate_at (s:=#[h2,g,k,tk,os]) y rfl ?_))
 obtain ⟨H,B⟩:∃ H,(h2.update d.objs.size (Obj.mapSeq (·.push Value.none))).get? d.objs.size=some (seqObj "list" ((List.toArray []).push Value.none) H):=#[_,get?_update_seq y (·.push Value.none)]
 refine listUpdate_at (s:=#[h2.update d.objs.size (Obj.mapSeq (·.push Value.none)),g,k,tk,os]) B rfl ?_
 obtain ⟨r,G⟩:∃ r,((h2.update d.objs.size (Obj.mapSeq (·.push Value.none))).update d.objs.size (Obj.mapSeq (·.pop))).get? d.objs.size=some (seqObj "list" ((List.toArray []).push Value.none).pop r):=#[_,get?_update_seq B (·.pop)]
 have f:∀ b o,b≠d.objs.size->h2.get? b=some o->((h2.update d.objs.size (Obj.mapSeq (·.push Value.none))).update d.objs.size (Obj.mapSeq (·.pop))).get? b=some o:=λb o n e=>(Heap.SameBut.update ..).extBut _ _ n ((Heap.SameBut.update ..).extBut _ _ n e)
 have p:=u.keep (S:=d.objs.size) (Ne.symm J) (λT ps e z=>by subst z;rw[y] at e;simp[seqObj] at e) f
 have R:=a2.keep λo e=>f _ _ (FT lt) e
 have φ:d.objs.size < ((h2.update d.objs.size (Obj.mapSeq (·.push Value.none))).update d.objs.size (Obj.mapSeq (·.pop))).objs.size:=FF G
 generalize ((h2.update d.objs.size (Obj.mapSeq (·.push Value.none))).update d.objs.size (Obj.mapSeq (·.pop)))=H4 at *
 refine Ft #[plainId_quiet F.plain_extend_loop _,B0 (ord:=ord) N L J (Nat.ne_of_gt lt) (by lia) _ ord.length 0 #[H4,g,k,tk,os] r (by lia) (Nat.zero_le _) p R (by simpa[seqObj] using G) λM W q C k5=>?_]
 refine Fs (wpAny_load C ?_)
 refine Ft ?_
 have e:ord.toArray.toList=ord:=by simp
 refine e.symm ▸ h M k q ord pm ?_ λb o e=>?_
 .exact Nat.le_of_lt (FF C)
 .have x:=FF e
  exact k5 b o (FT (Nat.lt_trans x j)) (FT x) (f _ _ (FT x) (k2 _ _ (k1 _ _ e)))
end
end L2
end
section
namespace L2
open PySem PySem.Spec PyProof.Rows
section
variable {X:Cx}
abbrev AL (X:Cx) (p:Addr) (ns:List Int):HO:=.ext λh=>SetL X.prog X.w h p ns
theorem Inv.drew (I:Inv X pins O H s):Inv X pins O H { s with drawn:=d } :=
 #[I.ok,I.os,I.bare,I.base,I.loc,I.cell,I.free,I.freeC,I.pin,I.hok,I.len]
def rSet (X:Cx):List V->Hp->VK->Prop:=λxs H Q=>∃ (l:Addr) (ns:List Int),xs=[.ref l]/\SqT X.K H l (ns.map V.int)/\ns.length < 64/\∀ p,H p=none->Q (.ref p) (upd H p (AL X p (ns.foldl met [])))
theorem wK (g:X.calm=true):CallR X (.type "set") (rSet X):=by
 intro pins s O H xs us Q I b h
 obtain ⟨l,ns,rfl,f,d,q⟩:=h
 obtain ⟨u,rfl,c⟩:=dQ b
 cases (show u=Value.ref l from c)
 obtain ⟨its,r,p,hz⟩:=I.tuple f
 have hlen:=r.length
 refine pF (I.ok.hd g) (show s.heap.IsTuple l its.toArray from p) (by simpa using mj r) (by simp at hlen ⊢;unfold scanBound;lia) λh' tk S k=>?_
 exact #[.ref s.heap.objs.size,_,I.laid (a:=s.heap.objs.size) (o:=AL X s.heap.objs.size (ns.foldl met [])) (t':=tk) k (FQ _) #[S,(let #[o,_,_,_,_,e,_]:=S;#[o,e]),λh1 h2 x k=>x.keep k],rfl,q _ (I.hok.fresh (FQ _))]
def yr (X:Cx):List V->Hp->VK->Prop:=λxs H Q=>∃ (p:Addr) (ns:List Int),xs=[.ref p]/\H p=some (AL X p ns)/\ns.length < 64/\∀ q,H q=none->∀ a:List Int,a.Perm ns->a.Pairwise (·<=·)->Q (.ref q) (upd H q (.lst (a.map V.int)))
theorem tF (D:X.calm=true):CallR X (.builtin "sorted") (yr X):=by
 intro pins s O H xs us Q I y h
 obtain ⟨p,ns,rfl,F,i,q⟩:=h
 obtain ⟨u,rfl,G⟩:=dQ y
 cases (show u=Value.ref p from G)
 obtain ⟨S,_,_⟩:=I.hok p _ F
 have ty:=S.typeIs (s:=s)
 obtain ⟨o,es,K,t,ms,J,hex,hd,E,hi,pm,B,hf,w⟩:=S
 have C:=I.ok.hd D
 have sz:es.size<=sizeLine:=fits_of_scanBound B
 refine Calls.call_function_entry kind_sorted plain_sorted entry_sorted (args_sorted1 _) (Fs (Ft (Fs (rj (show X.A.in1.handled=none from C) #[#[o,J,hd],hf,w] ty sz λh1 x l ord po j k1=>?_))))
 obtain ⟨ks,f⟩:∃ ks,IntsAre ord ks:=by
  have:∀ v∈ord,∃ n t,v=Value.int n t:=λv m=>by
   have:=po.mem_iff.mp m
   exact hi.all v this
  clear po
  induction ord with
  | nil=>exact #[[],.nil]
  | cons v ord ih =>
   obtain ⟨n,t,rfl⟩:=this v Fv
   obtain ⟨ks,h⟩:=ih λv m=>this v (Fw _ m)
   exact #[n::ks,.cons n t h]
 have k:ks.Perm ns:=(j8 po f hi).trans pm
 have ol:ord.length < 64:=by rw[f.length,k.length_eq];exact i
 refine Fs (wpAny_newList ?_)
 have got:(h1.push (seqObj "list" ord.toArray 0)).get? h1.objs.size=some (seqObj "list" ord.toArray 0):=FI _ rfl
 refine Fs (Fu (wpAny_call_entry slot_list_sort #[_,got,rfl] entry_list_sort (list_sort_tree got f ol λout g a b c=>#[_,rfl,Ft #[_,rfl,?_]]) (args_list_sort _)))
 obtain ⟨e,he⟩:=sortedHeap_at (out:=out) got
 have nl:g.length < 64:=by rw[b.length_eq,k.length_eq];exact i
 have keep:∀ (b:Addr) (u:Obj),s.heap.get? b=some u->(sortedHeap (h1.push (seqObj "list" ord.toArray 0)) h1.objs.size ord out).get? b=some u:=λb u z=>by
  have r:=FF z
  rw[sortedHeap_old (FT (FY r j)) (by rw[Gf];exact Nat.lt_succ_of_lt (FY r j))]
  exact Fy _ (k1 _ _ z)
 refine #[.ref h1.objs.size,_,(I.drew (d:=x)).laid (a:=h1.objs.size) (o:=.lst (g.map V.int)) (t':=l) keep j #[?_,out.toList,e,ji a,by rw[he]],rfl,q _ (I.hok.fresh j) g (b.trans k) c]
 rw[FJ]
 have:64<=sizeLine:=by decide
 lia
end
section
variable {X:Cx}
theorem qy (h:wpAny (model prog w) A (eval k env) (λx s1=>wpAny (model prog w) A (eval v env) (λy s2=>wpAny (model prog w) A (dictSet s.heap.objs.size x y) (λ_ s3=>Q (.ref s.heap.objs.size) s3) E s2) E s1) E { s with heap:=s.heap.push { cls:=.type "dict",data:=.dict (List.toArray []) } }) :
  wpAny (model prog w) A (eval (.Dict [some k] [v] pos) env) Q E s:=by
 rw[arm_eval_Dict]
 refine Fs (wpAny_standAt ?_)
 have e:=dictDisplay_pairs [(eval k env,(do let x <- eval v env;standAt pos;pure x:Sem Value))] (by simp) (by simp)
 refine (show wpAny (model prog w) A (dictDisplay ([(eval k env,(do let x <- eval v env;standAt pos;pure x:Sem Value))].map λp=>(some p.1,p.2))) Q E s from ?_)
 rw[e]
 refine Fs ?_
 unfold subDict
 refine Fs (wpAny_alloc (Fs (Fu ?_)))
 rw[if_pos (by simp)]
 refine Fs ?_
 unfold evalPairs
 refine Fs (wpAny_mono h (λx s1 h1=>?_) λ_ _ z=>z)
 refine Fs (Fu (Fs (wpAny_mono h1 (λy s2 h2=>?_) λ_ _ z=>z)))
 refine Fs (wpAny_standAt (Ft ?_))
 refine Fs (Fu (Ft (Ft (Fu ?_))))
 simp only[List.forIn_cons,List.forIn_nil]
 refine Fs (Fs (Fs (wpAny_mono h2 (λ_ s3 h3=>?_) λ_ _ z=>z)))
 exact Ft (Ft (Ft (Ft (Ft h3))))
def tD1K (k:Key) (v:V):TE:=λ_ H Q=>∀ p,H p=none->Q (.ref p) (upd (upd H p (.dK [])) p (.dK [(k,v)]))
theorem Ei (h:PE X k (tC (kV key))) (r:PE X v (tC d)):PE X (.Dict [some k] [v] pos) (tD1K key d):=by
 intro pins s O H Q I q
 have n:=I.hok.fresh (FQ s.heap.objs.size)
 have p:=I.laid (a:=s.heap.objs.size) (o:=.dK []) (h':=s.heap.push { cls:=.type "dict",data:=.dict (List.toArray []) }) (t':=s.toks) (λ_ _ q=>Fy _ q) (FQ _) (zR s.heap I.big)
 refine qy (thn (h pins _ O _ (λx H2=>x=kV key/\H2=upd H s.heap.objs.size (.dK [])) p #[rfl,rfl]) λx s1 #[A,H1,i,g,e1,c]=>thn (r pins s1 O H1 (λy H2=>y=d/\H2=upd H s.heap.objs.size (.dK [])) i #[rfl,c]) λy s2 #[f,H2,e,l,t,u]=>?_)
 subst e1 c t u
 obtain ⟨z,hd,w,rel,dd⟩:=tf e.hok (.inl aF)
 cases rel
 refine iu (hsz:=Nat.zero_le _) (uP g) dd λh' b m=>?_
 have he:∃ q,h'.get? s.heap.objs.size=some q:=let #[q,_,_,j,_]:=b;#[q,j]
 have hz:[(key,f)].length<=sizeLine:=(by decide:1<=sizeLine)
 exact #[.ref s.heap.objs.size,_,lp e (by rw[aF];exact True.intro) m he (zQ (kvs:=[(key,f)]) hz hd (KV.put (kvs:=[]) .nil key l) b),rfl,q _ n]
def tD1T (ns:List Int) (v:V):TE:=λ_ H Q=>∀ p,H p=none->∀ b,upd H p (.dT []) b=none->Q (.ref p) (upd (upd (upd H p (.dT [])) b (.tup (ns.map V.int))) p (.dT [(ns.map Sum.inl,v)]))
theorem Eh {x1:Nat} (hu:X.A.units+1 < cLine) (h0:ns≠[]) (hz:ns.length<=100) (r:es.map wT=ns.map some) (J:PE X v (tC d)):PE X (.Dict [some (.Tuple es x1 pos')] [v] pos) (tD1T ns d):=by
 intro pins s O H Q I q
 have F:=I.hok.fresh (FQ s.heap.objs.size)
 have G:=I.laid (a:=s.heap.objs.size) (o:=.dT []) (h':=s.heap.push { cls:=.type "dict",data:=.dict (List.toArray []) }) (t':=s.toks) (λ_ _ q=>Fy _ q) (FQ _) (q9 s.heap I.big)
 have K:=yH (X:=X) (x1:=x1) (pos:=pos') (uF ns r)
 have len:(ns.map V.int).length<=sizeLine:=by rw[FJ,sizeLine_eq];omega
 refine qy (thn (K pins _ O _ (λx H2=>∃ b,x=.ref b/\upd H s.heap.objs.size (.dT []) b=none/\H2=upd (upd H s.heap.objs.size (.dT [])) b (.tup (ns.map V.int))) G #[len,λb e=>#[b,rfl,e,rfl]]) λx s1 #[N,H1,t,n,b,e1,e,D]=>thn (J pins s1 O H1 (λy H2=>y=d/\H2=H1) t #[rfl,rfl]) λy s2 #[E,H2,j,u,L,M]=>?_)
 subst e1 D L M
 have nb:b≠s.heap.objs.size:=λz=>by rw[z,aF] at e;cases e
 cases (show x=Value.ref b from n)
 have i:upd (upd H s.heap.objs.size (.dT [])) b (.tup (ns.map V.int)) s.heap.objs.size=some (.dT []):=by rw[aw (Ne.symm nb),aF]
 have hb2:upd (upd H s.heap.objs.size (.dT [])) b (.tup (ns.map V.int)) b=some (.tup ((ns.map Sum.inl).map kV)):=by rw[aF,Gk];rfl
 obtain ⟨z,hd,xs,rel,dd⟩:=td j.hok (.inl i)
 cases rel
 refine i5 (hsz:=Nat.zero_le _) (show (tupleKind (bT X.prog X.w)).room X.A from Nat.lt_of_succ_lt hu) (o8 j.hok hb2) dd λh' f C=>?_
 obtain ⟨l,g,h,m,h2,h3,B,_,p⟩:=f
 refine #[.ref s.heap.objs.size,_,lp (ob:=.dT [(ns.map Sum.inl,E)]) j (by rw[i];exact True.intro) C #[l,m] #[(by decide:1<=sizeLine),hd,_,(KT.put (kvs:=[]) .nil (ns.map Sum.inl) hb2 u).keeps λc ys k=>?_,l,g,h,m,h2,h3,B,p],rfl,q _ F b e]
 rw[aw (Cv k i (λz=>nomatch z))]
 exact k
end
def rQ (l:Array Value):Obj:=seqObj "tuple" l 0
def ev (cmp:Nat->Nat->Option Bool) {α:Type} (m:Sem α):Option Addr->Option (α×Option Addr):=by
 induction m with
 | pure a=>exact λp=>some (a,p)
 | rule _ k ih=>exact ih ()
 | load b _ k ih=>exact λp=>match p with
  | none=>ih (rQ (List.toArray [])) (some b)
  | some a=>match cmp a b with
   | some true=>ih (rQ (List.toArray [Value.none])) none
   | some false=>ih (rQ (List.toArray [])) none
   | none=>none
 | _=>exact λ_=>none
theorem uY (m:Sem α) (f:α->Sem β):∀ p,ev cmp (m.bind f) p=(ev cmp m p).bind λr=>ev cmp (f r.1) r.2:=by
 induction m with
 | pure a=>exact λp=>rfl
 | rule _ k ih=>exact ih ()
 | load b _ k ih =>
  intro p
  cases p with
  | none=>exact ih _ _
  | some a =>
   show (match cmp a b with
    | some true=>ev cmp ((k (rQ (List.toArray [Value.none]))).bind f) none
    | some false=>ev cmp ((k (rQ (List.toArray []))).bind f) none
    | none=>none)=Option.bind (match cmp a b with
    | some true=>ev cmp (k (rQ (List.toArray [Value.none]))) none
    | some false=>ev cmp (k (rQ (List.toArray []))) none
    | none=>none) _
   grind
 | _=>exact λ_=>rfl
def sF (k:SortKind):Prop:=k=bf true\/k=oneType'
structure Fol (U:Keyed->Keyed) (st ps:SortSt):Prop where
 kind:sF (kindOf st)
 kind':kindOf ps=bf true
 arr:arrOf st=(arrOf ps).map U
 pend:pendingOf st=pendingOf ps
 mg:gallopOf st=gallopOf ps
 fail:failedOf st=none
 fail':failedOf ps=none
class EqRl (α:Type) where
instance:EqRl Nat:=#[]
instance:EqRl Bool:=#[]
instance:EqRl PUnit:=#[]
instance {α:Type} [EqRl α]:EqRl (Option α):=#[]
instance {α:Type} [EqRl α]:EqRl (Array α):=#[]
instance {α β:Type} [EqRl α] [EqRl β]:EqRl (α×β):=#[]
instance {α:Type} [EqRl α]:EqRl (ForInStep α):=#[]
class Rl (U:Keyed->Keyed) (α:Type) where
 rel:α->α->Prop
variable {U:Keyed->Keyed}
instance rlO {α:Type} [Rl U α]:Rl U (Option α):=#[λx y=>match x,y with | none,none=>True | some a,some b=>Rl.rel U a b | _,_=>False]
instance rlP {α β:Type} [Rl U α] [Rl U β]:Rl U (α×β):=#[λx y=>Rl.rel U x.1 y.1/\Rl.rel U x.2 y.2]
instance rlF {α:Type} [Rl U α]:Rl U (ForInStep α):=#[λx y=>match x,y with | .done a,.done b=>Rl.rel U a b | .yield a,.yield b=>Rl.rel U a b | _,_=>False]
instance rlK:Rl U Keyed:=#[λp i=>p=U i]
instance rlA:Rl U (Array Keyed):=#[λp i=>p=i.map U]
instance rlS:Rl U SortSt:=#[Fol U]
instance (priority:=high) rlE {α:Type} [EqRl α]:Rl U α:=#[Eq]
section
variable {prog:Program} {w:World} {A:Around} {E:Value->Shared->Prop} {s:Shared} {cmp:Nat->Nat->Option Bool} {α β:Type}
def Sim (prog:Program) (w:World) (A:Around) (E:Value->Shared->Prop) (s:Shared) (U:Keyed->Keyed) (cmp:Nat->Nat->Option Bool) {α:Type} [Rl U α] (m p:StateT SortSt Sem α):Prop :=
 ∀ st ps b c q,Fol U st ps->ev cmp (p.run ps) none=some ((b,c),q)->∃ a d,Rl.rel U a b/\Fol U d c/\q=none/\∀ Q:α->SortSt->Prop,Q a d->wpS (model prog w) A E s m Q st
theorem aO [Rl U α] {a b:α} (h:Rl.rel U a b):Sim prog w A E s U cmp (pure a) (pure b):=by
 intro st ps d c g f e
 cases e
 exact #[a,st,h,f,rfl,λQ q=>wpS_pure q]
theorem cz [Rl U α] [Rl U β] {m p:StateT SortSt Sem α} {f g:α->StateT SortSt Sem β} (h:Sim prog w A E s U cmp m p) (k:∀ a b,Rl.rel U a b->Sim prog w A E s U cmp (f a) (g b)):Sim prog w A E s U cmp (m >>= f) (p >>= g):=by
 intro st ps o i t y e
 have e:ev cmp ((p.run ps).bind λx=>(g x.1).run x.2) none=some ((o,i),t):=e
 rw[uY] at e
 obtain ⟨⟨⟨b,d⟩,z⟩,e1,v⟩:=F8.mp e
 obtain ⟨a,st1,r,j,rfl,h1⟩:=h st ps b d z y e1
 obtain ⟨c,l,u,n,rfl,h2⟩:=k a b r st1 d o i t j v
 exact #[c,l,u,n,rfl,λQ q=>wpS_bind (h1 _ (h2 Q q))]
theorem aG [EqRl α] [Rl U β] {f g:α->StateT SortSt Sem β} (h:Sim prog w A E s U cmp m p) (k:∀ a,Sim prog w A E s U cmp (f a) (g a)):Sim prog w A E s U cmp (m >>= f) (p >>= g) :=
 cz h λa b (r:a=b)=>r ▸ k a
theorem bH [EqRl α] [Rl U β] {f g:Option α->StateT SortSt Sem β} (h:Sim prog w A E s U cmp m p) (c:Sim prog w A E s U cmp (f none) (g none)) (ks:∀ a,Sim prog w A E s U cmp (f (some a)) (g (some a))):Sim prog w A E s U cmp (m >>= f) (p >>= g) :=
 cz h λa b (r:a=b)=>r ▸ (match a with | none=>c | some a=>ks a)
theorem bK [Rl U α] [Decidable c] {m n p q:StateT SortSt Sem α} (h1:c->Sim prog w A E s U cmp m p) (h2:¬ c->Sim prog w A E s U cmp n q):Sim prog w A E s U cmp (if c then m else n) (if c then p else q):=by grind
theorem xC [Rl U α] {m p:StateT SortSt Sem α} (h:∀ ps,ev cmp (p.run ps) none=none):Sim prog w A E s U cmp m p:=λst ps b a q f e=>by
 rw[h] at e
 cases e
theorem c6 [Rl U α]:Sim prog w A E s U cmp m (unsupported t:Sem α):=xC λ_=>rfl
theorem kz [Rl U α] (h:∀ i x y,Rl.rel U x y -> @Sim prog w A E s U cmp _ rlF (f i x) (g i y)):∀ (l:List Nat) (x y:α),Rl.rel U x y -> Sim prog w A E s U cmp (forIn l x f) (forIn l y g)
  | [],x,y,r=>by rw[List.forIn_nil,List.forIn_nil]; exact aO r
  | i::l,x,y,r=>by
    rw[List.forIn_cons,List.forIn_cons]
    refine @cz _ _ _ _ _ _ _ _ _ rlF _ _ _ _ _ (h i x y r) λa b ab=>?_
    cases a <;> cases b <;> first | exact False.elim ab | skip
    . exact aO ab
    . exact kz h l _ _ ab
theorem fD [Rl U α] {a b:Nat} {x y:α} (r:Rl.rel U x y) (h:∀ i x y,Rl.rel U x y->@Sim prog w A E s U cmp _ rlF (f i x) (g i y)):Sim prog w A E s U cmp (forIn [a:b] x f) (forIn [a:b] y g):=by
 rw[Std.Legacy.Range.forIn_eq_forIn_range',Std.Legacy.Range.forIn_eq_forIn_range']
 exact kz h _ _ _ r
theorem iD [EqRl α] {a b:Nat} {x:α} (h:∀ i x,Sim prog w A E s U cmp (f i x) (g i x)):Sim prog w A E s U cmp (forIn [a:b] x f) (forIn [a:b] x g):=by
 refine fD rfl λi x y r=>?_
 cases r
 intro st ps b d q k e
 obtain ⟨c,j,r,eh⟩:=h i x st ps b d q k e
 refine #[c,j,?_,eh]
 obtain rfl:c=b:=r
 cases c <;> exact (rfl:_=_)
theorem ua:Sim prog w A E s U cmp (get:StateT SortSt Sem SortSt) get:=by
 intro st ps b a q f e
 cases e
 exact #[st,st,f,f,rfl,λQ q=>wpS_get q]
theorem dS (h:∀ st ps,Fol U st ps->Fol U (f st) (g ps)):Sim prog w A E s U cmp (modify f:StateT SortSt Sem PUnit) (modify g):=by
 intro st ps b c q a e
 cases e
 exact #[_,_,rfl,h st ps a,rfl,λQ q=>wpS_modify q]
theorem AG (h:Fol U c a):Sim prog w A E s U cmp (set c:StateT SortSt Sem PUnit) (set a):=by
 intro st ps b a q d e
 cases e
 exact #[_,_,rfl,h,rfl,λQ q=>Ft #[rfl,q]]
theorem dR:Sim prog w A E s U cmp (liftM (PySem.rule r:Sem Unit):StateT SortSt Sem Unit) (liftM (PySem.rule r:Sem Unit)):=by
 intro st ps b c q a e
 cases e
 exact #[_,st,rfl,a,rfl,λQ q=>wpS_lift (wpAny_rule #[rfl,q])]
theorem xF {i:Nat}:Sim prog w A E s U cmp (elem' (arr.map U) i) (elem' arr i):=by
 rw[elem'_eq,elem'_eq]
 cases e:arr[i]? with
 | none=>exact c6
 | some x =>
  have:(arr.map U)[i]?=some (U x):=by rw[Array.getElem?_map,e];rfl
  rw[this]
  exact aO rfl
theorem bQ [Rl U α] {i:Nat} {f g:Keyed->StateT SortSt Sem α} (k:∀ u,Sim prog w A E s U cmp (f (U u)) (g u)):Sim prog w A E s U cmp (elem' (arr.map U) i >>= f) (elem' arr i >>= g) :=
 cz xF λu u' (hu:u=U u')=>hu ▸ k u'
end
def mF (bs:List Addr) (x:Keyed):Keyed:=match x.1 with
 | .ref i=>(.ref (bs.getD i 0),.ref (bs.getD i 0))
 | _=>(.none,.none)
def aK (ns:List (List Int)) (i j:Nat):Option Bool:=match ns[i]?,ns[j]? with
 | some x,some y=>some (HT.lexLt x y)
 | _,_=>none
section
variable {prog:Program} {w:World} {A:Around} {E:Value->Shared->Prop} {s:Shared} {bs:List Addr} {ns:List (List Int)}
theorem qW (h:∀ a,v≠.ref a):∃ t,Builtin.List.listItems v=Sem.unsupported t:=by
 cases v
 case ref a=>exact absurd rfl (h a)
 case builtin id =>
  by_cases c:(withoutEnding? id "#opaque").isSome=true
  .have e:notAStandIn (.builtin id)=Sem.unsupported id:=if_pos c
   refine #[id,?_]
   show Sem.bind (Sem.bind (notAStandIn (.builtin id)) _) _=_
   rw[e]
   rfl
  .have e:notAStandIn (.builtin id)=Sem.pure ():=if_neg c
   have b:Builtin.List.listItems (.builtin id)=Sem.bind (Sem.bind (notAStandIn (.builtin id)) _) _:=rfl
   rw[e] at b
   exact #[_,b]
 all_goals exact #[_,rfl]
theorem BP (h:∀ a,v≠.ref a):∃ t,keyLt' (bf true) v y=Sem.unsupported t:=by
 obtain ⟨t,e⟩:=qW h
 obtain ⟨G,e1⟩:∃ G,keyLt' (bf true) v y=(Builtin.List.listItems v).bind G:=#[_,rfl]
 exact #[t,by rw[e1,e];rfl]
theorem BO (h:∀ a,v≠.ref a):∃ t,keyLt' (bf true) (.ref i) v=(Builtin.List.listItems (.ref i)).bind λ_=>Sem.unsupported t:=by
 obtain ⟨t,e⟩:=qW h
 obtain ⟨G,e1⟩:∃ G:Array Value->Array Value->Sem Bool,keyLt' (bf true) (.ref i) v=(Builtin.List.listItems (.ref i)).bind λxs=>(Builtin.List.listItems v).bind (G xs):=#[_,rfl]
 exact #[t,by rw[e1,e];rfl]
theorem vT (k:IsNts s.heap a x) (n:IsNts s.heap b y) (hu:A.units < cLine) (h:Q (HT.lexLt x y) s):wpAny (model prog w) A (oneLt' true (.ref a) (.ref b)) Q E s:=by
 obtain ⟨j,⟨⟨c1,f,m,c⟩,e1,c1,o,g⟩,t⟩:=k
 obtain ⟨p,⟨⟨c2,e,r,d⟩,l,c2,u,i⟩,q⟩:=n
 simp only at c1 g c2 i
 subst c1 g c2 i
 rw[oneLt'_eq]
 simp only[if_true]
 refine Fs (wpAny_cRoomFor hu ?_)
 refine Fs (wpAny_callSpecialIfBound?_slot (T:="tuple") #[_,e1,rfl] PySem.F.slot_tuple_lt (call_meets PySem.F.slot_tuple_lt (T:="tuple") #[_,e1,rfl] PySem.F.entry_tuple_lt (PySem.F.args_tuple_lt_2 _ _) (HT.tuple_lt_ints a b j p o u f e c d x y t q) #[e1,l,?_]))
 exact Gg h
theorem Dj (hu:A.units < cLine) (u:∀ (i:Nat) (n:List Int),ns[i]?=some n->IsNts s.heap (bs.getD i 0) n) (x y:Keyed):Sim prog w A E s (mF bs) (aK ns) (lt' (mF bs x) (mF bs y)) (lt' x y):=by
 intro st ps b c q f e
 obtain ⟨x1,v⟩:=x
 obtain ⟨o,z⟩:=y
 have l:=f.kind'
 cases ps with
 | mk k a pd g fl =>
 have l:k=bf true:=l
 subst l
 by_cases d:∀ a,x1≠.ref a
 .obtain ⟨t,h⟩:=BP (y:=o) d
  rw[lt'_eq] at e
  have e:ev (aK ns) (Sem.bind (Sem.bind (Sem.attempt (keyLt' (bf true) x1 o)) _) _) none=some ((b,c),q):=e
  rw[h] at e
  cases e
 .by_cases r:∀ a,o≠.ref a
  .obtain ⟨i,d⟩:=Classical.not_forall.mp d
   obtain rfl:x1=.ref i:=Classical.not_not.mp d
   obtain ⟨t,h⟩:=BO (i:=i) r
   rw[lt'_eq] at e
   have e:ev (aK ns) (Sem.bind (Sem.bind (Sem.attempt (keyLt' (bf true) (.ref i) o)) _) _) none=some ((b,c),q):=e
   rw[h] at e
   cases e
  .obtain ⟨i,d⟩:=Classical.not_forall.mp d
   obtain rfl:x1=.ref i:=Classical.not_not.mp d
   obtain ⟨j,r⟩:=Classical.not_forall.mp r
   obtain rfl:o=.ref j:=Classical.not_not.mp r
   have e:(match aK ns i j with
    | some true=>some ((some true,SortSt.mk' (bf true) a pd g fl),none)
    | some false=>some ((some false,SortSt.mk' (bf true) a pd g fl),none)
    | none=>none)=some ((b,c),q):=e
   unfold aK at e
   cases e1:ns[i]? with
   | none=>rw[e1] at e;cases e
   | some n =>
    cases p:ns[j]? with
    | none=>rw[e1,p] at e;cases e
    | some m =>
     rw[e1,p] at e
     have e:(match some (HT.lexLt n m) with
      | some true=>some ((some true,SortSt.mk' (bf true) a pd g fl),none)
      | some false=>some ((some false,SortSt.mk' (bf true) a pd g fl),none)
      | none=>none)=some ((b,c),q):=e
     have e:some ((some (HT.lexLt n m),SortSt.mk' (bf true) a pd g fl),(none:Option Addr))=some ((b,c),q):=by
      rw[<- e]
      cases HT.lexLt n m <;> rfl
     cases e
     refine #[_,st,rfl,f,rfl,λQ q=>?_]
     rw[lt'_eq]
     refine wpS_bind (wpS_get ?_)
     rcases f.kind with l | l <;> rw[l]
     .refine wpS_bind (wpS_lift (wpAny_attempt (wl (u i n e1) (u j m p) #[rfl,?_])))
      exact wpS_pure q
     .rw[keyLt'_oneType]
      refine wpS_bind (wpS_lift (wpAny_attempt (vT (u i n e1) (u j m p) hu #[rfl,?_])))
      exact wpS_pure q
end
end L2
end
section
namespace L2
open PySem PySem.Spec PyProof.Rows
def uW:Bool->Keyed->Array Keyed->Nat->Nat->Nat->StateT SortSt Sem (Option Nat):=sortPriv% PySem.Builtin.gallop
def qJ:Array Keyed->Array Keyed->StateT SortSt Sem (Array Keyed):=sortPriv% PySem.Builtin.mergeLo
def qK:Array Keyed->Array Keyed->StateT SortSt Sem (Array Keyed):=sortPriv% PySem.Builtin.mergeHi
def xL:Nat->StateT SortSt Sem Unit:=sortPriv% PySem.Builtin.setMinGallop
section
variable {prog:Program} {w:World} {A:Around} {E:Value->Shared->Prop} {s:Shared} {U:Keyed->Keyed} {cmp:Nat->Nat->Option Bool}
theorem ni {g:Nat}:Sim prog w A E s U cmp (xL g) (xL g) :=
 dS λst ps f=>#[f.kind,f.kind',f.arr,f.pend,rfl,f.fail,f.fail']
theorem iE [EqRl γ] [EqRl δ] [Rl U β] {m p:StateT SortSt Sem (Option γ×δ)} {f g:Option γ×δ->StateT SortSt Sem β} (h:Sim prog w A E s U cmp m p) (a:∀ d,Sim prog w A E s U cmp (f (none,d)) (g (none,d))) (ks:∀ c d,Sim prog w A E s U cmp (f (some c,d)) (g (some c,d))):Sim prog w A E s U cmp (m >>= f) (p >>= g) :=
 aG h λx=>match x with
  | (none,d)=>a d
  | (some c,d)=>ks c d
theorem qd (a:∀ x y:Keyed,Sim prog w A E s U cmp (lt' (U x) (U y)) (lt' x y)) {i j:Nat}:Sim prog w A E s U cmp (ltAt' i j) (ltAt' i j):=by
 rw[ltAt'_eq]
 refine cz ua λst ps f=>?_
 have e:arrOf st=(arrOf ps).map U:=Fol.arr f
 dsimp only
 rw[e]
 exact bQ λu=>bQ λv=>a u v
theorem dB {β:Type} (p q:β->Nat):∀ (l:List β) (xs:Array Keyed),l.foldl (λa k=>a.swapIfInBounds (p k) (q k)) (xs.map U)=(l.foldl (λa k=>a.swapIfInBounds (p k) (q k)) xs).map U
 | [],xs=>rfl
 | k::l,xs=>by
  rw[List.foldl_cons,List.foldl_cons,<- dB p q l]
  congr 1
  apply Array.ext_getElem?
  intro i
  rw[Array.getElem?_map]
  by_cases h1:p k < xs.size
  .by_cases h2:q k < xs.size
   .rw[getElem?_swapIB (by simpa using h1) (by simpa using h2),getElem?_swapIB h1 h2]
    simp only[Array.getElem?_map]
    repeat' split
    all_goals rfl
   .rw[Array.swapIfInBounds_def,Array.swapIfInBounds_def,dif_pos (by simpa using h1),dif_neg (by simpa using h2),dif_pos h1,dif_neg h2,Array.getElem?_map]
  .rw[Array.swapIfInBounds_def,Array.swapIfInBounds_def,dif_neg (by simpa using h1),dif_neg h1,Array.getElem?_map]
theorem t8 {i j:Nat}:Sim prog w A E s U cmp (reverseSlice' i j) (reverseSlice' i j):=by
 rw[reverseSlice'_eq]
 refine dS λst ps f=>#[f.kind,f.kind',?_,f.pend,f.mg,f.fail,f.fail']
 show mirror (arrOf st) _ _ _=(mirror (arrOf ps) _ _ _).map U
 rw[f.arr]
 exact dB _ _ _ _
theorem qe {i j:Nat}:Sim prog w A E s U cmp (moveDown' i j) (moveDown' i j):=by
 rw[moveDown'_eq]
 refine dS λst ps f=>#[f.kind,f.kind',?_,f.pend,f.mg,f.fail,f.fail']
 show bubble (arrOf st) _ _=(bubble (arrOf ps) _ _).map U
 rw[f.arr]
 exact dB _ _ _ _
theorem AI (a:∀ x y:Keyed,Sim prog w A E s U cmp (lt' (U x) (U y)) (lt' x y)) {lo n ok:Nat}:Sim prog w A E s U cmp (binarySort' lo n ok) (binarySort' lo n ok):=by
 rw[binarySort'_eq]
 repeat' first
  | exact aO rfl
  | exact c6
  | refine bK (λ_=>?_) (λ_=>?_)
  | (refine bH (qd a) ?_ (λu=>?_) <;> try dsimp only)
  | (refine aG t8 (λu=>?_);try dsimp only)
  | (refine aG qe (λu=>?_);try dsimp only)
  | (refine aG dR (λu=>?_);try dsimp only)
  | (refine iE (iD λi x=>?_) (λd=>?_) (λc d=>?_) <;> try dsimp only)
  | (refine aG (iD λi x=>?_) (λx=>?_) <;> try dsimp only)
theorem AH (a:∀ x y:Keyed,Sim prog w A E s U cmp (lt' (U x) (U y)) (lt' x y)) {lo n:Nat}:Sim prog w A E s U cmp (countRun' lo n) (countRun' lo n):=by
 rw[countRun'_eq]
 repeat' first
  | exact aO rfl
  | exact c6
  | refine bK (λ_=>?_) (λ_=>?_)
  | (refine bH (qd a) ?_ (λu=>?_) <;> try dsimp only)
  | (refine aG t8 (λu=>?_);try dsimp only)
  | (refine aG qe (λu=>?_);try dsimp only)
  | (refine aG dR (λu=>?_);try dsimp only)
  | (refine iE (iD λi x=>?_) (λd=>?_) (λc d=>?_) <;> try dsimp only)
  | (refine aG (iD λi x=>?_) (λx=>?_) <;> try dsimp only)
end
section
variable {prog:Program} {w:World} {A:Around} {E:Value->Shared->Prop} {s:Shared} {U:Keyed->Keyed} {cmp:Nat->Nat->Option Bool}
theorem fB (a:∀ x y:Keyed,Sim prog w A E s U cmp (lt' (U x) (U y)) (lt' x y)) {base n hint:Nat}:Sim prog w A E s U cmp (uW left (U key) (arr.map U) base n hint) (uW left key arr base n hint):=by
 refine bH (bQ λu=>bK (λ_=>a _ _) (λ_=>aG (a _ _) λr=>aO rfl)) (aO rfl) (λu=>?_)
 dsimp only
 repeat' first
  | exact aO rfl
  | refine bK (λ_=>?_) (λ_=>?_)
  | (refine bH (bQ λu=>bK (λ_=>a _ _) (λ_=>aG (a _ _) λr=>aO rfl)) ?_ (λu=>?_) <;> try dsimp only)
  | (refine iE (iD λi x=>?_) (λd=>?_) (λc d=>?_) <;> try dsimp only)
end
section
variable {prog:Program} {w:World} {A:Around} {E:Value->Shared->Prop} {s:Shared} {U:Keyed->Keyed} {cmp:Nat->Nat->Option Bool}
theorem kB [EqRl α]:@Rl.rel U α rlE a a:=rfl
theorem gJ {X τ:Array Keyed} (h:X=τ.map U):Rl.rel U X τ:=h
theorem eC [Rl U α] {a b:α} (h:Rl.rel U a b):@Rl.rel U _ rlO (some a) (some b):=h
theorem eE [Rl U α]:@Rl.rel U _ rlO (none:Option α) none:=trivial
theorem eF [Rl U α] {a b:α} (h:Rl.rel U a b):@Rl.rel U _ rlF (ForInStep.done a) (ForInStep.done b):=h
theorem dl [Rl U α] {a b:α} (h:Rl.rel U a b):@Rl.rel U _ rlF (ForInStep.yield a) (ForInStep.yield b):=h
theorem eD [Rl U α] [Rl U β] {a b:α} {d c:β} (h:Rl.rel U a b) (h':Rl.rel U d c):@Rl.rel U _ rlP (a,d) (b,c):=#[h,h']
theorem xE [EqRl γ] {a b:Nat} {x y:Option (Array Keyed)×Array Keyed×γ} {f g:Nat -> Option (Array Keyed)×Array Keyed×γ -> StateT SortSt Sem (ForInStep (Option (Array Keyed)×Array Keyed×γ))} (r:Rl.rel U x y) (h:∀ i o d c,Sim prog w A E s U cmp (f i (o.map (Array.map U),d.map U,c)) (g i (o,d,c))):Sim prog w A E s U cmp (forIn [a:b] x f) (forIn [a:b] y g):=by
  refine fD r λi x y r=>?_
  obtain ⟨x1,m,e⟩:=x
  obtain ⟨u,j,t⟩:=y
  obtain ⟨k,l,n⟩:=r
  obtain rfl:m=j.map U:=l
  obtain rfl:e=t:=n
  cases x1 <;> cases u <;> first | exact False.elim k | skip
  . exact h i none j e
  . rename_i p q
    obtain rfl:p=q.map U:=k
    exact h i (some q) j e
theorem vE [EqRl γ] [Rl U β] {m p:StateT SortSt Sem (Option (Array Keyed)×Array Keyed×γ)} {f g:Option (Array Keyed)×Array Keyed×γ -> StateT SortSt Sem β} (h:Sim prog w A E s U cmp m p) (l:∀ d c,Sim prog w A E s U cmp (f (none,d.map U,c)) (g (none,d,c))) (ks:∀ r d c,Sim prog w A E s U cmp (f (some (r.map U),d.map U,c)) (g (some r,d,c))):Sim prog w A E s U cmp (m >>= f) (p >>= g):=by
  refine cz h λx y r=>?_
  obtain ⟨x1,j,a⟩:=x
  obtain ⟨o,b,n⟩:=y
  obtain ⟨e,i,k⟩:=r
  obtain rfl:j=b.map U:=i
  obtain rfl:a=n:=k
  cases x1 <;> cases o <;> first | exact False.elim e | skip
  . exact l b a
  . rename_i p q
    obtain rfl:p=q.map U:=e
    exact ks q b a
theorem c8 [Rl U β] {f g:SortSt->StateT SortSt Sem β} (k:∀ st ps,Fol U st ps->Sim prog w A E s U cmp (f st) (g ps)):Sim prog w A E s U cmp (get >>= f) (get >>= g) :=
 cz ua λst ps a=>k st ps a
theorem qa (e:∀ x y:Keyed,Sim prog w A E s U cmp (lt' (U x) (U y)) (lt' x y)) (a b:Array Keyed):Sim prog w A E s U cmp (qJ (a.map U) (b.map U)) (qJ a b):=by
 refine aG dR λ_=>?_
 refine bQ λy=>?_
 simp only[Array.size_map]
 refine bK (λ_=>aO (by (repeat' first | with_reducible exact eE | with_reducible apply eF | with_reducible apply dl | with_reducible apply eC | (with_reducible apply gJ;simp only[Array.map_append,Array.map_push,Array.map_extract,Array.map_reverse,List.map_toArray,FV,List.map_nil];done) | with_reducible apply eD | with_reducible exact kB))) λ_=>?_
 refine bK (λ_=>aO (by (repeat' first | with_reducible exact eE | with_reducible apply eF | with_reducible apply dl | with_reducible apply eC | (with_reducible apply gJ;simp only[Array.map_append,Array.map_push,Array.map_extract,Array.map_reverse,List.map_toArray,FV,List.map_nil];done) | with_reducible apply eD | with_reducible exact kB))) λ_=>?_
 refine c8 λst ps g=>?_
 have f:=g.mg
 simp only[gallopOf] at f
 rw[f]
 repeat' first
  | exact aO (by (repeat' first | with_reducible exact eE | with_reducible apply eF | with_reducible apply dl | with_reducible apply eC | (with_reducible apply gJ;simp only[Array.map_append,Array.map_push,Array.map_extract,Array.map_reverse,List.map_toArray,FV,List.map_nil];done) | with_reducible apply eD | with_reducible exact kB))
  | exact c6
  | refine bK (λ_=>?_) (λ_=>?_)
  | refine aG ni (λ_=>?_)
  | refine aG dR (λ_=>?_)
  | refine bQ λu=>?_
  | (refine bH (fB e) ?_ (λu=>?_) <;> try dsimp only)
  | (refine bH (e _ _) ?_ (λu=>?_) <;> try dsimp only)
  | (refine vE (xE (by (repeat' first | with_reducible exact eE | with_reducible apply eF | with_reducible apply dl | with_reducible apply eC | (with_reducible apply gJ;simp only[Array.map_append,Array.map_push,Array.map_extract,Array.map_reverse,List.map_toArray,FV,List.map_nil];done) | with_reducible apply eD | with_reducible exact kB)) λi o d c=>?_) (λd c=>?_) (λr d c=>?_) <;> try dsimp only)
end
section
variable {prog:Program} {w:World} {A:Around} {E:Value->Shared->Prop} {s:Shared} {U:Keyed->Keyed} {cmp:Nat->Nat->Option Bool}
theorem xD [EqRl γ] {a b:Nat} {x y:Option (Array Keyed)×Nat×Nat×Array Keyed×γ} {f g:Nat -> Option (Array Keyed)×Nat×Nat×Array Keyed×γ -> StateT SortSt Sem (ForInStep (Option (Array Keyed)×Nat×Nat×Array Keyed×γ))} (r:Rl.rel U x y) (h:∀ i o m n d c,Sim prog w A E s U cmp (f i (o.map (Array.map U),m,n,d.map U,c)) (g i (o,m,n,d,c))):Sim prog w A E s U cmp (forIn [a:b] x f) (forIn [a:b] y g):=by
  refine fD r λi x y r=>?_
  obtain ⟨x1,t,F,z,e⟩:=x
  obtain ⟨v,u,H,j,D⟩:=y
  obtain ⟨k,l,G,B,C⟩:=r
  obtain rfl:t=u:=l
  obtain rfl:F=H:=G
  obtain rfl:z=j.map U:=B
  obtain rfl:e=D:=C
  cases x1 <;> cases v <;> first | exact False.elim k | skip
  . exact h i none _ _ j e
  . rename_i p q
    obtain rfl:p=q.map U:=k
    exact h i (some q) _ _ j e
theorem vD [EqRl γ] [Rl U β] {m p:StateT SortSt Sem (Option (Array Keyed)×Nat×Nat×Array Keyed×γ)} {f g:Option (Array Keyed)×Nat×Nat×Array Keyed×γ -> StateT SortSt Sem β} (h:Sim prog w A E s U cmp m p) (D:∀ m n d c,Sim prog w A E s U cmp (f (none,m,n,d.map U,c)) (g (none,m,n,d,c))) (ks:∀ r m n d c,Sim prog w A E s U cmp (f (some (r.map U),m,n,d.map U,c)) (g (some r,m,n,d,c))):Sim prog w A E s U cmp (m >>= f) (p >>= g):=by
  refine cz h λx y r=>?_
  obtain ⟨x1,j,B,o,a⟩:=x
  obtain ⟨l,k,C,b,v⟩:=y
  obtain ⟨e,i,z,t,u⟩:=r
  obtain rfl:j=k:=i
  obtain rfl:B=C:=z
  obtain rfl:o=b.map U:=t
  obtain rfl:a=v:=u
  cases x1 <;> cases l <;> first | exact False.elim e | skip
  . exact D _ _ b a
  . rename_i p q
    obtain rfl:p=q.map U:=e
    exact ks q _ _ b a
theorem qb (e:∀ x y:Keyed,Sim prog w A E s U cmp (lt' (U x) (U y)) (lt' x y)) (a b:Array Keyed):Sim prog w A E s U cmp (qK (a.map U) (b.map U)) (qK a b):=by
 refine aG dR λ_=>?_
 simp only[Array.size_map]
 refine bQ λy=>?_
 refine bK (λ_=>aO (by (repeat' first | with_reducible exact eE | with_reducible apply eF | with_reducible apply dl | with_reducible apply eC | (with_reducible apply gJ;simp only[Array.map_append,Array.map_push,Array.map_extract,Array.map_reverse,List.map_toArray,FV,List.map_nil];done) | with_reducible apply eD | with_reducible exact kB))) λ_=>?_
 refine bK (λ_=>aO (by (repeat' first | with_reducible exact eE | with_reducible apply eF | with_reducible apply dl | with_reducible apply eC | (with_reducible apply gJ;simp only[Array.map_append,Array.map_push,Array.map_extract,Array.map_reverse,List.map_toArray,FV,List.map_nil];done) | with_reducible apply eD | with_reducible exact kB))) λ_=>?_
 refine c8 λst ps g=>?_
 have f:=g.mg
 simp only[gallopOf] at f
 rw[f]
 repeat' first
  | exact aO (by (repeat' first | with_reducible exact eE | with_reducible apply eF | with_reducible apply dl | with_reducible apply eC | (with_reducible apply gJ;simp only[Array.map_append,Array.map_push,Array.map_extract,Array.map_reverse,List.map_toArray,FV,List.map_nil];done) | with_reducible apply eD | with_reducible exact kB))
  | exact c6
  | refine bK (λ_=>?_) (λ_=>?_)
  | refine aG ni (λ_=>?_)
  | refine aG dR (λ_=>?_)
  | refine bQ λu=>?_
  | (refine bH (fB e) ?_ (λu=>?_) <;> try dsimp only)
  | (refine bH (e _ _) ?_ (λu=>?_) <;> try dsimp only)
  | (refine vD (xD (by (repeat' first | with_reducible exact eE | with_reducible apply eF | with_reducible apply dl | with_reducible apply eC | (with_reducible apply gJ;simp only[Array.map_append,Array.map_push,Array.map_extract,Array.map_reverse,List.map_toArray,FV,List.map_nil];done) | with_reducible apply eD | with_reducible exact kB)) λi o m n d c=>?_) (λm n d c=>?_) (λr m n d c=>?_) <;> try dsimp only)
end
section
variable {prog:Program} {w:World} {A:Around} {E:Value->Shared->Prop} {s:Shared} {U:Keyed->Keyed} {cmp:Nat->Nat->Option Bool}
theorem n4 (b:∀ a p j,G (a.map U) (U p,j)=(G a (p,j)).map U):∀ (l:List (Keyed×Nat)) (xs:Array Keyed),(l.map λx=>(U x.1,x.2)).foldl G (xs.map U)=(l.foldl G xs).map U
 | [],xs=>rfl
 | (p,j)::l,xs=>by
  rw[FV,List.foldl_cons,List.foldl_cons,<- n4 b l]
  dsimp only
  rw[b]
theorem t9 {f:SortSt->Array Keyed->SortSt} (hf:∀ st X,f st X=setArr st (X.toList.zipIdx.foldl G (arrOf st))) (c:∀ a p j,G (a.map U) (U p,j)=(G a (p,j)).map U):Sim prog w A E s U cmp (modify λst=>f st (m.map U)) (modify λst=>f st m):=by
 refine dS λst ps b=>?_
 rw[hf,hf]
 refine #[b.kind,b.kind',?_,b.pend,b.mg,b.fail,b.fail']
 show _=Array.map U (m.toList.zipIdx.foldl G (arrOf ps))
 rw[<- n4 c,<- b.arr]
 show (m.map U).toList.zipIdx.foldl G (arrOf st)=_
 congr 1
 rw[Array.toList_map,List.zipIdx_map]
 rfl
theorem nk [Rl U β] {f g:Array Keyed->StateT SortSt Sem β} (h:Sim prog w A E s U cmp m p) (k:∀ d,Sim prog w A E s U cmp (f (d.map U)) (g d)):Sim prog w A E s U cmp (m >>= f) (p >>= g):=by
 refine cz h λx y (r:x=y.map U)=>?_
 rw[r]
 exact k y
theorem qc (e:∀ x y:Keyed,Sim prog w A E s U cmp (lt' (U x) (U y)) (lt' x y)) (i:Nat):Sim prog w A E s U cmp (mergeAt' i) (mergeAt' i):=by
 refine c8 λst ps c=>?_
 have h1:=c.arr
 have h2:=c.pend
 simp only[arrOf,pendingOf] at h1 h2
 rw[h2]
 generalize (pendingOf ps)[i]?=a
 generalize (pendingOf ps)[i+1]?=b
 cases a with
 | none=>exact c6
 | some a =>
 cases b with
 | none=>exact c6
 | some b =>
 obtain ⟨sa,na,h⟩:=a
 obtain ⟨sb,nb,g⟩:=b
 refine aG (AG #[c.kind,c.kind',c.arr,rfl,c.mg,c.fail,c.fail']) λ_=>?_
 rw[h1]
 refine bQ λu=>?_
 refine bH (fB e) (aO rfl) λk=>?_
 refine bK (λ_=>aO rfl) λ_=>?_
 refine bQ λu=>?_
 refine bH (fB e) (aO rfl) λk=>?_
 refine bK (λ_=>aO rfl) λ_=>?_
 simp only[<- Array.map_extract]
 refine bK (λ_=>?_) λ_=>?_
 .refine nk (qa e _ _) λd=>aG (t9 (λ_ _=>rfl) λ_ _ _=>Array.map_setIfInBounds.symm) λ_=>c8 λst ps f=>aO ?_
  show (failedOf st).isNone=(failedOf ps).isNone
  rw[f.fail,f.fail']
 .refine nk (qb e _ _) λd=>aG (t9 (λ_ _=>rfl) λ_ _ _=>Array.map_setIfInBounds.symm) λ_=>c8 λst ps f=>aO ?_
  show (failedOf st).isNone=(failedOf ps).isNone
  rw[f.fail,f.fail']
theorem p9 (F:Array (Nat×Nat×Nat)->Array (Nat×Nat×Nat)) (hf:∀ st,f st=setPending st (F (pendingOf st))):Sim prog w A E s U cmp (modify f) (modify f) :=
 dS λst ps a=>by
  rw[hf,hf]
  exact #[a.kind,a.kind',a.arr,congrArg F a.pend,a.mg,a.fail,a.fail']
theorem xB (b:∀ x y:Keyed,Sim prog w A E s U cmp (lt' (U x) (U y)) (lt' x y)):Sim prog w A E s U cmp sortRuns' sortRuns':=by
 rw[sortRuns'_eq]
 refine c8 λst ps a=>?_
 have hsz:(arrOf st).size=(arrOf ps).size:=by rw[a.arr,Array.size_map]
 dsimp only
 rw[hsz]
 generalize (arrOf ps).size=n
 repeat' first
  | exact aO rfl
  | refine bK (λ_=>?_) (λ_=>?_)
  | (refine bH (AH b) ?_ (λu=>?_) <;> try dsimp only)
  | (refine aG (AI b) (λu=>?_);try dsimp only)
  | (refine aG (qc b _) (λu=>?_);try dsimp only)
  | (refine aG dR (λu=>?_);try dsimp only)
  | (refine aG (p9 (λp=>p.push _) λ_=>rfl) (λu=>?_);try dsimp only)
  | (refine aG (p9 (λp=>p.modify (p.size - 1) _) λ_=>rfl) (λu=>?_);try dsimp only)
  | (refine c8 λst ps a=>?_;rw[a.pend];generalize pendingOf ps=p;try dsimp only)
  | (refine iE (iD λi x=>?_) (λd=>?_) (λc d=>?_) <;> try dsimp only)
  | (generalize Array.back? _=d;rcases d with _ | ⟨s1,e,x⟩ <;> dsimp only)
  | (generalize (if p.size > 1 then p[p.size - 2]? else none)=d;rcases d with _ | ⟨s1,e,x⟩ <;> dsimp only)
end
def nM (n:Nat):Array Keyed:=((List.range n).map λi=>((Value.ref i,Value.ref i):Keyed)).toArray
def lW (x:Keyed):Option Nat:=match x.1 with
 | .ref i=>some i
 | _=>none
def bv (ns:List (List Int)):Option (List Nat) :=
 match ev (aK ns) (sortRuns'.run (SortSt.mk' (bf true) (nM ns.length) (List.toArray []) 7 none)) none with
 | some ((_,st),_)=>(arrOf st).toList.mapM lW
 | none=>none
structure NRs (h:Heap) (bs:List Addr) (ns:List (List Int)):Prop where
 len:ns.length=bs.length
 at':∀ (i:Nat) (b:Addr) (n:List Int),bs[i]?=some b->ns[i]?=some n->IsNts h b n
theorem NRs.tail (r:NRs h (b::bs) (n::ns)):NRs h bs ns :=
 #[by simpa using r.len,λi b n e1 a=>r.at' (i+1) b n (by simpa using e1) (by simpa using a)]
theorem NRs.keep (r:NRs h bs ns) (k:∀ b∈bs,∀ o,h.get? b=some o->h'.get? b=some o):NRs h' bs ns :=
 #[r.len,λi b n e1 a=>(r.at' i b n e1 a).at (k b (FL e1))]
theorem NRs.mem (r:NRs h bs ns):∀ b∈bs,∃ n∈ns,IsNts h b n:=λb c=>by
 obtain ⟨i,hi⟩:=List.getElem?_of_mem c
 have a:i < ns.length:=by rw[r.len];exact (FK.mp hi).1
 exact #[ns[i],List.getElem_mem _,r.at' i b _ hi (FE a)]
def kOk (ns:List (List Int)):Prop:=(∀ n∈ns,n≠[])\/ns.head?=some []
theorem rY:bv []=some []:=by kernel_rfl
theorem rX (n:List Int):bv [n]=some [0]:=by kernel_rfl
section
variable {prog:Program} {w:World} {A:Around} {E:Value->Shared->Prop} {s:Shared}
theorem zJ (a:IsNts s.heap b []) (h:Q none s):wpAny (model prog w) A (firstOfTuple' (.ref b)) Q E s:=by
 obtain ⟨it,⟨o,e,c,k,d⟩,j⟩:=a
 refine Fs (wpAny_typeOf (T:="tuple") #[o,e,c] ?_)
 rw[if_neg (by decide)]
 refine Fs (listItems_at e d ?_)
 have:it[0]?=none:=by
  rw[<- Array.getElem?_toList]
  generalize it.toList=l at j
  cases j
  rfl
 rw[this]
 exact Ft h
theorem je:∀ (bs:List Addr) (ns:List (List Int)),NRs s.heap bs ns->(∀ os:List (Option Value),(ns.head?=some []->os.head?=some none)->Q os s) ->
  wpAny (model prog w) A ((bs.map Value.ref).mapM firstOfTuple') Q E s
 | [],[],_,q=>by
  simp only[List.map_nil,List.mapM_nil]
  exact Ft (q [] λh=>by cases h)
 | [],_::_,r,_=>by have:=r.len;cases this
 | _::_,[],r,_=>by have:=r.len;cases this
 | b::bs,n::ns,r,q=>by
  rw[FV,List.mapM_cons]
  have a:=r.at' 0 b n rfl rfl
  cases n with
  | nil=>exact Fs (zJ a (Fs (je bs ns r.tail λos _=>Ft (q (none::os) λ_=>rfl))))
  | cons i n=>exact Fs (n9 a (by simp) λj t=>Fs (je bs ns r.tail λos _=>Ft (q (some (.int j t)::os) λh=>by simp at h)))
theorem m8:∀ (bs:List Addr) (ns:List (List Int)),NRs s.heap bs ns->Q (bs.map λ_=>.type "tuple") s->wpAny (model prog w) A ((bs.map Value.ref).mapM typeOf) Q E s
 | [],_,_,q=>by
  simp only[List.map_nil,List.mapM_nil]
  exact Ft q
 | _::_,[],r,_=>by have:=r.len;cases this
 | b::bs,n::ns,r,q=>by
  rw[FV,List.mapM_cons]
  obtain ⟨it,⟨o,e,c,k,d⟩,j⟩:=r.at' 0 b n rfl rfl
  exact Fs (wpAny_typeOf (T:="tuple") #[o,e,c] (Fs (m8 bs ns r.tail (Ft q))))
theorem zt (h2:bs≠[]) (r:NRs s.heap bs ns) (c:kOk ns) (h:∀ k,sF k->Q k s):wpAny (model prog w) A (keyKind' (bs.map Value.ref).toArray) Q E s:=by
 rcases c with c | c
 .refine zr h2 (λb f=>?_) (h _ (.inl rfl))
  obtain ⟨n,e,x⟩:=r.mem b f
  exact #[n,c n e,x]
 .rw[keyKind'_eq,List.mapM_toArray]
  refine Fs ?_
  rw[map_eq_pure_bind]
  refine Fs (je bs ns r λos d=>Ft ?_)
  have d:=d c
  obtain ⟨os,rfl⟩:∃ l,os=none::l:=by
   cases os with
   | nil=>cases d
   | cons x l=>cases d;exact #[l,rfl]
  rw[if_neg (by simp),if_neg (by simp),oneTypeOnly'_eq,List.mapM_toArray]
  refine Fs (Fs ?_)
  rw[map_eq_pure_bind]
  refine Fs (m8 bs ns r (Ft ?_))
  have h0:(List.map (λ_:Addr=>Value.type "tuple") bs).toArray[0]?=some (Value.type "tuple"):=by
   cases bs with
   | nil=>exact absurd rfl h2
   | cons b bs=>simp
  have a:((List.map (λ_:Addr=>Value.type "tuple") bs).toArray.all λx=>x == Value.type "tuple")=true:=by
   simp only[List.all_toArray,List.all_map,List.all_eq_true]
   intro _ _
   rfl
  rw[h0]
  dsimp only
  rw[if_pos a]
  exact Ft (Ft (h _ (.inr rfl)))
theorem vS (bs:List Addr):(bs.map Value.ref).toArray.zip (bs.map Value.ref).toArray=(nM bs.length).map (mF bs):=by
 apply Array.ext_getElem?
 intro i
 rw[List.zip_toArray,Array.getElem?_map]
 unfold nM
 simp only[List.getElem?_toArray,FP]
 by_cases hi:i < bs.length
 .rw[List.getElem?_range hi]
  have e:bs[i]?=some bs[i]:=FE hi
  have:((bs.map Value.ref).zip (bs.map Value.ref))[i]?=some (Value.ref bs[i],Value.ref bs[i]):=by
   simp[List.getElem?_zip_eq_some,e]
  rw[this]
  simp[mF,List.getD,e]
 .grind
theorem qB:∀ {l:List Keyed} {is:List Nat},l.mapM lW=some is->l.map (λx=>(mF bs x).2)=is.map λi=>Value.ref (bs.getD i 0)
 | [],is,h=>by cases h;rfl
 | x::l,is,h=>by
  rw[List.mapM_cons] at h
  obtain ⟨i,e1,h⟩:=F8.mp h
  obtain ⟨a,c,h⟩:=F8.mp h
  cases h
  rw[FV,FV,qB c]
  congr 1
  unfold lW at e1
  unfold mF
  cases b:x.1 <;> rw[b] at e1 <;> cases e1
  rfl
theorem vI (hu:A.units < cLine) (r:NRs s.heap bs ns) (g:sF k) (c:bv ns=some is) (h:∀ b,(arrOf b).map (·.2)=(is.map λi=>Value.ref (bs.getD i 0)).toArray->failedOf b=none->Q () b) :
  wpS (model prog w) A E s sortRuns' Q (SortSt.mk' k ((bs.map Value.ref).toArray.zip (bs.map Value.ref).toArray) (List.toArray []) 7 none):=by
 unfold bv at c
 cases e:ev (aK ns) (sortRuns'.run (SortSt.mk' (bf true) (nM ns.length) (List.toArray []) 7 none)) none with
 | none=>rw[e] at c;cases c
 | some p =>
  obtain ⟨⟨u,ps⟩,q⟩:=p
  rw[e] at c
  have c:(arrOf ps).toList.mapM lW=some is:=c
  have j:∀ (i:Nat) (n:List Int),ns[i]?=some n->IsNts s.heap (bs.getD i 0) n:=λi n e=>by
   have hi:i < bs.length:=by rw[<- r.len];exact (FK.mp e).1
   have d:bs[i]?=some bs[i]:=FE hi
   rw[List.getD,d]
   exact r.at' i _ n d e
  obtain ⟨a,b,_,f,_,hw⟩:=xB (Dj (prog:=prog) (w:=w) (E:=E) hu j) (SortSt.mk' k ((bs.map Value.ref).toArray.zip (bs.map Value.ref).toArray) (List.toArray []) 7 none) (SortSt.mk' (bf true) (nM ns.length) (List.toArray []) 7 none) u ps q
   #[g,rfl,by rw[r.len];exact vS bs,rfl,rfl,rfl,rfl] e
  refine hw _ (h b ?_ f.fail)
  rw[f.arr,Array.map_map]
  apply Array.ext'
  rw[Array.toList_map]
  exact qB c
theorem xy {n:Nat} (hu:A.units < cLine) (p:s.heap.get? a=some (seqObj "list" (bs.map Value.ref).toArray n)) (r:NRs s.heap bs ns) (t:kOk ns) (l:bv ns=some is) (hsz:bs.length<=sizeLine) (v:is.length<=sizeLine) (h:P (.done (.ret .none)) { s with heap:=sortedHeap s.heap a (bs.map Value.ref) (is.map λi=>Value.ref (bs.getD i 0)).toArray }) :
  wpAny (model prog w) A (Builtin.«list.sort» #[[.ref a],[]]) P E s:=by
 rw[list_sort_plain]
 have D:a < s.heap.objs.size:=FF p
 have hsz2:(bs.map Value.ref).toArray.size<=sizeLine:=by simpa using hsz
 have g:(is.map λi=>Value.ref (bs.getD i 0)).toArray.size<=sizeLine:=by simpa using v
 have x:∀ b∈bs,b≠a:=λb q z=>by
  obtain ⟨m,_,it,⟨o,e1,c,_⟩,_⟩:=r.mem b q
  rw[z,p] at e1
  cases e1
  have c:Value.type "list"=Value.type "tuple":=c
  injection c with c
  exact absurd c (by decide)
 refine Fs (listItems_at p rfl ?_)
 refine Fs (listUpdate_at p rfl ?_)
 obtain ⟨e1,j⟩:∃ e1,(s.heap.update a (Obj.mapSeq λ_=>(List.toArray []))).get? a=some (seqObj "list" (List.toArray []) e1):=#[_,get?_update_seq p (λ_=>(List.toArray []))]
 refine Fs (seqEpoch_at j rfl ?_)
 refine Fs (wpAny_newTuple ?_)
 refine Fs (wpAny_newList ?_)
 refine Fu ?_
 have d:(((s.heap.update a (Obj.mapSeq λ_=>(List.toArray []))).push (seqObj "tuple" (bs.map Value.ref).toArray 0)).push (seqObj "list" (List.toArray []) 0)).get? a=some (seqObj "list" (List.toArray []) e1) :=
  Fy _ (Fy _ j)
 have y:NRs (((s.heap.update a (Obj.mapSeq λ_=>(List.toArray []))).push (seqObj "tuple" (bs.map Value.ref).toArray 0)).push (seqObj "list" (List.toArray []) 0)) bs ns:=r.keep λb q o e =>
  Fy _ (Fy _ ((Ge _ _ (Ne.symm (x b q))).trans e))
 show wpAny (model prog w) A _ P E { s with heap:=((s.heap.update a (Obj.mapSeq λ_=>(List.toArray []))).push (seqObj "tuple" (bs.map Value.ref).toArray 0)).push (seqObj "list" (List.toArray []) 0) }
 dsimp only
 by_cases h2:(bs.map Value.ref).toArray.size < 2
 .rw[if_pos h2,if_pos h2]
  refine Fs (Ft ?_)
  rw[StateT.run_pure]
  refine Fs (Ft ?_)
  dsimp only
  have out:((bs.map Value.ref).toArray.zip (bs.map Value.ref).toArray).map (·.2)=(is.map λi=>Value.ref (bs.getD i 0)).toArray:=by
   have C:=r.len
   match bs,ns,C,h2 with
   | [],[],_,_=>rw[rY] at l;cases l;simp
   | [b],[n],_,_=>rw[rX] at l;cases l;simp[List.zip_toArray]
   | _::_::_,_,_,h2=>simp at h2;lia
  refine Fs (seqEpoch_at d rfl ?_)
  show wpAny _ _ (Builtin.List.listUpdate (.ref a) (λ_=>((bs.map Value.ref).toArray.zip (bs.map Value.ref).toArray).map (·.2)) >>= _) _ _ _
  rw[out]
  refine Fs (listUpdate_at d rfl ?_ (hsz2:=Nat.le_succ_of_le g))
  simp only[bne_self_eq_false,Ga,if_false]
  exact Ft h
 .rw[if_neg h2,if_neg h2]
  have u:bs≠[]:=λz=>by subst z;simp at h2
  refine Fs (zt u y t λk t=>?_)
  refine Fs (wpAny_mono (vI (Q:=λ_ f=>(arrOf f).map (·.2)=(is.map λi=>Value.ref (bs.getD i 0)).toArray/\failedOf f=none) hu y t l λf a1 a2=>#[a1,a2]) ?_ λ_ _ e=>e)
  rintro ⟨⟨⟩,f⟩ s' ⟨rfl,B,hf⟩
  dsimp only
  refine Fs (seqEpoch_at d rfl ?_)
  rw[B]
  refine Fs (listUpdate_at d rfl ?_ (hsz2:=Nat.le_succ_of_le g))
  rw[hf]
  simp only[bne_self_eq_false,Ga,if_false]
  exact Ft h
end
section
variable {prog:Program} {w:World} {A:Around} {E:Value->Shared->Prop} {s:Shared}
theorem rW (hu:A.units+2 < cLine) (f:s.heap.IsList l (bs.map Value.ref).toArray) (r:NRs s.heap bs ns) (k:kOk ns) (j:bv ns=some is) (hsz:bs.length<=sizeLine) (d:is.length<=sizeLine) (h:∀ h' p,s.heap.objs.size<=p->(∀ b o,s.heap.get? b=some o->h'.get? b=some o)->(∃ e,h'.get? p=some (seqObj "list" (is.map λi=>Value.ref (bs.getD i 0)).toArray e))->Q (.ref p) { s with heap:=h' }) :
  wpAny (model prog w) A (call (.builtin "sorted") [.ref l]) Q E s:=by
 refine Calls.call_function_entry kind_sorted plain_sorted entry_sorted (args_sorted1 _) ?_
 unfold Builtin.«sorted»
 refine Fs (m:=checkCount "sorted" 1 1 _) (Ft ?_)
 refine Fs (collect_list f ?_ (by rw[FJ];exact hsz))
 refine Fs (wpAny_newList ?_ (by rw[FJ];exact hsz))
 obtain ⟨h1,k1,g,e1⟩:∃ h1,(∀ b o,s.heap.get? b=some o->h1.get? b=some o)/\s.heap.objs.size<=h1.objs.size/\h1=(s.heap.push (seqObj "list" (List.toArray []) 0)).update s.heap.objs.size (Obj.mapSeq (·++(bs.map Value.ref).toArray)):=by
  refine #[_,λb o e=>?_,?_,rfl]
  .exact (Ge _ _ (Nat.ne_of_gt (FF e))).trans (Fy _ e)
  .rw[Heap.size_update,Gf]
   exact Nat.le_succ _
 rw[<- e1]
 have a:(h1.push (seqObj "list" (bs.map Value.ref).toArray 0)).get? h1.objs.size=some (seqObj "list" (bs.map Value.ref).toArray 0):=FI _ rfl
 have k2:∀ b o,s.heap.get? b=some o->(h1.push (seqObj "list" (bs.map Value.ref).toArray 0)).get? b=some o:=λb o e=>Fy _ (k1 b o e)
 show wpAny _ _ _ _ _ { s with heap:=h1.push (seqObj "list" (bs.map Value.ref).toArray 0) }
 refine Fs (Fu (wpAny_call_entry slot_list_sort #[_,a,rfl] entry_list_sort (xy (s:={ s with heap:=h1.push (seqObj "list" (bs.map Value.ref).toArray 0) }) ?_ a (r.keep λb _ o e=>k2 b o e) k j hsz d #[_,rfl,?_]) (args_list_sort _)))
 .exact hu
 refine Ft #[_,rfl,h _ h1.objs.size g (λb o e=>?_) ?_]
 .have hb1:b < h1.objs.size:=FF (k1 b o e)
  unfold sortedHeap
  refine (Ge _ _ (Nat.ne_of_gt hb1)).trans (Fy _ (Fy _ ?_))
  exact (Ge _ _ (Nat.ne_of_gt hb1)).trans (k2 b o e)
 .unfold sortedHeap
  obtain ⟨e1,c⟩:∃ e1,((h1.push (seqObj "list" (bs.map Value.ref).toArray 0)).update h1.objs.size (Obj.mapSeq λ_=>(List.toArray []))).get? h1.objs.size=some (seqObj "list" (List.toArray []) e1):=#[_,get?_update_seq a (λ_=>(List.toArray []))]
  exact #[_,get?_update_seq (Fy _ (Fy _ c)) (λ_=>(is.map λi=>Value.ref (bs.getD i 0)).toArray)]
end
section
variable {X:Cx}
def yt (K:FG):List V->Hp->VK->Prop:=λxs H Q=>∃ (l:Addr) (bs:List Addr) (ns:List (List Int)) (is:List Nat),xs=[.ref l]/\SqL K H l (bs.map V.ref)/\ns.length=bs.length/\(∀ (i:Nat) (b:Addr) (n:List Int),bs[i]?=some b->ns[i]?=some n->H b=some (.tup (n.map V.int))) /\
 kOk ns/\bv ns=some is/\ns.length<=sizeLine/\is.length<=sizeLine/\∀ p,H p=none->Q (.ref p) (upd H p (.lst (is.map λi=>V.ref (bs.getD i 0))))
theorem ul:∀ {us:List Value} {bs:List Addr},Vals (bs.map V.ref) us->us=bs.map Value.ref
 | _,[],h=>by cases h;rfl
 | _,b::bs,h=>by
  cases h with
  | cons r h =>
   cases (show _=Value.ref b from r)
   rw[FV,ul h]
theorem tG (hu:X.A.units+2 < cLine):CallR X (.builtin "sorted") (yt X.K):=by
 intro pins s O H xs us Q I j h
 obtain ⟨l,bs,ns,is,rfl,C,y,B,t,w,hz,c,q⟩:=h
 obtain ⟨u,rfl,z⟩:=dQ j
 cases (show u=Value.ref l from z)
 obtain ⟨its,v,p,_⟩:=I.list C
 have m:=ul v
 subst m
 refine rW hu (by simpa using p.isList) #[y,λi b n e1 x=>?_] t w (by lia) c λh' p f k #[e,he]=>?_
 .obtain ⟨its,r,p,_⟩:=I.tuple (SqT.of (B i b n e1 x))
  exact #[_,p,mj r]
 .have g:(is.map λi=>V.ref (bs.getD i 0))=(is.map λi=>bs.getD i 0).map V.ref:=by rw[Gk];rfl
  have d:(is.map λi=>Value.ref (bs.getD i 0))=(is.map λi=>bs.getD i 0).map Value.ref:=by rw[Gk];rfl
  refine #[.ref p,_,I.laid (a:=p) (o:=.lst (is.map λi=>V.ref (bs.getD i 0))) (t':=s.toks) (λb o q=>k b o q) f #[by rw[FJ];exact c,is.map (λi=>Value.ref (bs.getD i 0)),e,?_,he],rfl,q p (I.hok.fresh f)]
  rw[g,d]
  exact jh _
end
end L2
end
section
namespace L2
open PySem PySem.W PySem.Spec PyProof.Rows
abbrev excO (a:Addr) (cls:Value):HO:=.ext λh=>∃ o,h.get? a=some o/\o.cls=cls
abbrev iq (ob:Obj) (a:Addr) (cls:Value):HO:=.frz ob (excO a cls)
structure ExcK (K:FG) (D:Addr):Prop where
 ga:findIn K (.ref D) "__getattribute__"=some (some (.builtin "BaseException.__getattribute__"))
 gt:findIn K (.ref D) "__getattr__"=some none
 cl:(clsIn K D).isSome=true
 ca:findIn K (.ref D) "__class__"=some (some (.builtin "object.__class__"))
 sp:specialIn K (.builtin "object.__class__") "__get__"=some (some (.builtin "getset_descriptor.__get__"))
 tk:takesIn K (.builtin "object.__class__")=some true
 ob:mroIn K D (.type "object")=some true
 be:mroIn K D (.type "BaseException")=some true
structure XName (K:FG) (c:String) (D:Addr):Prop where
 ns:nsIn K mainGlobals (Str.ofString c)=some (some (.ref D))
 ex:ExcK K D
theorem XName.inj {K:FG} (a:XName K c D) (b:XName K c D'):D=D':=by
 have:=a.ns.symm.trans b.ns
 cases this
 rfl
end L2
end
section
namespace L2
open PySem
section
variable {K:FG} {h:Heap} {mg:Str->Option Value}
theorem zm {h:Heap} {i:Nat} {p:Obj} {q:Nat×Obj} (a:h.objs[i]?=some p) (e:qV (i,p)=some q):q.1=i /\ h.get? i=some q.2:=by
  obtain ⟨c,d,x,y⟩:=p
  unfold Heap.get?
  rw[a]
  cases x <;> first | (cases e; exact #[rfl,rfl]) | cases e
theorem j4:∀ {is:List Nat} {l:List Obj} {a:Nat} {o:Obj},(∀ (j i:Nat) (p:Obj),is[j]?=some i->l[j]?=some p->h.objs[i]?=some p)->((is.zip l).filterMap qV).lookup a=some o->h.get? a=some o
 | [],_,_,_,_,e=>by cases e
 | _::_,[],_,_,_,e=>by cases e
 | b::is,p::l,a,o,hj,e=>by
  have m:=hj 0 b p rfl rfl
  have f:∀ (j i:Nat) (p:Obj),is[j]?=some i->l[j]?=some p->h.objs[i]?=some p:=λj i p h1 h2=>hj (j+1) i p (by simpa using h1) (by simpa using h2)
  rw[List.zip_cons_cons,List.filterMap_cons] at e
  cases d:qV (b,p) with
  | none=>rw[d] at e;exact j4 f e
  | some q =>
   rw[d] at e
   obtain ⟨h1,h2⟩:=zm m d
   obtain ⟨g,k⟩:=q
   cases h1
   replace e:List.lookup a ((g,k)::(is.zip l).filterMap qV)=some o:=e
   rw[List.lookup_cons] at e
   cases c:a == g with
   | true=>rw[c] at e;cases eq_of_beq c;cases e;exact h2
   | false=>rw[c] at e;exact j4 f e
theorem fragAt_in (h:Heap):(zH h).In h:=λ_ _ e=>j4 (λj i p h1 h2=>by
 obtain ⟨a,rfl⟩:=FK.mp h1
 simpa using h2) e
def stPos (s:Stmt):Pos:=match s with
 | .FunctionDef _ _ _ _ _ _ _ _ _ p=>p
 | _=>#[0,0,0,0]
theorem E8 (X:K.In h) (G:h.Ns mainGlobals mg) (e:q8 K n=mB n st):Def K mg n st:=by
 unfold q8 at e
 split at e
 .rename_i f hf
  split at e
  .rename_i oc c fd sl a
   unfold mB at e
   obtain ⟨name,qual,params,body,scope,globals,closure,defaults,kw,doc,pm,an,cd,ct,bi⟩:=fd
   simp only[Option.some.injEq,Prod.mk.injEq] at e
   obtain ⟨rfl,rfl,rfl,rfl,rfl,rfl,rfl,rfl,rfl,b⟩:=e
   exact #[f,_,E3 (st:=st) a b (by unfold PySem.W.keepIn;simp only[a]),PySem.W.mg_of X G hf]
  .cases e
 .cases e
theorem lZ {α β:Type} {f g:α->β} {l:List α} (e:l.map f=l.map g) (i:Nat) {a:α} (h:l[i]?=some a):f a=g a:=List.map_inj_left.mp e a (FL h)
theorem aN {ds:List (Str×Stmt)} (X:K.In h) (G:h.Ns mainGlobals mg) (e:ds.map (λp=>q8 K p.1)=ds.map (λp=>mB p.1 p.2)) (i:Nat) (hi:ds[i]?=some (n,st)):Def K mg n st:=E8 X G (lZ e i hi)
theorem b8 {l:List Str} (X:K.In h) (G:h.Ns mainGlobals mg) (e:l.map (PySem.W.nsIn K mainGlobals)=l.map (λ_=>some none)) (i:Nat) (hi:l[i]?=some n):mg n=none:=PySem.W.mg_none_of X G (lZ e i hi)
theorem sV {l:List (Str×Int)} {v:Int} (X:K.In h) (G:h.Ns mainGlobals mg) (e:l.map (λp=>pc K p.1)=l.map (λp=>some p.2)) (i:Nat) (hi:l[i]?=some (n,v)):∃ t,mg n=some (.int v t):=by
 have e:=lZ e i hi
 unfold pc at e
 dsimp only at e
 split at e
 .rename_i b t a;cases e;exact #[t,PySem.W.mg_of X G a]
 .cases e
theorem walk_ofS {l:PySem.W.OpenLaw} {n k:Nat} {S:FG->Prop} {sp:FG->Sp} (M:l.most=some n) (y:n<=sizeLine) (m:d.params.defaults=[]) (L:Room k callerA) (E:∀ (w:World) (h:Heap),YP w h->∃ K:FG,K.In h/\S K) (F:∀ (w:World) (mg:Str->Option Value) (i:Addr) (h:Heap) (K:FG),S K->K.In h->h.Ns mainGlobals mg->mg d.name=some (.ref i) ->
   ∃ fd:FuncData,(∀ (s:Shared) (u:Value),BindsTo s fd #[[u],[]] [(x,u)]) /\
    ∀ base:Heap,K.In base->base.Ns mainGlobals mg->FnOk l.prog w K mg base CX k i fd [x] (sp K)) (r:∀ (K:FG) (H:Hp) (a:Addr) (ns:List Int),ns.length<=n->Cd H->SqL K H a (ns.map V.int)->sp K [.ref a] H (λv _=>v=.bl true) λ_ _ _=>False) (p:∀ (H:Hp) (s:Shared) (e:Value) (s':Shared),CX [] H s (λ_ _ _=>False) e s'->False) :
  PySem.W.WalkO q loose XP YP l.row.toRowW d [] (λf A=>PySem.call f A):=by
 refine Att.attach_call M m λw s₀ J mg mb i o pm cd doc a A ns G τ σ hd B j c hints hlen I=>?_
 obtain ⟨K,z,t⟩:=E w _ τ
 obtain ⟨fd,C,N⟩:=F w mg i _ K t z G.T.g j
 exact zo z G.T.g G.T.b G.T.builtins G.T.nolimit I c hints (Gh hlen y) L N C (λH D t=>r K H a ns hlen D t) λH e s'=>p H J e s'
end
end L2
end
section
namespace L2
open PySem PySem.Spec PyProof.Rows
def NoCtx (h:Heap) (a:Addr):Prop:=∃ o b,h.get? a=some o/\o.data=.fields b/\b[2]?=some Value.none
theorem NoCtx.keep (x:NoCtx h a) (k:∀ o,h.get? a=some o->h'.get? a=some o):NoCtx h' a :=
 let #[o,b,e,r]:=x;#[o,b,k o e,r]
def cQ (Φ:Heap->Prop) {α:Type}:Sem α->Prop
 | .pure _ | .raise _ | .unsupported _ | .finish _=>True
 | .rule _ k=>cQ Φ (k ())
 | .at _ k=>cQ Φ (k ())
 | .point _ k=>cQ Φ (k ())
 | .load _ _ k=>∀ o,cQ Φ (k o)
 | .loadIfAlive _ k=>∀ o,cQ Φ (k o)
 | .update a _ f k=>(∀ h,Φ h->Φ (h.update a f))/\cQ Φ (k ())
 | .alloc _ k=>∀ a,cQ Φ (k a)
 | .fresh k=>∀ t,cQ Φ (k t)
 | .ask k=>∀ x,cQ Φ (k x)
 | .handled _ k=>∀ v,cQ Φ (k v)
 | .stack k=>∀ l,cQ Φ (k l)
 | _=>False
theorem Aq (push:∀ h o,Φ h->Φ (h.push o)) (t:Sem α):∀ {Q:α->Pos->Shared->Prop} {E:Value->Pos->Shared->Prop} {p:Pos} {s:Shared},cQ Φ t->Φ s.heap->Sem.wp M Γ t Q E p s->Sem.wp M Γ t (λa p s'=>Q a p s'/\Φ s'.heap) (λe p s'=>E e p s'/\Φ s'.heap) p s:=by
 induction t with
 | pure a=>intro Q E p s _ f h;rw[Sem.wp] at h ⊢;exact #[h,f]
 | raise e=>intro Q E p s _ f h;rw[Sem.wp] at h ⊢;exact #[h,f]
 | unsupported w=>intro Q E p s _ f h;rw[Sem.wp] at h;exact h.elim
 | finish e=>intro Q E p s _ f h;rw[Sem.wp] at h;exact h.elim
 | rule _ k ih=>intro Q E p s c f h;rw[Sem.wp] at h ⊢;exact ih () c f h
 | «at» _ k ih=>intro Q E p s c f h;rw[Sem.wp] at h ⊢;exact ih () c f h
 | point _ k ih=>intro Q E p s c f h;rw[Sem.wp] at h ⊢;exact ih () c f h
 | load a _ k ih=>intro Q E p s c f h;rw[Sem.wp] at h ⊢;obtain ⟨o,e,h⟩:=h;exact #[o,e,ih o (c o) f h]
 | loadIfAlive a k ih=>intro Q E p s c f h;rw[Sem.wp] at h ⊢;exact ih _ (c _) f h
 | update a _ g k ih=>intro Q E p s c f h;rw[Sem.wp] at h ⊢;exact #[h.1,ih () c.2 (c.1 _ f) h.2]
 | alloc o k ih=>intro Q E p s c f h;rw[Sem.wp] at h ⊢;exact ih _ (c _) (push _ _ f) h
 | fresh k ih=>intro Q E p s c f h;rw[Sem.wp] at h ⊢;exact ih _ (c _) f h
 | ask k ih=>intro Q E p s c f h;rw[Sem.wp] at h ⊢;exact ih _ (c _) f h
 | handled _ k ih=>intro Q E p s c f h;rw[Sem.wp] at h ⊢;exact ih _ (c _) f h
 | stack k ih=>intro Q E p s c f h;rw[Sem.wp] at h ⊢;exact ih _ (c _) f h
 | _=>intro Q E p s c;exact False.elim c
theorem cY (push:∀ h o,Φ h->Φ (h.push o)) (c:cQ Φ t) (f:Φ s.heap) (h:wpAny M A t Q E s):wpAny M A t (λa s'=>Q a s'/\Φ s'.heap) (λe s'=>E e s'/\Φ s'.heap) s :=
 λΓ p i=>Aq push t c f (h Γ p i)
theorem aL (t:Sem α):cQ Φ t->(∀ a,cQ Φ (f a))->cQ Φ (t.bind f):=by
 induction t with
 | pure a=>exact λ_ k=>k a
 | raise e=>exact λ_ _=>trivial
 | unsupported w=>exact λ_ _=>trivial
 | finish e=>exact λ_ _=>trivial
 | rule _ k ih=>exact λc q=>ih () c q
 | «at» _ k ih=>exact λc q=>ih () c q
 | point _ k ih=>exact λc q=>ih () c q
 | load a _ k ih=>exact λc q o=>ih o (c o) q
 | loadIfAlive a k ih=>exact λc q o=>ih o (c o) q
 | update a _ g k ih=>exact λc q=>#[c.1,ih () c.2 q]
 | alloc o k ih=>exact λc q a=>ih a (c a) q
 | fresh k ih=>exact λc q a=>ih a (c a) q
 | ask k ih=>exact λc q a=>ih a (c a) q
 | handled _ k ih=>exact λc q a=>ih a (c a) q
 | stack k ih=>exact λc q a=>ih a (c a) q
 | _=>exact λc _=>c.elim
def NoCtD (h:Heap) (a:Addr) (da:Option Addr):Prop:=∃ o b,h.get? a=some o/\o.data=.fields b/\b[2]?=some Value.none/\o.dict=da
theorem NoCtD.keep {h h':Heap} {a:Addr} {da:Option Addr} (x:NoCtD h a da) (k:∀ o,h.get? a=some o->h'.get? a=some o):NoCtD h' a da :=
 let #[o,b,e,r]:=x;#[o,b,k o e,r]
theorem de {da:Option Addr}:∀ (h:Heap) (o:Obj),NoCtD h a da->NoCtD (h.push o) a da:=λh o x=>x.keep λ_ e=>Fy _ e
theorem oS {da:Option Addr} {i:Nat} (hi:i≠2):∀ h:Heap,NoCtD h a da->NoCtD (h.update b (Obj.mapFields (·.setIfInBounds i v))) a da:=λh x=>by
 by_cases e:b=a
 .subst e
  obtain ⟨o,f,d,hd,h2,h3⟩:=x
  have hd2:=Obj.data_mapFields hd (·.setIfInBounds i v)
  exact #[_,_,F1 _ d (Obj.isFreed_of_fields hd2),hd2,by rw[Array.getElem?_setIfInBounds_ne hi];exact h2,by obtain ⟨_,_,c,_⟩:=o;cases c <;> exact h3]
 .exact x.keep λo q=>(Ge _ _ e).trans q
theorem qD {da:Option Addr} (hf:∀ o,(f o).data=o.data) (d:∀ o,(f o).dict=o.dict):∀ h:Heap,NoCtD h a da->NoCtD (h.update b f) a da:=λh x=>by
 by_cases e:b=a
 .subst e
  obtain ⟨o,g,c,hd,h2,h3⟩:=x
  exact #[f o,g,F1 _ c (Obj.isFreed_of_fields ((hf o).trans hd)),(hf o).trans hd,h2,(d o).trans h3]
 .exact x.keep λo q=>(Ge _ _ e).trans q
section
variable {a:Addr} {da:Option Addr}
theorem mO (v:Value):cQ (NoCtD · a da) (fieldsOf v):=by
 unfold fieldsOf
 cases v <;> try exact trivial
 exact λo=>by
  show cQ _ (match o.data with | .fields vs=>_ | _=>_)
  split <;> exact trivial
theorem i9 (v:Value) (i:Nat):cQ (NoCtD · a da) (field v i):=by
 unfold field
 refine aL _ (mO v) λb=>?_
 split <;> exact trivial
theorem eQ (v:Value) {i:Nat} (hi:i≠2) (x:Value):cQ (NoCtD · a da) (setField v i x):=by
 unfold setField
 cases v <;> try exact trivial
 exact λo=>by
  show cQ _ (match o.data with | .fields vs=>_ | _=>_)
  split
  .split
   .exact #[oS hi,trivial]
   .exact trivial
  .exact trivial
theorem gw (e:Value) (f:Option Addr):cQ (NoCtD · a da) (setFlight e f):=by
 unfold setFlight
 refine aL _ (i9 e 1) λtb=>?_
 split
 .exact eQ _ (by decide) _
 .exact trivial
theorem r9 (f:Addr) (b:Bool):cQ (NoCtD · a da) (entryPlaceOf f b):=by
 unfold entryPlaceOf
 refine aL _ (λ_=>trivial) λl=>?_
 split <;> exact trivial
theorem lJ (t:String) (b:List Value):cQ (NoCtD · a da) (newFields t b):=by
 unfold newFields newObj
 dsimp only
 split
 .exact trivial
 .exact λ_=>trivial
theorem vH (env:Env) (b:Bool):∀ l:List Env,cQ (NoCtD · a da) (keptBack env b l)
 | []=>by
  simp only[keptBack]
  split
  .exact trivial
  .exact aL _ (aL _ (λ_=>trivial) λ_=>trivial) λ_=>trivial
 | _::_=>trivial
theorem lH:∀ l:List Env,cQ (NoCtD · a da) (readyFrames l)
 | []=>trivial
 | env::outer=>by
  unfold readyFrames
  split
  .refine aL _ (λ_=>trivial) λo=>?_
   split
   .exact trivial
   .refine aL _ ?_ λ_=>aL _ (vH _ _ _) λ_=>aL _ #[qD (λ_=>rfl) λ_=>rfl,trivial] λ_=>lH outer
    unfold behindIsImport
    split
    .exact trivial
    .split
     .exact trivial
     .exact aL _ (i9 _ _) λ_=>trivial
  .exact trivial
theorem oG (env:Env):cQ (NoCtD · a da) (PySem.frameOf env):=by
 unfold PySem.frameOf
 refine aL _ (aL _ (λ_=>trivial) λ_=>trivial) λl=>?_
 refine aL _ ?_ λr=>?_
 .unfold frameObject
  split
  .exact trivial
  .exact aL _ (lH _) λ_=>trivial
 .split <;> exact trivial
theorem nq (e:Value) (env:Env):cQ (NoCtD · a da) (noteFrame e env):=by
 unfold noteFrame
 repeat' first
  | exact trivial
  | exact eQ _ (by decide) _
  | refine aL _ (i9 _ _) (λ_=>?_)
  | refine aL _ (eQ _ (by decide) _) (λ_=>?_)
  | refine aL _ (oG _) (λ_=>?_)
  | refine aL _ (r9 _ _) (λ_=>?_)
  | refine aL _ (lJ _ _) (λ_=>?_)
  | split
theorem fE (e:Value) (env:Env):cQ (NoCtD · a da) (leaving env e):=aL _ (nq e env) λ_=>gw e none
end
section
variable {M:Model} {A:Around} {E:Value->Shared->Prop} {s:Shared} {base h:Heap} {env:Env} {outer l:List Env} {L e:Addr} {cls a0:Value} {args:List Value} {da:Option Addr} {Q:Unit->Shared->Prop}
theorem o4 (f:A.frames=some (env::outer)) (hf:env.frame=some L) (b:base.StaysIn h) (j:h.FunFrames base (env::outer)) (g:Heap.MadeExcOf h s.heap e cls args)
  (i:∀ h' t,Heap.FlyingW base outer e cls (.ref t) h'->s.heap.UpToSlots h'->NoCtD h' e none->Q () { s with heap:=h' }):wpAny M A (leaving env (.ref e)) Q E s:=by
 have c:NoCtD s.heap e none:=by
  obtain ⟨t,he,_⟩:=g.there
  exact #[_,_,he,rfl,rfl,rfl]
 refine wpAny_mono (cY de (fE _ _) c (wpAny_leaves_madeW (Q:=λ_ s2=>∃ h' t,s2={ s with heap:=h' }/\Heap.FlyingW base outer e cls (.ref t) h'/\s.heap.UpToSlots h') f hf b j g λh' t a _ _ d=>#[h',t,rfl,a,d])) (λ_ s2 q=>?_) λ_ _ z=>z.1
 obtain ⟨⟨h',t,rfl,a,d⟩,n⟩:=q
 exact i h' t a d n
theorem o3 {b:Obj} {c:Array Value} (g:A.frames=some (env::outer)) (hf:env.frame=some L) (f:base.StaysIn s.heap) (k:s.heap.FunFrames base (env::outer)) (he:s.heap.get? e=some b) (h:base.get? e=none) (hd:b.data=.fields c) (h0:c[0]?=some a0) (h1:c[1]?=some .none) (h2:c[2]?=some .none)
  (i:∀ h',Heap.FlyingW base outer e b.cls a0 h'->s.heap.UpToSlots h'->NoCtD h' e b.dict->Q () { s with heap:=h' }):wpAny M A (leaving env (.ref e)) Q E s:=by
 refine wpAny_mono (cY de (fE _ _) (#[b,c,he,hd,h2,rfl]:NoCtD s.heap e b.dict) (wpAny_leaving_firstW (Q:=λ_ s2=>∃ h',s2={ s with heap:=h' }/\Heap.FlyingW base outer e b.cls a0 h'/\s.heap.UpToSlots h') g k hf he f h hd h1 h0 λh' z=>?_)) (λ_ s2 q=>?_) λ_ _ z=>z.1
 .obtain ⟨k1,⟨_,_,k2⟩,k3,j⟩:=z
  exact #[h',rfl,#[k1,h,k2,k3],j]
 .obtain ⟨⟨h',rfl,a,d⟩,n⟩:=q
  exact i h' a d n
theorem sS (f:A.frames=some (env::outer)) (hf:env.frame=some L) (b:Heap.FlyingW base (env::outer) e cls a0 s.heap) (c:NoCtD s.heap e da)
  (g:∀ h',Heap.FlyingW base outer e cls a0 h'->s.heap.UpToSlots h'->NoCtD h' e da->Q () { s with heap:=h' }):wpAny M A (leaving env (.ref e)) Q E s:=by
 refine wpAny_mono (cY de (fE _ _) c (wpAny_leaves_onW (Q:=λ_ s2=>∃ h',s2={ s with heap:=h' }/\Heap.FlyingW base outer e cls a0 h'/\s.heap.UpToSlots h') f hf b λh' a d=>#[h',rfl,a,d])) (λ_ s2 q=>?_) λ_ _ z=>z.1
 obtain ⟨⟨h',rfl,a,d⟩,n⟩:=q
 exact g h' a d n
theorem wg (f:A.frames=some (env::outer)) (hf:env.frame=some L) (b:Heap.FlyingW base (env::outer) e cls a0 s.heap) (c:NoCtD s.heap e da)
  (g:∀ h',Heap.HeldW base (env::outer) e cls a0 L h'->s.heap.UpToSlots h'->NoCtD h' e da->Q () { s with heap:=h' }):wpAny M A (noteFrame (.ref e) env) Q E s:=by
 refine wpAny_mono (cY de (nq _ _) c (wpAny_looks_onW (Q:=λ_ s2=>∃ h',s2={ s with heap:=h' }/\Heap.HeldW base (env::outer) e cls a0 L h'/\s.heap.UpToSlots h') f hf b λh' a d=>#[h',rfl,a,d])) (λ_ s2 q=>?_) λ_ _ z=>z.1
 obtain ⟨⟨h',rfl,a,d⟩,n⟩:=q
 exact g h' a d n
theorem EI (f:Heap.HeldW base l e cls a0 L s.heap) (c:NoCtD s.heap e da) (b:∀ h',Heap.FlyingW base l e cls a0 h'->s.heap.UpToSlots h'->NoCtD h' e da->Q () { s with heap:=h' }):wpAny M A (setFlight (.ref e) none) Q E s:=by
 refine wpAny_mono (cY de (gw _ _) c (wpAny_landsW (Q:=λ_ s2=>∃ h',s2={ s with heap:=h' }/\Heap.FlyingW base l e cls a0 h'/\s.heap.UpToSlots h') f λh' a d=>#[h',rfl,a,d])) (λ_ s2 q=>?_) λ_ _ z=>z.1
 obtain ⟨⟨h',rfl,a,d⟩,n⟩:=q
 exact b h' a d n
theorem o5 (f:Heap.FlyingW base l e cls a0 s.heap) (c:NoCtD s.heap e da) (b:∀ h',Heap.FlyingW base l e cls a0 h'->s.heap.UpToSlots h'->NoCtD h' e da->Q () { s with heap:=h' }):wpAny M A (setFlight (.ref e) none) Q E s:=by
 refine wpAny_mono (cY de (gw _ _) c (lands_againW (Q:=λ_ s2=>∃ h',s2={ s with heap:=h' }/\Heap.FlyingW base l e cls a0 h'/\s.heap.UpToSlots h') f λh' a d=>#[h',rfl,a,d])) (λ_ s2 q=>?_) λ_ _ z=>z.1
 obtain ⟨⟨h',rfl,a,d⟩,n⟩:=q
 exact b h' a d n
end
def NoC (ob:Obj):Prop:=∃ a,ob.data=.fields a/\a[2]?=some Value.none
def Hd (X:Cx):Prop:=∃ a ob u,X.A.handled=some (.ref a)/\X.H₀ a=some (.frz ob u)/\NoC ob
def Cov (fs:List Addr) (H':Hp) (h0 h' B:Heap):Prop:=∀ b o,h'.get? b=some o->b ∉ fs->(H' b≠none\/∃ o0,h0.get? b=some o0)->B.get? b=some o
structure Fly (P:Program) (w:World) (outer:List Env) (H:Hp) (s:Shared) (H':Hp) (a:Addr) (cls:Value) (da:Option Addr) (s':Shared):Prop where
 os:s'.os=s.os
 bare:AllBare s'.gens
 un:Un (frs outer) [] H H' s.heap s'.heap
 hok:HOk P w H' s'.heap
 free:H' a=none
 new:s.heap.get? a=none
 fl:∃ B a0,Heap.FlyingW B outer a cls a0 s'.heap/\Cov (frs outer) H' s.heap s'.heap B
 ctx:NoCtD s'.heap a da
def CXe (P:Program) (w:World):CXT:=λouter H s E e s'=>∃ a cls da H',e=.ref a/\Fly P w outer H s H' a cls da s'/\E cls da H'
section
variable {X:Cx} {pins:List (Addr×Obj)} {O:St} {H:Hp} {s:Shared}
theorem Inv.noLoc (I:Inv X pins O H s) (e:X.s₀.heap.get? b=some o):b≠X.env.locals:=FT (FY (FF e) I.ok.above)
theorem HOk.at (ok:HOk P w H h) (e:H b≠none):∃ o,h.get? b=some o:=by
 cases q:H b with
 | none=>exact absurd q e
 | some u =>
  have:=ok b u q
  cases u with
  | lst xs=>obtain ⟨_,_,_,_,e⟩:=this;exact #[_,e]
  | tup xs=>obtain ⟨_,_,_,o,e,_⟩:=this;exact #[o,e]
  | dK kvs=>obtain ⟨_,_,_,_,o,_,_,e,_⟩:=this;exact #[o,e]
  | dT kvs=>obtain ⟨_,_,_,_,o,_,_,e,_⟩:=this;exact #[o,e]
  | set S n=>obtain ⟨o,_,_,_,e,_⟩:=this;exact #[o,e]
  | ins C dx fs=>obtain ⟨_,_,_,e,_⟩:=this;exact #[_,e]
  | own y=>exact this
  | xd fs=>obtain ⟨_,⟨o,_,_,e,_⟩,_⟩:=this;exact #[o,e]
  | rng lo hi=>obtain ⟨_,_,_,e⟩:=this;exact #[_,e]
  | frz ob u=>obtain ⟨e,_⟩:=this;exact #[_,e]
  | tbl ps=>exact #[_,this]
  | met f y=>exact #[_,this]
  | ext U=>obtain ⟨_,e,_⟩:=this;exact e
theorem oZ (hex:X.ex=[]) (I:Inv X pins O H s) (k1:∀ b o,s.heap.get? b=some o->b ∉ frs X.stack->(H b≠none\/∃ o0,X.s₀.heap.get? b=some o0)->h'.get? b=some o) (k2:∀ b o,s.heap.get? b=some o->(∀ h,o.data≠.fields h)->∃ sl,h'.get? b=some { o with slots:=sl }):Un (frs X.outer) [] X.H₀ H X.s₀.heap h'/\HOk X.prog X.w H h':=by
 have g:∀ b:Addr,b ∉ X.ex:=λb z=>by rw[hex] at z;cases z
 have out:∀ b o,X.s₀.heap.get? b=some o->b ∉ frs X.outer->b ∉ frs X.stack:=λb o e n z=>by
  rcases FD.mp (I.stkSub b z) with z | z
  .exact I.noLoc e z
  .exact n z
 have f:∀ b∈frs X.outer,∀ o,s.heap.get? b=some o->∀ h,o.data≠.fields h:=λb a o e=>by
  obtain ⟨_,o',m,d⟩:=I.funs.mem a
  rw[e] at m;cases m;exact d
 refine #[#[λb o e n a _=>?_,λb o e n a _=>?_,λb o e n _=>I.base.free b o e n (g b),λb o e _=>?_,I.base.tups,I.base.frzs,I.base.tbls],λb u e=>?_]
 .exact k1 b o (I.base.keep b o e n a (g b)) (out b o e a) (.inr #[o,e])
 .obtain ⟨sl,e1⟩:=I.base.slot b o e n a (g b)
  obtain ⟨j,i⟩:=k2 b _ e1 (f b a _ e1)
  exact #[j,i]
 .obtain ⟨o',e1⟩:=I.base.there b o e (g b)
  by_cases a:b∈frs X.outer
  .obtain ⟨sl,i⟩:=k2 b o' e1 (f b a o' e1)
   exact #[_,i]
  .exact #[o',k1 b o' e1 (out b o e a) (.inr #[o,e])]
 .refine (I.hok b u e).stay (λc v k z=>?_) (λ_ z=>z) λ_ _ z=>z
  have l:H c≠none:=by
   rcases k with rfl | k
   .rw[e];intro z;cases z
   .rw[k];intro z;cases z
  exact k1 c v z (λa=>l (I.stkFree c a)) (.inl l)
theorem mi (hex:X.ex=[]) (I:Inv X pins O H s) (k1:∀ b o,s.heap.get? b=some o->b ∉ frs X.stack->(H b≠none\/∃ o0,X.s₀.heap.get? b=some o0)->B.get? b=some o) (st:B.StaysIn h'):Cov (frs X.outer) H X.s₀.heap h' B:=λb o e n c=>by
 have g:∀ b:Addr,b ∉ X.ex:=λb z=>by rw[hex] at z;cases z
 have h1:∃ a,s.heap.get? b=some a/\b ∉ frs X.stack:=by
  rcases c with c | ⟨o0,f⟩
  .obtain ⟨a,e1⟩:=I.hok.at c
   exact #[a,e1,λi=>c (I.stkFree b i)]
  .obtain ⟨a,e1⟩:=I.base.there b o0 f (g b)
   refine #[a,e1,λz=>?_]
   rcases FD.mp (I.stkSub b z) with z | z
   .exact I.noLoc f z
   .exact n z
 obtain ⟨a,e1,h⟩:=h1
 have d:=k1 b a e1 h c
 rw[st b a d] at e
 cases e
 exact d
theorem Fly.inv {da:Option Addr} (I:Inv X pins O H s) (f:Fly X.prog X.w X.stack H s H' a cls da s'):Inv X pins O H' s' :=
 I.call' f.os f.un f.hok f.bare (λ_ z=>nomatch z)
theorem Inv.newAt (hex:X.ex=[]) (I:Inv X pins O H s) (n:s.heap.get? a=none):X.s₀.heap.get? a=none/\H a=none:=by
 constructor
 .cases q:X.s₀.heap.get? a with
  | none=>rfl
  | some o =>
   obtain ⟨o',e⟩:=I.base.there a o q (by rw[hex];simp)
   rw[n] at e;cases e
 .cases q:H a with
  | none=>rfl
  | some u =>
   obtain ⟨o,e⟩:=I.hok.at (b:=a) (by rw[q];intro z;cases z)
   rw[n] at e;cases e
end
section
variable {P:Program} {w:World} {K:FG} {mg:Str->Option Value} {base:Heap} {N:List Str} {qual:Str} {scope:Scope} {f:Addr} {cd:Value} {A:Around} {outer:List Env} {s0:Shared} {H0:Hp} {E:XK} {pins:List (Addr×Obj)} {O:St} {H:Hp} {s s':Shared}
theorem Ap (I:Inv (dD (CXe P w) P w K mg base N qual scope f cd A outer s0 H0 E) pins O H s) (c:Heap.MadeExcOf s.heap s'.heap a cls vs) (m:s'.os=s.os) (k:s'.gens=s.gens) (l:E cls none H) :
  (dD (CXe P w) P w K mg base N qual scope f cd A outer s0 H0 E).xe (.ref a) s':=by
 have d:∀ env∈(PyProof.Rows.envOfC qual scope s0.heap.objs.size f cd::outer),∀ b,env.frame=some b->b∈frs (PyProof.Rows.envOfC qual scope s0.heap.objs.size f cd::outer):=λenv he b r=>List.mem_filterMap.mpr #[env,he,r]
 obtain ⟨j,i⟩:=I.newAt rfl c.new
 refine o4 (base:=PySem.W.hideAll s.heap (frs (PyProof.Rows.envOfC qual scope s0.heap.objs.size f cd::outer))) (h:=s.heap) (L:=s0.heap.objs.size) I.ok.frames rfl (λb o q=>PySem.W.of_hideAll _ q) (PySem.W.funFrames_hide I.stack d) c λh' t f1 f4 p=>?_
 have k1:∀ b o,s.heap.get? b=some o->b ∉ frs (PyProof.Rows.envOfC qual scope s0.heap.objs.size f cd::outer)->(PySem.W.hideAll s.heap (frs (PyProof.Rows.envOfC qual scope s0.heap.objs.size f cd::outer))).get? b=some o:=λb o e n=>PySem.W.hideAll_get _ e n
 obtain ⟨u,ok⟩:=oZ rfl I (h':=h') (λb o e n _=>f1.1 b o (k1 b o e n)) λb o e hd=>by
  obtain ⟨sl,g⟩:=f4 b o (c.keeps b o e) hd
  exact #[sl,g]
 refine #[a,cls,none,H,rfl,#[m.trans I.os,by show AllBare s'.gens;rw[k];exact I.bare,u,ok,i,j,#[_,_,f1,mi rfl I (λb o e n _=>k1 b o e n) f1.1],p],l]
theorem wY {a:Addr} {ob:Obj} {d:Array Value} {a0:Value} (I:Inv (dD (CXe P w) P w K mg base N qual scope f cd A outer s0 H0 E) pins O H s) (he:s.heap.get? a=some ob) (hd:ob.data=.fields d) (h0:d[0]?=some a0) (h1:d[1]?=some .none) (h2:d[2]?=some .none) (i:s0.heap.get? a=none) (h:H a=none) (j:E ob.cls ob.dict H) :
  (dD (CXe P w) P w K mg base N qual scope f cd A outer s0 H0 E).xe (.ref a) s:=by
 have g:∀ env∈(PyProof.Rows.envOfC qual scope s0.heap.objs.size f cd::outer),∀ b,env.frame=some b->b∈a::frs (PyProof.Rows.envOfC qual scope s0.heap.objs.size f cd::outer):=λenv he b l=>Fw _ (List.mem_filterMap.mpr #[env,he,l])
 have k1:∀ b o,s.heap.get? b=some o->b ∉ frs (PyProof.Rows.envOfC qual scope s0.heap.objs.size f cd::outer)->(H b≠none\/∃ o0,s0.heap.get? b=some o0)->(PySem.W.hideAll s.heap (a::frs (PyProof.Rows.envOfC qual scope s0.heap.objs.size f cd::outer))).get? b=some o:=λb o e n c=>PySem.W.hideAll_get _ e λz=>by
  rcases FD.mp z with z | z
  .subst z
   rcases c with c | ⟨_,c⟩
   .exact c h
   .rw[i] at c;cases c
  .exact n z
 refine o3 (base:=PySem.W.hideAll s.heap (a::frs (PyProof.Rows.envOfC qual scope s0.heap.objs.size f cd::outer))) (L:=s0.heap.objs.size) I.ok.frames rfl (λb o q=>PySem.W.of_hideAll _ q) (PySem.W.funFrames_hide I.stack g) he (PySem.W.hideAll_none _ Fv) hd h0 h1 h2 λh' f1 f4 k=>?_
 obtain ⟨u,ok⟩:=oZ rfl I (h':=h') (λb o e n c=>f1.1 b o (k1 b o e n c)) f4
 exact #[a,ob.cls,ob.dict,H,rfl,#[I.os,I.bare,u,ok,h,i,#[_,_,f1,mi rfl I k1 f1.1],k],j]
theorem CP (I:Inv (dD (CXe P w) P w K mg base N qual scope f cd A outer s0 H0 E) pins O H s) (h:CXe P w (PyProof.Rows.envOfC qual scope s0.heap.objs.size f cd::outer) H s E1 e s') (k:∀ cls da H',E1 cls da H'->E cls da H') :
  (dD (CXe P w) P w K mg base N qual scope f cd A outer s0 H0 E).xe e s':=by
 obtain ⟨a,cls,da,H',rfl,F,g⟩:=h
 have d:=Fly.inv I F
 obtain ⟨B,a0,f1,i⟩:=F.fl
 have dn:s0.heap.get? a=none:=(I.newAt rfl F.new).1
 have k1:∀ b o,s'.heap.get? b=some o->b ∉ frs (PyProof.Rows.envOfC qual scope s0.heap.objs.size f cd::outer)->(H' b≠none\/∃ o0,s0.heap.get? b=some o0)->B.get? b=some o:=λb o e n c=>by
  refine i b o e n ?_
  rcases c with c | ⟨o0,l⟩
  .exact .inl c
  .exact .inr (I.base.there b o0 l (λz=>nomatch z))
 refine sS (L:=s0.heap.objs.size) I.ok.frames rfl f1 F.ctx λh' g1 g2 m=>?_
 obtain ⟨u,ok⟩:=oZ rfl d (h':=h') (λb o e n c=>g1.1 b o (k1 b o e n c)) λb o e hd=>by
  obtain ⟨sl,j⟩:=g2 b o e hd
  exact #[sl,j]
 exact #[a,cls,da,H',rfl,#[d.os,d.bare,u,ok,F.free,dn,#[B,a0,g1,mi rfl d k1 g1.1],m],k cls da H' g]
end
structure ECls (K:FG) (mg:Str->Option Value) (x:Str) (C:Addr):Prop where
 bound:mg x=some (.ref C)
 ok:PySem.W.excIn K C mroV "ValueError.__new__"=true
theorem wB {K:FG} (X:K.In h) (q:PySem.W.excIn K C bmB nid=true) :
  ∃ bm N nm d bs hdct sn sub ab col dd k0 k1 k2 k3 k5 mN,h.get? C=some (excClassObj nm d C N bs bm hdct sn sub ab col dd k0 k1 k2 k3 k5 nid)/\h.Ns N mN/\mN "__init__"=none/\OwnTail h bmB bm:=by
 unfold PySem.W.excIn at q
 split at q
 .rename_i dd cd sl r
  split at q
  .rename_i k bm k0 k1 k2 k3 n k5 hm p
   have j:=Bool.and_eq_true_iff.mp q
   have i:=Bool.and_eq_true_iff.mp j.1
   have g:=Bool.and_eq_true_iff.mp i.1
   have e:=Bool.and_eq_true_iff.mp g.1
   have f:=Bool.and_eq_true_iff.mp e.1
   have e1:k=C:=beq_iff_eq.mp f.1
   have o:n=nid:=beq_iff_eq.mp f.2
   subst e1 o
   have a:cd.hasDel=false:=by
    have:=e.2
    cases m:cd.hasDel
    .rfl
    .rw[m] at this;cases this
   have hok:=i.2
   have c:=beq_iff_eq.mp j.2
   have b:=g.2
   obtain ⟨nm,bs,mro,ns,d,hd,sn,sub,ab,col,del⟩:=cd
   dsimp only at hm a hok c b
   subst hm a
   obtain ⟨l⟩:=sl
   have s:l=[k0,k1,k2,k3,some (.builtin n),k5]:=p
   subst s
   exact #[bm,ns,nm,d,bs,hd,sn,sub,ab,col,dd,k0,k1,k2,k3,k5,_,X _ _ r,.of_isNs (PySem.W.isNs_of_in X hok),PySem.W.nsMap_none_of_in X hok c,PySem.W.tail_of_in X b]
  .cases q
 .cases q
section
variable {X:Cx} {x:Str} {C:Addr} {np cpos pos:Pos} {e:Expr} {ta:TA}
def xr (a:St->Hp->Prop) (ta:TA):TS:=λ_ O H=>ta O H λb H1=>b.length<=1000/\a O H1
theorem yC (c:ECls X.K X.mg x C) (m:X.calm=true) (k:Gl X x) (hd:(x == ("__debug__":Str))=false) (l:PA X [e] ta) (g:St->Hp->Prop)
  (j:∀ (pins:List (Addr×Obj)) (O:St) (H:Hp) (s s':Shared) (a:Addr) (f:List Value),Inv X pins O H s->g O H->Heap.MadeExcOf s.heap s'.heap a (.ref C) f->s'.os=s.os->s'.gens=s.gens->X.xe (.ref a) s')
  (he:starEach [e] X.env=[(false,eval e X.env)]):PS X (.Raise (some (.Call (.Name x np) [e] [] cpos)) none pos) (xr g ta):=by
 intro pins s O H D I h
 have u:X.K.In s.heap:=I.kIn
 obtain ⟨bm,N,nm,n,bs,hdct,sn,sub,ab,col,dd,k0,k1,k2,k3,k5,mN,o,p,d,T⟩:=wB I.mod.kin c.ok
 have FB:=PySem.F.excBase_ValueError
 refine wpAny_Raise_call_subT (C:=C) (nm:=nm) (q:=n) (N:=N) (bs:=bs) (bm:=bm) (hdct:=hdct) (sn:=sn) (sub:=sub) (ab:=ab) (col:=col) (dd:=dd) (k0:=k0) (k1:=k1) (k2:=k2) (k3:=k3) (k5:=k5) FB (mN:=mN) (T.hasType FB.hasBase) (I.ok.hd m) (by rw[he];rfl) d (iN I k c.bound #[rfl,?_] hd)
 have h1:=l cpos pins s O H _ I h
 rw[he] at h1 ⊢
 refine Calls.evalArgs_plain (wpAny_mono h1 (λus s1 #[f,H1,b,r,i,t]=>#[rfl,?_,b.bk _ _ o,p.keeps b.bk,T.keeps b.bk,λh' a hm=>?_]) λ_ _ y=>y)
 .show us.length<=sizeLine
  rw[<- r.length]
  exact Nat.le_of_lt (vB i)
 .exact j pins O H1 s1 { s1 with heap:=h' } a us b t hm rfl rfl
end
section
variable {P:Program} {w:World} {outer:List Env} {H H':Hp} {s s1:Shared} {a:Addr} {cls:Value} {da:Option Addr}
theorem Fly.move (F:Fly P w outer H s H' a cls da s1) (q:∀ b∈frs outer,H' b=none) (f1:Heap.FlyingW B outer a cls a0 s1.heap) (m:Cov (frs outer) H' s.heap s1.heap B) (f2:Heap.FlyingW B outer a cls a0 h2) (up:s1.heap.UpToSlots h2) (C:NoCtD h2 a da):Fly P w outer H s H' a cls da { s1 with heap:=h2 }/\Cov (frs outer) H' s.heap h2 B:=by
 have k1:∀ b o,s1.heap.get? b=some o->b ∉ frs outer->(H' b≠none\/∃ o0,s.heap.get? b=some o0)->h2.get? b=some o:=λb o e n g=>f2.1 b o (m b o e n g)
 have k:∀ b∈frs outer,∀ o,s1.heap.get? b=some o->∀ y,o.data≠.fields y:=λb f o e=>by
  obtain ⟨_,o',r,d⟩:=f1.2.2.1.mem f
  rw[e] at r;cases r;exact d
 have h:Cov (frs outer) H' s.heap h2 B:=λb o e n g=>by
  have h1:∃ p,s1.heap.get? b=some p:=by
   rcases g with g | ⟨o0,x⟩
   .exact F.hok.at g
   .exact F.un.there b o0 x (λz=>nomatch z)
  obtain ⟨p,e1⟩:=h1
  have i:=m b p e1 n g
  have A:=f2.1 b p i
  rw[A] at e
  cases e
  exact i
 refine #[#[F.os,F.bare,#[λb o e n f j=>?_,λb o e n f j=>?_,F.un.free,λb o e j=>?_,F.un.tups,F.un.frzs,F.un.tbls],λb u e=>?_,F.free,F.new,#[B,a0,f2,h],C],h]
 .exact k1 b o (F.un.keep b o e n f j) f (.inr #[o,e])
 .obtain ⟨sl,e1⟩:=F.un.slot b o e n f j
  obtain ⟨l,i⟩:=up b _ e1 (k b f _ e1)
  exact #[l,i]
 .obtain ⟨o',e1⟩:=F.un.there b o e j
  by_cases f:b∈frs outer
  .obtain ⟨l,i⟩:=up b o' e1 (k b f o' e1)
   exact #[_,i]
  .exact #[o',k1 b o' e1 f (.inr #[o,e])]
 .refine (F.hok b u e).stay (λc v g z=>?_) (λ_ z=>z) λ_ _ z=>z
  have t:H' c≠none:=by
   rcases g with rfl | g
   .rw[e];intro z;cases z
   .rw[g];intro z;cases z
  exact k1 c v z (λf=>t (q c f)) (.inl t)
end
abbrev Cx.caught0 (X:Cx) (a:Addr):Cx:={ X with A:=X.A.mark (some (.ref a)),calm:=false,xe:=λ_ _=>False }
abbrev Cx.caught (X:Cx) (a:Addr) (ob:Obj) (cls:Value):Cx:={ X with A:=X.A.mark (some (.ref a)),calm:=false,xe:=λ_ _=>False,H₀:=upd X.H₀ a (iq ob a cls) }
section
variable {X:Cx} {pins:List (Addr×Obj)} {O:St} {H H':Hp} {s s1:Shared} {a:Addr} {cls:Value}
theorem Inv.caught0 (I:Inv X pins O H s) (a:Addr):Inv (X.caught0 a) pins O H s :=
 #[#[I.ok.mod,I.ok.kind,I.ok.glob,I.ok.blt,I.ok.above,I.ok.inj,I.ok.has,I.ok.cab,(λh=>by cases h),I.ok.frames,I.ok.stk,I.ok.exf,I.ok.bs,I.ok.bsz,I.ok.noex,I.ok.exfs,I.ok.funs,I.ok.frf],I.os,I.bare,I.base,I.loc,I.cell,I.free,I.freeC,I.pin,I.hok,I.len]
theorem Inv.trackX (I:Inv X pins O H' s1) (J:Inv X pins O H s) (new:s.heap.get? a=none) (t:H' a=none) (hex:X.ex=[]) (r:s1.heap.get? a=some ob) (g:ob.cls=cls):Inv X pins O (upd H' a (iq ob a cls)) s1:=by
 obtain ⟨e1,K,M,d,A,L,E,B,F,j,l⟩:=id I
 have ne:∀ b o,s.heap.get? b=some o->b≠a:=λb o e z=>by rw[z,new] at e;cases e
 have h:∀ b o,X.s₀.heap.get? b=some o->b≠a:=λb o e=>by
  obtain ⟨o',C⟩:=J.base.there b o e (by rw[hex];simp)
  exact ne b o' C
 have f:∀ b u,H' b=some u->upd H' a (iq ob a cls) b=some u:=λb u e=>by rw[aw (aV e t)];exact e
 refine #[e1,K,M,#[d.keep,d.slot,λb o q n y=>?_,d.there,λb ys q=>f _ _ (d.tups b ys q),λb o u q=>f _ _ (d.frzs b o u q),λb ps q=>?_],A,L,?_,λx c q=>?_,λp w=>?_,?_,l]
 .rw[aw (h b o q)];exact d.free b o q n y
 .obtain ⟨more,D⟩:=d.tbls b ps q;exact #[more,f _ _ D]
 .obtain ⟨m,⟨o,_,_,i,_⟩,_⟩:=J.loc
  rw[aw (ne _ o i)];exact E
 .obtain ⟨v,o,i,_⟩:=J.cell x c q
  rw[aw (ne c o i)];exact B x c q
 .obtain ⟨a1,a2,N⟩:=F p w
  exact #[a1,by rw[aw (ne p.1 p.2 (J.pin p w).1)];exact a2,N]
 .exact j.track t #[r,#[ob,r,g],#[ob,r],λh1 h2 #[o,σ,G] k=>#[o,k o σ,G]]
theorem Inv.nameless (I:Inv X pins O H s) {t':Nat} (D:h'.Ns X.env.locals m') (g:Heap.SameBut X.env.locals s.heap h'):Inv X pins (List.replicate X.N.length none) H { s with heap:=h',toks:=t' }:=by
 obtain ⟨e1,C,F,f,G,E,m,w,B,k,y⟩:=id I
 have a:∀ b o,X.s₀.heap.get? b=some o->b≠X.env.locals:=λb o e=>I.noLoc e
 refine #[e1,C,F,#[λb o e n t h=>?_,λb o e n t h=>?_,f.free,λb o e h=>?_,f.tups,f.frzs,f.tbls],#[m',D,λi x v h1 h2 h3=>?_],λx c e=>?_,m,w,λp A=>?_,λb u e=>?_,by rw[List.length_replicate]]
 .exact (g.2 b (a b o e)).trans (f.keep b o e n t h)
 .obtain ⟨sl,q⟩:=f.slot b o e n t h
  exact #[sl,(g.2 b (a b o e)).trans q]
 .obtain ⟨o',q⟩:=f.there b o e h
  exact #[o',(g.2 b (a b o e)).trans q]
 .rw[List.getElem?_replicate] at h2
  split at h2 <;> cases h2
 .obtain ⟨v,o,q,d⟩:=E x c e
  exact #[v,o,(g.2 c (I.cne x c e)).trans q,d]
 .obtain ⟨q,n,ne,r⟩:=B p A
  exact #[(g.2 p.1 ne).trans q,n,ne,r]
 .refine (k b u e).stay (λc v j z=>?_) (λ_ z=>z) λ_ _ z=>z
  have l:c≠X.env.locals:=λq=>by
   rcases j with rfl | j
   .rw[q,m] at e;cases e
   .rw[q,m] at j;cases j
  exact (g.2 c l).trans z
theorem Inv.namelessC (I:Inv X pins O H s) {t':Nat} (hf:X.fn n=true) (l:X.env.cells.lookup n=some c) (L:h'.IsCell c none) (g:Heap.SameBut c s.heap h'):Inv X pins (List.replicate X.N.length none) H { s with heap:=h',toks:=t' }:=by
 obtain ⟨e1,K,P,f,C,M,G,y,J,t,E⟩:=id I
 obtain ⟨v0,o0,σ,D⟩:=I.cell n c l
 have A:=I.ok.cab n c hf l
 have h:∀ b o,X.s₀.heap.get? b=some o->b≠c:=λb o e=>FT (FY (FF e) A)
 have w:X.env.locals≠c:=λz=>I.cne n c l z.symm
 refine #[e1,K,P,#[λb o e n B k=>?_,λb o e n B k=>?_,f.free,λb o e k=>?_,f.tups,f.frzs,f.tbls],?_,λx j e=>?_,G,y,λp F=>?_,λb u e=>?_,by rw[List.length_replicate]]
 .exact (g.2 b (h b o e)).trans (f.keep b o e n B k)
 .obtain ⟨sl,q⟩:=f.slot b o e n B k
  exact #[sl,(g.2 b (h b o e)).trans q]
 .obtain ⟨o',q⟩:=f.there b o e k
  exact #[o',(g.2 b (h b o e)).trans q]
 .obtain ⟨m,hm,_⟩:=C
  refine #[m,hm.sameBut g w,λi x v h1 h2 h3=>?_]
  rw[List.getElem?_replicate] at h2
  split at h2 <;> cases h2
 .by_cases z:j=c
  .rw[z];exact #[_,L]
  .obtain ⟨v,o,q,d⟩:=M x j e
   exact #[v,o,(g.2 j z).trans q,d]
 .obtain ⟨q,n,ne,r⟩:=J p F
  have z:p.1≠c:=λz=>by
   rw[z,σ] at q
   cases q
   exact r.2 v0 D
  exact #[(g.2 p.1 z).trans q,n,ne,r]
 .refine (t b u e).stay (λj v a z=>?_) (λ_ z=>z) λ_ _ z=>z
  have hz:j≠c:=λq=>by
   rcases a with rfl | a
   .rw[q,y n c l] at e;cases e
   .rw[q,y n c l] at a;cases a
  exact (g.2 j hz).trans z
theorem mS (d:env.scope.kind=.function) (a:env.kindOf n=some .cell) (b:env.cells.lookup n=some c) (e:s.heap.IsCell c v₀) (h:∀ h',h'.IsCell c none->Heap.SameBut c s.heap h'->Q () { s with heap:=h' }):wpAny M A (do bindName env n .none;unbindBehindTheSuite env n pos) Q E s:=by
 refine Fs (wpAny_bindName (wpAny_storeName_cell d a b e λh1 c1 s1=>?_))
 unfold unbindBehindTheSuite
 refine wpAny_onRaise ?_
 unfold unbindName
 refine Fs (wpAny_point (Fs ?_))
 unfold deleteName
 simp only[a]
 refine Fs (wpAny_cellOf b (Fs (wpAny_cellGet c1 ?_)))
 simp only[Option.isSome_some,if_true]
 refine wpAny_cellSet c1 λh2 c2 s2=>?_
 exact wpAny_point (h h2 c2 (s1.trans s2))
theorem Inv.caught (I:Inv X pins O H s) (d:X.s₀.heap.get? a=none) (f:H a=some (iq ob a cls)):Inv (X.caught a ob cls) pins O H s:=by
 have ne:∀ b o,X.s₀.heap.get? b=some o->b≠a:=λb o e z=>by rw[z,d] at e;cases e
 have fr:∀ b∈X.fs,b≠a:=λb c=>by
  obtain ⟨_,o',g,_⟩:=I.ok.funs.mem c
  exact ne b o' g
 have u:=I.base
 refine #[#[I.ok.mod,I.ok.kind,I.ok.glob,I.ok.blt,I.ok.above,I.ok.inj,I.ok.has,I.ok.cab,(λh=>by cases h),I.ok.frames,I.ok.stk,I.ok.exf,λb o e=>#[(I.ok.bs b o e).1,by show upd X.H₀ a _ b=none;rw[aw (ne b o (I.ok.bs b o e).1)];exact (I.ok.bs b o e).2],I.ok.bsz,I.ok.noex,I.ok.exfs,I.ok.funs,λb c=>by show upd X.H₀ a _ b=none;rw[aw (fr b c)];exact I.ok.frf b c],I.os,I.bare,?_,I.loc,I.cell,I.free,I.freeC,I.pin,I.hok,I.len]
 show Un _ _ (upd X.H₀ a (iq ob a cls)) H _ _
 refine #[λb o e n=>u.keep b o e (by rwa [aw (ne b o e)] at n),λb o e n=>u.slot b o e (by rwa [aw (ne b o e)] at n),λb o e n=>u.free b o e (by rwa [aw (ne b o e)] at n),u.there,λb xs e=>?_,λb o w e=>?_,λb ps e=>?_]
 .by_cases z:b=a
  .subst z;rw[aF] at e;cases e
  .rw[aw z] at e;exact u.tups b xs e
 .by_cases z:b=a
  .subst z;rw[aF] at e;cases e;exact f
  .rw[aw z] at e;exact u.frzs b o w e
 .by_cases z:b=a
  .subst z;rw[aF] at e;cases e
  .rw[aw z] at e;exact u.tbls b ps e
theorem Inv.uncaught (I:Inv (X.caught a ob cls) pins O H s) (ok:X.Ok) (c:X.s₀.heap.get? a=none) (d:∀ xs,X.H₀ a≠some (.tup xs)) (g:∀ o w,X.H₀ a≠some (.frz o w)) (f:∀ ps,X.H₀ a≠some (.tbl ps)):Inv X pins O H s:=by
 have ne:∀ b o,X.s₀.heap.get? b=some o->b≠a:=λb o e z=>by rw[z,c] at e;cases e
 have u:Un X.fs X.ex (upd X.H₀ a (iq ob a cls)) H X.s₀.heap s.heap:=I.base
 refine #[ok,I.os,I.bare,?_,I.loc,I.cell,I.free,I.freeC,I.pin,I.hok,I.len]
 exact #[λb o e n=>u.keep b o e (by rwa [aw (ne b o e)]),λb o e n=>u.slot b o e (by rwa [aw (ne b o e)]),λb o e n=>u.free b o e (by rwa [aw (ne b o e)]),u.there,λb xs e=>u.tups b xs ((aw (λz:b=a=>d xs (by rw[<- z];exact e))).trans e),λb o w e=>u.frzs b o w ((aw (λz:b=a=>g o w (by rw[<- z];exact e))).trans e),λb ps e=>u.tbls b ps ((aw (λz:b=a=>f ps (by rw[<- z];exact e))).trans e)]
end
section
variable {X:Cx} {pins:List (Addr×Obj)} {O:St} {H H':Hp} {s s1:Shared} {a CB:Addr} {cls:Value} {da:Option Addr} {D:Ends} {cx n:Str} {i:Nat} {cp hpos:Pos} {b0:Stmt} {suite:List Stmt}
theorem sY (I:Inv X pins O H s) (F:Fly X.prog X.w X.stack H s H' a cls da s1) (k:X.stack=X.env::X.outer) (C:X.env.frame=some X.env.locals) (hex:X.ex=[]) (hN:X.N.Nodup)
  (hg:Gl X cx) (hd:(cx == ("__debug__":Str))=false) (hm:X.mg cx=some (.ref CB)) (hx:PySem.W.exmOne X.K cls (.ref CB)=some true) (hi:X.N[i]?=some n) (h:X.env.scope.names.lookup n=some .local\/(X.env.scope.names.lookup n=some .cell/\X.fn n=true))
  (hs:∀ s5 ob,ob.dict=da->Hd (X.caught a ob cls)->Inv (X.caught a ob cls) pins (O.set i (some (.ref a))) (upd H' a (iq ob a cls)) s5->wpAny (model X.prog X.w) (X.A.mark (some (.ref a))) (execs (b0::suite) X.env) (λf E=>∃ v u O6 j,f=.ret u/\Inv (X.caught a ob cls) pins O6 j E/\RelV v u/\D.rt v j) (λ_ _=>False) s5) :
  wpAny (model X.prog X.w) X.A (noteFrame (.ref a) X.env) (λ_ s2=>wpAny (model X.prog X.w) X.A (setFlight (.ref a) none) (λ_ s3=>wpAny (model X.prog X.w) X.A (handleBy (.ref a) X.env [.ExceptHandler (some (.Name cx cp)) (some n) (b0::suite) hpos]) (SP X pins D) X.xe s3) X.xe s2) X.xe s1:=by
 have hA:X.A.frames=some (X.env::X.outer):=by rw[<- k];exact I.ok.frames
 have g:∀ b∈frs X.stack,H' b=none:=(Fly.inv I F).stkFree
 obtain ⟨B,a0,f1,S⟩:=F.fl
 refine wg (outer:=X.outer) hA C (by rw[<- k];exact f1) F.ctx λh2 held L c2=>?_
 refine EI held c2 λh3 t σ c3=>?_
 rw[<- k] at t
 obtain ⟨T,l⟩:=F.move g f1 S t (L.trans σ) c3
 have τ:=(Fly.inv I T).caught0 a
 have G:PySem.W.Looks (model X.prog X.w) h3 (typeOf (.ref a)) cls:=by
  obtain ⟨ob,y,m⟩:=t.there
  subst m
  exact (PySem.W.Looks.ld y).andThen .now
 refine wpAny_handleBy_cons (codeAny_handlers_test (iN (X:=X.caught0 a) τ hg hm ?_ hd)) (by intro q;cases q)
 refine (PySem.W.exm_one (K:=X.K) τ.kIn G hx).here ?_
 show codeAny _ _ _ _ _
 refine codeAny_handlers_suite_as (o5 t c3 λh4 f4 P c4=>?_)
 obtain ⟨F4,ae⟩:=T.move g t l f4 P c4
 have I4:=Fly.inv I F4
 obtain ⟨R,d⟩:=I.newAt hex F.new
 obtain ⟨ob,p,M⟩:=f4.there
 have nc:NoC ob/\ob.dict=da:=by
  obtain ⟨o,vs,ρ,q2,q3,q4⟩:=c4
  rw[p] at ρ
  cases ρ
  exact #[#[vs,q2,q3],q4]
 have I5:=(I4.trackX I F.new F.free hex p M).caught (ob:=ob) (cls:=cls) R aF
 have hD:Hd (X.caught a ob cls):=#[a,ob,excO a cls,rfl,aF,nc.1]
 refine gq (X:=X.caught a ob cls) (v:=V.ref a) I5 hN hi (h.imp id And.left) rfl (λs5 J5=>?_) (h.elim .inr λz=>.inl z.2)
 refine wpAny_mono (hs s5 ob nc.2 hD J5) (λf E h6=>?_) λ_ _ z=>z.elim
 obtain ⟨v,u,O6,j,rfl,x,r,q⟩:=h6
 have un:∀ {O7:St} {φ:Shared},Inv (X.caught a ob cls) pins O7 j φ->Inv X pins O7 j φ:=λJ=>J.uncaught I.ok R (λxs e=>by rw[I.base.tups a xs e] at d;cases d) (λo w e=>by rw[I.base.frzs a o w e] at d;cases d) λps e=>by obtain ⟨_,e⟩:=I.base.tbls a ps e;rw[e] at d;cases d
 rcases h with h | ⟨h,Q⟩
 case inr =>
  obtain ⟨c,m⟩:=I.ok.has n (.inl h)
  obtain ⟨v0,z0⟩:=x.cell n c m
  exact mS I.ok.kind h m z0 λh7 c7 sb=>#[v,_,j,(un x).namelessC (t':=E.toks) Q m c7 sb,r,q]
 obtain ⟨m6,n6,_⟩:=x.loc
 refine wpAny_nameGoes h n6 ?_ λh7 m7 n7 sb=>?_
 .have:=I.ok.kind
  rw[this];rfl
 .exact #[v,_,j,(x.uncaught I.ok R (λxs e=>by rw[I.base.tups a xs e] at d;cases d) (λo w e=>by rw[I.base.frzs a o w e] at d;cases d) λps e=>by obtain ⟨_,e⟩:=I.base.tbls a ps e;rw[e] at d;cases d).nameless n7 sb,r,q]
end
structure CalleeX (P:Program) (w:World) (K:FG) (mg:Str->Option Value) (base:Heap) (x:Str) (k:Nat) (ps:List Str) (sp:Sp):Prop where
 ex:∃ (f:Addr) (fd:FuncData),FnOk P w K mg base (CXe P w) k f fd ps sp/\mg x=some (.ref f)/\PySem.W.keepIn K (.ref f)=true/\Binds K fd ps []
section
variable {X:Cx} {x:Str} {p pos:Pos} {e:Expr} {es:List Expr} {t:TA} {k:Nat} {ps:List Str} {sp:Sp}
def tFnX (sp:Sp) (a:St->XK) (t:TA):TE:=λO H Q=>t O H λb H1=>sp b H1 Q (a O)
theorem Ef (c:CalleeX X.prog X.w X.K X.mg X.base x k ps sp) (m:Room k X.A) (l:∀ (pins:List (Addr×Obj)) (O:St) (H:Hp) (s:Shared) (e:Value) (s':Shared),Inv X pins O H s->CXe X.prog X.w X.stack H s (EE O) e s'->X.xe e s') (y:PA X (e::es) t) (o:Gl X x) (d:(x == ("__debug__":Str))=false) (he:starEach (e::es) X.env=(false,eval e X.env)::starEach es X.env) (g:(backTo pos (starEach es X.env)).any (·.1)=false):PE X (.Call (.Name x p) (e::es) [] pos) (tFnX sp EE t):=by
 obtain ⟨f,fd,F,hm,v,j⟩:=c.ex
 intro pins s O H Q I h
 refine wpAny_Call_Name_kw (iN I o hm ?_ d)
 refine PySem.W.callWith_K (h₀:=X.base) I.ok.mod.kin v (thn (y pos pins s O H _ I h) λus s1 #[n,H1,a,r,q]=>#[a.kIn,?_]) he g
 have z:us.length=ps.length:=by rw[<- r.length];exact F.len _ _ _ _ q
 have i:=j s1 us a.kIn (by rw[List.append_nil];exact z)
 rw[List.append_nil] at i
 refine wpAny_call (codeAny_mono (F.run X.A X.stack s1 H1 #[us,[]] us n Q (EE O) m a.env0 i r q) λr s' b=>?_)
 cases r with
 | error e=>exact l pins O H1 s1 e s' a b
 | ok fl =>
  cases fl with
  | ret u=>exact a.after b
  | next=>exact False.elim b
  | brk=>exact False.elim b
  | cont=>exact False.elim b
end
theorem Def.calleeX {K:FG} {st:Stmt} {k:Nat} (D:Def K mg x st) (b:∀ (kV doc pm:Value) (an:Option Addr) (a ct:Value) (us:List Value),us.length=ps.length->bindArgs (PySem.W.fnOf x x (aQ st) (aI st) (ag st) .none kV doc pm an a ct) #[us,[]]=pure (ps.zip us)) (h:∀ f fd,Fun K x x st f fd->FnOk P w K mg base (CXe P w) k f fd ps sp):CalleeX P w K mg base x k ps sp:=by
 obtain ⟨f,fd,d⟩:=D
 exact #[f,fd,h f fd d.fn,d.mg,d.fn.kp,d.fn.binds b]
theorem Fun.okX {K:FG} {st:Stmt} {k:Nat} (F:Fun K x qual st f fd) (S:FnScope N ps (ag st)) (len:∀ b H Q E,sp b H Q E->b.length=ps.length) (c:∀ (a:Value) (A:Around) (outer:List Env) (s:Shared) (H:Hp) (b:List V) (Q:VK) (E:XK),Room k (A.deeper (envOfC qual (ag st) s.heap.objs.size f a))->sp b H Q E ->
   ∃ t,PSs (dD (CXe P w) P w K mg base N qual (ag st) f a A outer s H E) (aI st) t/\t { nx:=λ_ H'=>Q .non H',rt:=Q } (fZ N b) H):FnOk P w K mg base (CXe P w) (k+1) f fd ps sp:=by
 obtain ⟨oc,j,kV,doc,pm,an,a,ct,i,rfl,h,d⟩:=F.ex
 exact CH h d S len λA outer s H b Q E g e=>c a A outer s H b Q E g e
structure RoomN (k:Nat) (A:Around):Prop where
 dp:A.depth+3 * k+5 < recursionLimit
 un:A.units+16 * k+200 < cLine
 gd:A.guards=some []
theorem Room.mark {k:Nat} (r:Room k A) (v:Option Value):RoomN k (A.mark v):=#[r.dp,r.un,r.gd]
theorem RoomN.mono {j k:Nat} (r:RoomN k A) (h:j<=k):RoomN j A:=#[by have:=r.dp;omega,by have:=r.un;omega,r.gd]
theorem RoomN.deeper {k:Nat} (r:RoomN (k+1) A) (env:Env):RoomN k (A.deeper env) :=
 #[by have:=r.dp;show A.depth+1+3 * k+5 < _;omega,by have:=r.un;show A.units+3+16 * k+200 < _;omega,r.gd]
def HdA (A:Around) (H:Hp):Prop:=∃ a ob u,A.handled=some (.ref a)/\H a=some (.frz ob u)/\NoC ob
structure FnOkN (P:Program) (w:World) (K:FG) (mg:Str->Option Value) (base:Heap) (k:Nat) (f:Addr) (fd:FuncData) (ps:List Str) (sp:Sp):Prop where
 len:∀ vs H Q E,sp vs H Q E->vs.length=ps.length
 run:∀ (A:Around) (outer:List Env) (s:Shared) (H:Hp) (args:Args) (us:List Value) (vs:List V) (Q:VK),RoomN k A->HdA A H->Env0 P w K mg base A outer s H->BindsTo s fd args (ps.zip us)->Vals vs us->sp vs H Q E0 ->
  codeAny (model P w) A (.call (.ref f) args) (CR CX0 outer P w H s Q E0) s
abbrev Cx.loud (X:Cx):Cx:={ X with calm:=false }
theorem sT {K:FG} (S:FnScope N ps scope) (a:Env0 P w K mg base A outer s H) (b:vs.length=ps.length) (r:Vals vs us) (x:InCallC s s.heap.objs.size (bindL (envOfC qual scope s.heap.objs.size f cd).kindOf (ps.zip us) λ_=>none) (cellsFrom (s.heap.objs.size+1) scope.names []) (bindC (envOfC qual scope s.heap.objs.size f cd).kindOf (ps.zip us) λ_=>none) s1) :
  Inv ((dD CX0 P w K mg base N qual scope f cd A outer s H E0).loud.wish λ_ _=>False) [] (fZ N vs) H s1:=by
 have e1:Env0 P w K mg base { A with handled:=none } outer s H:=#[a.frames,a.mod,a.bs,a.bsz,a.funs,a.frf,a.hok,a.bare]
 have I:=nW (CX:=CX0) (E:=E0) (qual:=qual) (f:=f) (cd:=cd) S rfl e1 b r x
 exact #[#[I.ok.mod,I.ok.kind,I.ok.glob,I.ok.blt,I.ok.above,I.ok.inj,I.ok.has,I.ok.cab,(λh=>by cases h),I.ok.frames,I.ok.stk,I.ok.exf,I.ok.bs,I.ok.bsz,I.ok.noex,I.ok.exfs,I.ok.funs,I.ok.frf],I.os,I.bare,I.base,I.loc,I.cell,I.free,I.freeC,I.pin,I.hok,I.len]
theorem Fun.okN {K:FG} {st:Stmt} {k:Nat} (F:Fun K x qual st f fd) (S:FnScope N ps (ag st)) (len:∀ c H Q E,sp c H Q E->c.length=ps.length) (d:∀ (a:Value) (A:Around) (outer:List Env) (s:Shared) (H:Hp) (c:List V) (Q:VK),RoomN k (A.deeper (envOfC qual (ag st) s.heap.objs.size f a))->Hd ((dD CX0 P w K mg base N qual (ag st) f a A outer s H E0).loud.wish λ_ _=>False)->sp c H Q E0 ->
   ∃ t,PSs ((dD CX0 P w K mg base N qual (ag st) f a A outer s H E0).loud.wish λ_ _=>False) (aI st) t/\t { nx:=λ_ H'=>Q .non H',rt:=Q } (fZ N c) H):FnOkN P w K mg base (k+1) f fd ps sp:=by
 obtain ⟨oc,T,kV,doc,pm,an,a,ct,G,rfl,M,l⟩:=F.ex
 refine #[len,λA outer s H args us c Q B p i R r j=>?_]
 have C:=len _ _ _ _ j
 have z:K.In s.heap:=i.mod.kin.keeps λb o e=>(i.bs b o e).1
 have lim:s.heap.NoLimit:=i.mod.nolimit.keeps λb o e=>(i.bs b o e).1
 have g:∀ y∈ps.zip us,(ag st).names.lookup y.1=some .local\/((ag st).names.lookup y.1=some .cell/\((cellsFrom (s.heap.objs.size+1) (ag st).names []).lookup y.1).isSome=true):=λ#[n,v] σ=>by
  rcases S.par n (List.of_mem_zip σ).1 with q | q
  .exact .inl q
  .exact .inr #[q,PySem.W.cellsFrom_some _ _ _ (.inl q)]
 refine codeAny_call_function (by have:=B.dp;omega) (z _ _ M) rfl S.co S.gen rfl (PySem.W.codeRec_of z l) (R _ _ _ _ ?_)
 refine wpAny_newFunctionEnv_cells S.kind g λenv he s1 x=>?_
 subst he
 refine #[lim.keeps x.toInCall.keep,codeAny_func ?_]
 obtain ⟨t,D,L⟩:=d a A outer s H c Q (B.deeper _) p j
 have I:=sT (qual:=qual) (f:=f) (cd:=a) S i C r x
 refine wpAny_mono (D [] s1 (fZ N c) H _ I L) (λfl s' h=>?_) λe s' h=>False.elim h
 have fin:∀ {O':St} {H':Hp} {v:V} {u:Value},Inv ((dD CX0 P w K mg base N qual (ag st) f a A outer s H E0).loud.wish λ_ _=>False) [] O' H' s'->RelV v u->Q v H'->CE outer P w H s Q u s' :=
  λ{O' H' v u} J m q=>#[v,H',J.os,J.bare,J.base,J.hok,m,q]
 cases fl with
 | ret u =>
  obtain ⟨v,O',H',J,m,q⟩:=h
  exact fin J m q
 | next =>
  obtain ⟨O',H',J,q⟩:=h
  exact fin (v:=V.non) (u:=Value.none) J rfl q
 | brk =>
  obtain ⟨_,_,_,q⟩:=h
  exact False.elim q
 | cont =>
  obtain ⟨_,_,_,q⟩:=h
  exact False.elim q
structure CalleeN (P:Program) (w:World) (K:FG) (mg:Str->Option Value) (base:Heap) (x:Str) (k:Nat) (ps:List Str) (sp:Sp):Prop where
 ex:∃ (f:Addr) (fd:FuncData),FnOkN P w K mg base k f fd ps sp/\mg x=some (.ref f)/\PySem.W.keepIn K (.ref f)=true/\Binds K fd ps []
theorem Def.calleeN {K:FG} {st:Stmt} {k:Nat} (D:Def K mg x st) (b:∀ (kV doc pm:Value) (an:Option Addr) (a ct:Value) (us:List Value),us.length=ps.length->bindArgs (PySem.W.fnOf x x (aQ st) (aI st) (ag st) .none kV doc pm an a ct) #[us,[]]=pure (ps.zip us)) (h:∀ f fd,Fun K x x st f fd->FnOkN P w K mg base k f fd ps sp):CalleeN P w K mg base x k ps sp:=by
 obtain ⟨f,fd,d⟩:=D
 exact #[f,fd,h f fd d.fn,d.mg,d.fn.kp,d.fn.binds b]
section
variable {X:Cx} {x:Str} {p pos:Pos} {e:Expr} {es:List Expr} {t:TA} {k:Nat} {ps:List Str} {sp:Sp}
theorem Eg (c:CalleeN X.prog X.w X.K X.mg X.base x k ps sp) (C:RoomN k X.A) (o:Hd X) (v:PA X (e::es) t) (m:Gl X x) (g:(x == ("__debug__":Str))=false)
  (he:starEach (e::es) X.env=(false,eval e X.env)::starEach es X.env) (i:(backTo pos (starEach es X.env)).any (·.1)=false):PE X (.Call (.Name x p) (e::es) [] pos) (tFn sp t):=by
 obtain ⟨f,fd,F,hm,n,D⟩:=c.ex
 intro pins s O H Q I h
 refine wpAny_Call_Name_kw (iN I m hm ?_ g)
 refine PySem.W.callWith_K (h₀:=X.base) I.ok.mod.kin n (thn (v pos pins s O H _ I h) λus s1 #[B,H1,d,r,q]=>#[d.kIn,?_]) he i
 have E:us.length=ps.length:=by rw[<- r.length];exact F.len _ _ _ _ q
 have j:=D s1 us d.kIn (by rw[List.append_nil];exact E)
 rw[List.append_nil] at j
 refine wpAny_call (codeAny_mono (F.run X.A X.stack s1 H1 #[us,[]] us B Q C (let #[a,ob,u,l,y,z]:=o;#[a,ob,u,l,d.base.frzs a ob u y,z]) d.env0 j r q) λr s' b=>?_)
 cases r with
 | error e=>exact False.elim b
 | ok fl =>
  cases fl with
  | ret u=>exact d.after b
  | next=>exact False.elim b
  | brk=>exact False.elim b
  | cont=>exact False.elim b
end
end L2
end
section
namespace L2
open PySem PySem.W PySem.Spec PySem.Calls PyProof.Rows Builtin.Getset_descriptor
structure ExcAt (h:Heap) (x D:Addr):Prop where
 ex:∃ ox,h.get? x=some ox/\ox.cls=.ref D
section
variable {prog:Program} {w:World} {A:Around} {E:Value->Shared->Prop} {s:Shared} {K:FG} {x D:Addr}
theorem ExcAt.ty (p:ExcAt h x D):Looks M h (typeOf (.ref x)) (.ref D):=by
 obtain ⟨b,e1,a⟩:=p.ex
 exact a ▸ (Looks.ld e1).andThen .now
theorem zL (k:ExcK K D) (X:K.In h):Looks M h (Builtin.ObjectAttr.find (.ref x) (.ref D) "__class__") (.bind (.builtin "getset_descriptor.__get__") (.builtin "object.__class__")):=by
 have a:=looks_findIn (M:=M) X k.ca
 have c:Looks M h (Builtin.ObjectAttr.getOf (some (.builtin "object.__class__"))) (some (.builtin "getset_descriptor.__get__")):=looks_specialIn X k.sp
 have b:Looks M h (Builtin.ObjectAttr.dataDescriptor? (some (.builtin "object.__class__")) (some (.builtin "getset_descriptor.__get__"))) (some (.builtin "getset_descriptor.__get__",.builtin "object.__class__")):=(looks_takesIn X k.tk).andThen .now
 exact a.andThen (c.andThen (b.andThen (Looks.tag .now)))
theorem B1 (k:ExcK K D) (X:K.In s.heap) (p:ExcAt s.heap x D) (h:R (.ok (.ret (.ref D))) s):codeAny (model prog w) A (.call (.builtin "getset_descriptor.__get__") #[[.builtin "object.__class__",.ref x,tp],[]]) R s:=by
 obtain ⟨h0,b,a,t0,o0⟩:=s
 have c:=p.ty (M:=model prog w)
 have d:=looks_mroIn (M:=model prog w) X k.ob
 refine codeAny_call_builtin KF.slot_gs.plain KF.entry_gs (KF.slot_gs.check _ _ _ _ _ _ _ _ KF.type_class (KF.args_gs _ _ _) ?_)
 unfold Builtin.«getset_descriptor.__get__» descrGet
 rw[dga_obj]
 refine Fs (Ft ?_)
 unfold descrGetter descrCheckInstance descrNameAndClass isInstance
 simp only[KF.owner_class]
 repeat lk
 refine #[Code.quiet_builtin _ (by decide +kernel),codeAny_builtin KF.entry_class ?_]
 unfold Builtin.«object.__class__» shownTypeOf
 repeat lk
 exact h
theorem wy (k:ExcK K D) (X:K.In s.heap) (p:ExcAt s.heap x D) (h:Q (.done (.ret (.ref D))) s) :
  wpAny (model prog w) A (Builtin.«object.__getattribute__» #[[.ref x,.str "__class__" tk],[]]) Q E s:=by
 obtain ⟨h0,b,a,t0,o0⟩:=s
 have c:=p.ty (M:=model prog w)
 have d:=zL (M:=model prog w) (x:=x) k X
 unfold Builtin.«object.__getattribute__» slotArgs
 repeat lk
 show wpAny _ _ (run (.call (.builtin "getset_descriptor.__get__") #[[.builtin "object.__class__",.ref x,.ref D],[]])) _ _ _
 refine wpAny_run (B1 k X p ?_)
 exact Ft (Ft h)
theorem wA (k:ExcK K D) (X:K.In s.heap) (p:ExcAt s.heap x D) (h:Q () s):wpAny (model prog w) A (checkBuiltinCall "BaseException.__getattribute__" #[[.ref x,v],[]]) Q E s:=by
 obtain ⟨h0,c,a,t0,o0⟩:=s
 have d:=p.ty (M:=model prog w)
 have e:=looks_mroIn (M:=model prog w) X k.be
 have b1:builtinKind "BaseException.__getattribute__"=some .slot:=by decide +kernel
 have b2:splitId "BaseException.__getattribute__"=some ("BaseException","__getattribute__"):=by decide +kernel
 have b:=F.args_bexc_ga (.ref x) v
 simp only[checkBuiltinCall,b1,b2]
 refine Fs ?_
 unfold isInstance
 repeat lk
 exact h
theorem wz (k:ExcK K D) (X:K.In s.heap) (p:ExcAt s.heap x D) (h:Q (some (.ref D)) { s with toks:=s.toks+1 }):wpAny (model prog w) A (getAttr? (.ref x) "__class__") Q E s:=by
 obtain ⟨h0,f,e,t0,o0⟩:=s
 have b:=p.ty (M:=model prog w)
 have d:=looks_findIn (M:=model prog w) X k.ga
 have c:=looks_findIn (M:=model prog w) X k.gt
 have a:=F.excAttr_ValueError.ga.bind (.ref x)
 have ne:(onTheHeap (Value.ref D) && Value.builtin "BaseException.__getattribute__" == Value.builtin "object.__getattribute__")=false:=by
  rw[show (Value.builtin "BaseException.__getattribute__" == Value.builtin "object.__getattribute__")=false by decide +kernel];rfl
 unfold getAttr? getAttrBy? getAttrBy
 refine Fs (wpAny_mkText (Fs (wpAny_attempt (Fu (Fs (b.at (Fs (d.at ?_))))))))
 simp only[ne,Ga,if_false]
 unfold getAttrByItsOwn hookBefore
 rw[show onTheHeap (Value.ref D)=true from rfl,if_pos rfl]
 refine Fs (c.at (Fs (wpAny_attempt (Fu ?_))))
 unfold callGetattribute boundAndCalled
 rw[if_neg (by decide)]
 refine Fs (wpAny_of_eq a ?_)
 refine wpAny_call (codeAny_call_builtin F.excAttr_ValueError.ga.plain F.entry_bexc_ga (wA k X p (wy k X p ?_)))
 exact handed_on rfl (Ft h)
theorem ExcK.isT (k:ExcK K D) (X:K.In h):∃ o cd,h.get? D=some o/\o.data=.cls cd:=by
 obtain ⟨cd,a⟩:=Option.isSome_iff_exists.mp k.cl
 unfold clsIn at a
 split at a
 .rename_i b
  exact #[_,_,X _ _ b,rfl]
 .cases a
theorem zq (k:ExcK K D):KitX K (.ref x) (.ref D) (λh=>ExcAt h x D) where
 ty:=λ_ _ _ p=>p.ty
 it:=λ_ _ X _=>by
  obtain ⟨o,cd,e1,a⟩:=k.isT X
  intro m l q s1 k1 c
  unfold isType loadHead
  obtain ⟨oc,j,i,f⟩:=o
  dsimp only at a
  subst a
  exact Fs (wpAny_loadPart (k1 _ _ e1) (Ft c))
 ne:=λh d dd its n sl X b=>by
  obtain ⟨o,cd,e1,a⟩:=k.isT X
  cases e:(Value.ref D == Value.ref d) with
  | false=>rfl
  | true =>
   have g:D=d:=Value.ref.inj (beq_iff_eq.mp e)
   rw[g,b] at e1
   cases e1
   cases a
 ca:=λX p c=>wz k X p c
end
end L2
end
section
namespace L2
open PySem PySem.W PySem.Spec PySem.Calls PyProof.Rows
abbrev excA (C t:Addr) (da:Option Addr):Obj:={ cls:=.ref C,dict:=da,data:=.fields (List.toArray [.ref t,.none,.none,.none,.bool false,.none]) }
end L2
end
section
namespace L2
open PySem PySem.W PySem.Spec PySem.Calls PyProof.Rows Builtin.Getset_descriptor
end L2
end
section
namespace L2
open PySem PySem.Spec PyProof.Rows
section
variable {X:Cx}
theorem oi:∀ {bs:List Bool} {its:List Value},Vals (bs.map V.bl) its->its.countP (eqU (.bl k))=bs.count k
 | [],its,r=>by cases r;rfl
 | b::bs,its,r=>by
  cases r with
  | cons h t =>
   rw[List.countP_cons,List.count_cons,oi t,pA h rfl]
   rfl
theorem vX:MtR X "list.count" (λx g H Q=>∃ (a:Addr) (bs:List Bool) (k:Bool),x=.ref a/\g=[.bl k]/\SqL X.K H a (bs.map V.bl)/\Q (.int (bs.count k:Nat)) H):=by
 intro pins s O H x g v us Q I l m h
 obtain ⟨a,bs,k,rfl,rfl,t,q⟩:=h
 cases l
 obtain ⟨u,rfl,p⟩:=dQ m
 obtain ⟨its,r,⟨o,n,e,f,hd,i⟩,hz⟩:=I.list t
 have j:s.heap.get? a=some { cls:=.type "list",dict:=none,data:=.seq its.toArray n,slots:=o.slots }:=by
  rw[e]
  obtain ⟨c,d,dt,sl⟩:=o
  dsimp only at f hd i
  subst f hd i
  rfl
 refine call_meets F.slot_list_count #[_,j,rfl] F.entry_list_count (F.args_list_count_2 _ _) (SeqAt.list_countAt a its.toArray n none o.slots u (eqU (.bl k))) #[j,λz b=>l5 p rfl r (by simp[gi]) z (by simpa using b),?_]
 rw[show its.toArray.toList=its from rfl,oi r]
 exact #[.int _,H,I.tok _,#[_,rfl],q]
theorem tH:CallR X (.builtin "repr") (λxs H Q=>∃ t:Str,xs=[.str t]/\(reprText t).length<=sizeLine/\Q (.str (reprText t)) H):=by
 intro pins s O H xs us Q I r h
 obtain ⟨t,rfl,b,q⟩:=h
 obtain ⟨u,rfl,a⟩:=dQ r
 obtain ⟨tk,rfl⟩:=a
 exact PySem.P.repr_of_str #[.str _,H,I.tok _,#[_,rfl],q] b
end
end L2
end
section
namespace L3
open PySem L2
theorem nsE {α:Type} {p:α} {P:Prop} (e:(none:Option α)=some p):P:=nomatch e
inductive D where
 | non | bl (b:Bool) | int (i:Int) | str (x:Str)
 | tup (xs:List D) | lst (xs:List D) | fls (xs:List D) | dk (kvs:List (Key×D)) | dt (kvs:List (List Key×D))
 | exc (c:String) (fs:List (String×D))
def jI:D->Bool
 | .lst _=>true
 | .dk _=>true
 | .dt _=>true
 | _=>false
def FzL (K:FG) (H:Hp) (a:Addr) (b:List V):Prop:=(∃ o,H a=some (.frz o (.lst b)))\/∃ (o:Obj) (its:Array Value) (n:Nat),K.lookup a=some o/\o.cls=.type "list"/\o.dict=none/\o.data=.seq its n/\its.size<=sizeLine/\Vals b its.toList
theorem FzL.sq (h:FzL K H a vs):SqL K H a vs:=h.elim (λ#[o,e]=>.inl (.inr #[o,e])) .inr
inductive Reps (R:D->V->List Addr->Prop):List D->List V->List Addr->Prop where
 | nil:Reps R [] [] []
 | cons {d v L ds vs L'}:R d v L->Reps R ds vs L'->Reps R (d::ds) (v::vs) (L++L')
inductive Rep (K:FG) (H:Hp):D->V->List Addr->Prop where
 | non:Rep K H .non .non []
 | bl (b:Bool):Rep K H (.bl b) (.bl b) []
 | int (i:Int):Rep K H (.int i) (.int i) []
 | str (x:Str):Rep K H (.str x) (.str x) []
 | tup {xs a vs L}:H a=some (.tup vs)->Reps (Rep K H) xs vs L->Rep K H (.tup xs) (.ref a) L
 | lst {xs a vs L}:H a=some (.lst vs)->Reps (Rep K H) xs vs L->Rep K H (.lst xs) (.ref a) (a::L)
 | lstF {xs a vs L}:FzL K H a vs->Reps (Rep K H) xs vs L->Rep K H (.fls xs) (.ref a) L
 | dK {kvs a ps L}:H a=some (.dK ps)->kvs.map (·.1)=ps.map (·.1)->Reps (Rep K H) (kvs.map (·.2)) (ps.map (·.2)) L->Rep K H (.dk kvs) (.ref a) (a::L)
 | dT {kvs a ps L}:H a=some (.dT ps)->kvs.map (·.1)=ps.map (·.1)->Reps (Rep K H) (kvs.map (·.2)) (ps.map (·.2)) L->Rep K H (.dt kvs) (.ref a) (a::L)
 | exc {c a D ob}:XName K c D->H a=some (iq ob a (.ref D))->Rep K H (.exc c []) (.ref a) []
 | excV {c a D ob n x v d od u}:XName K c D->H a=some (iq ob a (.ref D))->ob.dict=some d->H d=some (iq od d od.cls)->PySem.W.lookIn (Str.ofString n) od=some (some u)->RelV v u->PySem.W.notCls ob=true->Rep K H x v []->Rep K H (.exc c [(n,x)]) (.ref a) []
def PayX (K:FG) (H:Hp) (da:Option Addr):List (String×D)->Prop
 | []=>True
 | [(n,x)]=>∃ v d a u,da=some d/\H d=some (iq a d a.cls)/\PySem.W.lookIn (Str.ofString n) a=some (some u)/\RelV v u/\Rep K H x v []
 | _=>False
def RepV (K:FG) (H:Hp) (d:D) (v:V) (L:List Addr):Prop:=match d with
 | .non=>v=.non/\L=[]
 | .bl b=>v=.bl b/\L=[]
 | .int i=>v=.int i/\L=[]
 | .str x=>v=.str x/\L=[]
 | .tup xs=>∃ a e,v=.ref a/\H a=some (.tup e)/\Reps (Rep K H) xs e L
 | .lst xs=>∃ a e L',v=.ref a/\L=a::L'/\H a=some (.lst e)/\Reps (Rep K H) xs e L'
 | .fls xs=>∃ a e,v=.ref a/\FzL K H a e/\Reps (Rep K H) xs e L
 | .dk kvs=>∃ a ps L',v=.ref a/\L=a::L'/\H a=some (.dK ps)/\kvs.map (·.1)=ps.map (·.1)/\Reps (Rep K H) (kvs.map (·.2)) (ps.map (·.2)) L'
 | .dt kvs=>∃ a ps L',v=.ref a/\L=a::L'/\H a=some (.dT ps)/\kvs.map (·.1)=ps.map (·.1)/\Reps (Rep K H) (kvs.map (·.2)) (ps.map (·.2)) L'
 | .exc c fs=>L=[]/\∃ a D ob,v=.ref a/\XName K c D/\H a=some (iq ob a (.ref D))/\PayX K H ob.dict fs/\(fs≠[]->PySem.W.notCls ob=true)
theorem Rep.view (r:Rep K H d v L):RepV K H d v L:=by
 cases r with
 | non=>exact #[rfl,rfl]
 | bl b=>exact #[rfl,rfl]
 | int i=>exact #[rfl,rfl]
 | str x=>exact #[rfl,rfl]
 | tup h r=>exact #[_,_,rfl,h,r]
 | lst h r=>exact #[_,_,_,rfl,rfl,h,r]
 | lstF h r=>exact #[_,_,rfl,h,r]
 | dK h k r=>exact #[_,_,_,rfl,rfl,h,k,r]
 | dT h k r=>exact #[_,_,_,rfl,rfl,h,k,r]
 | exc n h=>exact #[rfl,_,_,_,rfl,n,h,trivial,λz=>absurd rfl z]
 | excV n h1 h2 h3 h4 h5 h7 h6=>exact #[rfl,_,_,_,rfl,n,h1,#[_,_,_,_,h2,h3,h4,h5,h6],λ_=>h7]
def MutAt (H:Hp) (b:Addr):Prop:=(∃ xs,H b=some (.lst xs))\/(∃ ps,H b=some (.dK ps))\/∃ ps,H b=some (.dT ps)
theorem MutAt.ex (m:MutAt H b):∃ o,H b=some o:=by
 rcases m with ⟨_,h⟩ | ⟨_,h⟩ | ⟨_,h⟩ <;> exact #[_,h]
theorem MutAt.notup (m:MutAt H b) (h:H b=some (.tup vs)):False:=by
 rcases m with ⟨_,e⟩ | ⟨_,e⟩ | ⟨_,e⟩ <;> rw[e] at h <;> cases h
theorem MutAt.nofrz (m:MutAt H b) (h:H b=some (.frz o u)):False:=by
 rcases m with ⟨_,e⟩ | ⟨_,e⟩ | ⟨_,e⟩ <;> rw[e] at h <;> cases h
theorem FzL.keep {M:Addr->Prop} (h:FzL K H a vs) (k:∀ b o,H b=some o->¬ M b->H' b=some o) (hm:∀ b,M b->MutAt H b):FzL K H' a vs:=h.elim (λ#[o,e]=>.inl #[o,k a _ e λz=>(hm a z).nofrz e]) .inr
section
variable {K:FG} {H H':Hp} {d:D} {v:V} {L:List Addr}
theorem Rep.inH (r:Rep K H d v L):∀ b∈L,MutAt H b:=by
 refine Rep.rec (motive_1:=λ_ _ L _=>∀ b∈L,MutAt H b) (motive_2:=λ_ _ L _=>∀ b∈L,MutAt H b) ?_ ?_ ?_ ?_ ?_ ?_ ?_ ?_ ?_ ?_ ?_ ?_ ?_ r
 .intro b a;cases a
 .intro _ b a;cases a
 .intro _ b a;cases a
 .intro _ b a;cases a
 .intro _ _ _ _ _ _ c;exact c
 .intro _ _ _ _ h _ c b a
  rcases FD.mp a with e | a
  .rw[e];exact .inl #[_,h]
  .exact c b a
 .intro _ _ _ _ _ _ c;exact c
 .intro _ _ _ _ h _ _ c b a
  rcases FD.mp a with e | a
  .rw[e];exact .inr (.inl #[_,h])
  .exact c b a
 .intro _ _ _ _ h _ _ c b a
  rcases FD.mp a with e | a
  .rw[e];exact .inr (.inr #[_,h])
  .exact c b a
 .intro _ _ _ _ _ _ b a;cases a
 .intros;rename_i a;cases a
 .intro b a;cases a
 .intro _ _ _ _ _ _ _ _ f g b a
  rcases FH.mp a with h | h
  .exact f b h
  .exact g b h
theorem Reps.inH (r:Reps (Rep K H) ds vs L):∀ b∈L,MutAt H b:=by
 induction r with
 | nil=>intro b a;cases a
 | cons r _ ih =>
  intro b a
  rcases FH.mp a with h | h
  .exact r.inH b h
  .exact ih b h
theorem Rep.keep {M:Addr->Prop} (k:∀ b o,H b=some o->¬ M b->H' b=some o) (hm:∀ b,M b->MutAt H b) (r:Rep K H d v L):(∀ b∈L,¬ M b)->Rep K H' d v L:=by
 refine Rep.rec (motive_1:=λd v L _=>(∀ b∈L,¬ M b)->Rep K H' d v L) (motive_2:=λds j L _=>(∀ b∈L,¬ M b)->Reps (Rep K H') ds j L) ?_ ?_ ?_ ?_ ?_ ?_ ?_ ?_ ?_ ?_ ?_ ?_ ?_ r
 .intro _;exact .non
 .intro b _;exact .bl b
 .intro b _;exact .int b
 .intro b _;exact .str b
 .intro xs a j L h _ g f
  exact .tup (k a _ h λz=>(hm a z).notup h) (g f)
 .intro xs a j L h _ g f
  exact .lst (k a _ h (f a Fv)) (g λb i=>f b (Fw _ i))
 .intro xs a j L h _ g f
  exact .lstF (h.keep k hm) (g f)
 .intro kvs a ps L h e _ g f
  exact .dK (k a _ h (f a Fv)) e (g λb i=>f b (Fw _ i))
 .intro kvs a ps L h e _ g f
  exact .dT (k a _ h (f a Fv)) e (g λb i=>f b (Fw _ i))
 .intro c a D ob n h _
  exact .exc n (k a _ h λz=>(hm a z).nofrz h)
 .intro c a D ob n x v d A u e1 l w m p t s _ g _
  exact .excV e1 (k a _ l λz=>(hm a z).nofrz l) w (k d _ m λz=>(hm d z).nofrz m) p t s (g λ_ h=>nomatch h)
 .intro _;exact .nil
 .intro d v L ds j L' _ _ q y f
  exact .cons (q λb i=>f b (FA _ i)) (y λb i=>f b (FC _ i))
theorem Rep.excP {c:String} {fs:List (String×D)} {a C:Addr} {ob:Obj} (n:XName K c C) (h:H a=some (iq ob a (.ref C))) (p:PayX K H ob.dict fs) (b:PySem.W.notCls ob=true):Rep K H (.exc c fs) (.ref a) [] :=
 match fs,p with
 | [],_=>.exc n h
 | [(_,_)],#[_,_,_,_,e1,e2,e3,e4,e5]=>.excV n h e1 e2 e3 e4 b e5
theorem Rep.same (r:Rep K H d v L) (s:Same H H'):Rep K H' d v L:=r.keep (M:=λ_=>False) (λb o h _=>s b o h) (λ_ z=>z.elim) λ_ _ z=>z
theorem Reps.keep {M:Addr->Prop} (k:∀ b o,H b=some o->¬ M b->H' b=some o) (hm:∀ b,M b->MutAt H b) (r:Reps (Rep K H) ds vs L):(∀ b∈L,¬ M b)->Reps (Rep K H') ds vs L:=by
 induction r with
 | nil=>intro _;exact .nil
 | cons r _ ih=>intro c;exact .cons (r.keep k hm λb a=>c b (FA _ a)) (ih λb a=>c b (FC _ a))
theorem PayX.same {da:Option Addr} {fs:List (String×D)} (p:PayX K H da fs) (s:Same H H'):PayX K H' da fs :=
 match fs,p with
 | [],_=>trivial
 | [(_,_)],#[_,_,_,_,e1,e2,e3,e4,e5]=>#[_,_,_,_,e1,s _ _ e2,e3,e4,e5.same s]
theorem Reps.same (r:Reps (Rep K H) ds vs L) (s:Same H H'):Reps (Rep K H') ds vs L:=r.keep (M:=λ_=>False) (λb o h _=>s b o h) (λ_ z=>z.elim) λ_ _ z=>z
end
inductive Fl where
 | u | l | z
 deriving DecidableEq
structure It3 where
 d:D
 v:V
 L:List Addr
 f:Fl
abbrev Sto:=List (Option (D×Fl))
structure Gm where
 H0:Hp
 bw:Addr->Prop
 pr:Nat->Bool
 O0:St
 orig:Hp
 src:Addr->Prop
 lv:Nat->Option V
def OwnOk (G:Gm) (x:It3):Prop:=jI x.d=true/\∃ a L',x.v=.ref a/\x.L=a::L'/\a ∉ L'/\(x.f=.u->G.H0 a=none\/G.bw a)
structure ItOk (K:FG) (G:Gm) (H:Hp) (x:It3):Prop where
 rep:Rep K H x.d x.v x.L
 own:x.f≠.z->OwnOk G x
 src:∀ c∈x.L,G.H0 c=none\/G.src c
structure Fx (G:Gm) (H:Hp) (T:List It3) (g:Nat->Option It3):Prop where
 frT:∀ x∈T,x.f≠.z->∀ a,x.v=.ref a->G.orig a=none
 frS:∀ i x,g i=some x->G.pr i=false->x.f≠.z->∀ a,x.v=.ref a->G.orig a=none
 bin:∀ b,G.bw b->∃ o,H b=some o
 ob:∀ b o,G.orig b=some o->∃ o',H b=some o'
 lvS:∀ i x,g i=some x->x.f=.l->G.lv i=some x.v
def NoRoot (x y:It3):Prop:=x.f≠.z->∀ a,x.v=.ref a->a ∉ y.L
def Apart3 (x y:It3):Prop:=NoRoot x y/\NoRoot y x
structure Wf (K:FG) (G:Gm) (H:Hp) (O:St) (Z:Sto) (T:List It3) (g:Nat->Option It3):Prop where
 len:O.length=Z.length
 sl:∀ i,(g i).map (λx=>(x.d,x.f))=(Z[i]?).join
 sv:∀ i x,g i=some x->O[i]?=some (some x.v)
 okS:∀ i x,g i=some x->ItOk K G H x
 okT:∀ x∈T,ItOk K G H x
 ss:∀ i j x y,i≠j->g i=some x->g j=some y->NoRoot x y
 st:∀ i x,g i=some x->∀ y∈T,Apart3 x y
 tt:T.Pairwise Apart3
 base:∀ b o,G.H0 b=some o->¬ G.bw b->H b=some o
 pro:∀ i,G.pr i=true->O[i]?=G.O0[i]?
 fx:Fx G H T g
structure Le (K:FG) (G:Gm) (W:D->Sto->Prop) (G0:Gm) (W0:D->Sto->Prop):Prop where
 pr:G.pr=G0.pr
 ex:∀ (H:Hp) (O:St) (Z:Sto) (T:List It3) (g:Nat->Option It3) (e:D),Wf K G H O Z T g->W e Z->∃ Z0 T0 g0,Wf K G0 H O Z0 T0 g0/\W0 e Z0
theorem Le.refl (K:FG) (G:Gm) (W:D->Sto->Prop):Le K G W G W:=#[rfl,λ_ _ Z T g _ w h=>#[Z,T,g,w,h]]
theorem Le.trans (a:Le K G W G1 W1) (b:Le K G1 W1 G2 W2):Le K G W G2 W2:=⟨a.pr.trans b.pr,λH O Z T g e w h=>by
 obtain ⟨Z1,d,g1,c,h1⟩:=a.ex H O Z T g e w h
 exact b.ex H O Z1 d g1 e c h1⟩
section
variable {K:FG} {G:Gm} {H H':Hp} {O:St} {Z:Sto} {T T':List It3} {g:Nat->Option It3} {x y z:It3}
theorem ItOk.keep {M:Addr->Prop} (h:ItOk K G H x) (k:∀ b o,H b=some o->¬ M b->H' b=some o) (hm:∀ b,M b->MutAt H b) (a:∀ b∈x.L,¬ M b):ItOk K G H' x:=#[h.rep.keep k hm a,h.own,h.src]
theorem ItOk.same (h:ItOk K G H x) (s:Same H H'):ItOk K G H' x:=#[h.rep.same s,h.own,h.src]
theorem Fx.more (f:Fx G H T g) (s:∀ b o,H b=some o->∃ o',H' b=some o'):Fx G H' T g:=#[f.frT,f.frS,λb h=>let #[o,e]:=f.bin b h;s b o e,λb o h=>let #[o',e]:=f.ob b o h;s b o' e,f.lvS]
theorem Fx.sub (f:Fx G H T g) (h:∀ x∈T',x∈T):Fx G H T' g:=#[λx a=>f.frT x (h x a),f.frS,f.bin,f.ob,f.lvS]
theorem Wf.grow (w:Wf K G H O Z T g) (s:Same H H'):Wf K G H' O Z T g :=
 #[w.len,w.sl,w.sv,λi x e=>(w.okS i x e).same s,λx a=>(w.okT x a).same s,w.ss,w.st,w.tt,λb o e n=>s b o (w.base b o e n),w.pro,w.fx.more λb o h=>#[o,s b o h]]
theorem Wf.sub (w:Wf K G H O Z T g) (h:T'.Sublist T):Wf K G H O Z T' g :=
 #[w.len,w.sl,w.sv,w.okS,λx a=>w.okT x (h.subset a),w.ss,λi x e y b=>w.st i x e y (h.subset b),w.tt.sublist h,w.base,w.pro,w.fx.sub λx a=>h.subset a]
def Itm (T:List It3) (g:Nat->Option It3) (y:It3):Prop:=(∃ i,g i=some y)\/y∈T
def dN (T:List It3) (g:Nat->Option It3) (c:Addr):Prop:=(∀ i z,g i=some z->z.f≠.z->z.v≠.ref c)/\∀ z∈T,z.f≠.z->z.v≠.ref c
theorem Wf.itm (w:Wf K G H O Z T g) (h:Itm T g y):ItOk K G H y:=by
 rcases h with ⟨i,e⟩ | h
 .exact w.okS i y e
 .exact w.okT y h
theorem oR {α:Type} {R:α->α->Prop} {l:List α} (p:l.Pairwise R) (h:∀ a b,R a b->R b a):∀ a∈l,∀ b∈l,a≠b->R a b:=by
 induction p with
 | nil=>intro a d;cases d
 | @cons c l hc _ ih =>
  intro a d b e n
  rcases FD.mp d with g | d
  .rcases FD.mp e with f | e
   .exact absurd (g.trans f.symm) n
   .rw[g];exact hc b e
  .rcases FD.mp e with f | e
   .rw[f];exact h _ _ (hc a d)
   .exact ih a d b e n
theorem Apart3.symm (h:Apart3 x y):Apart3 y x:=#[h.2,h.1]
theorem Wf.kid (w:Wf K G H O Z T g) (h:Itm T g y) (d:c∈y.L) (l:y.f≠.z->y.v≠.ref c):dN T g c:=by
 refine #[λi z e hz a=>?_,λz hm hz a=>?_]
 .rcases h with ⟨j,b⟩ | k
  .by_cases m:i=j
   .subst m
    rw[e] at b
    cases b
    exact l hz a
   .exact w.ss i j z y m e b hz c a d
  .exact (w.st i z e y k).1 hz c a d
 .rcases h with ⟨j,b⟩ | k
  .exact (w.st j y b z hm).2 hz c a d
  .by_cases e:z=y
   .subst e;exact l hz a
   .exact (oR w.tt (λ_ _=>Apart3.symm) z hm y k e).1 hz c a d
structure New (K:FG) (H H':Hp) (Ks:Addr->Prop) (x:It3):Prop where
 same:Same H H'
 rep:Rep K H' x.d x.v x.L
 sub:∀ c∈x.L,H c=none\/Ks c
 own:x.f≠.z->jI x.d=true/\∃ a L',x.v=.ref a/\x.L=a::L'/\a ∉ L'/\H a=none
theorem Wf.h0none (w:Wf K G H O Z T g) (h:H a=none):G.H0 a=none:=by
 cases e:G.H0 a with
 | none=>rfl
 | some o =>
  by_cases b:G.bw a
  .obtain ⟨o,e⟩:=w.fx.bin a b
   rw[h] at e;cases e
  .have:=w.base a o e b
   rw[h] at this;cases this
theorem Wf.ornone (w:Wf K G H O Z T g) (h:H a=none):G.orig a=none:=by
 cases e:G.orig a with
 | none=>rfl
 | some o =>
  obtain ⟨o,e⟩:=w.fx.ob a o e
  rw[h] at e;cases e
theorem Wf.push (w:Wf K G H O Z T g) (n:New K H H' Ks x) (p:∀ c,Ks c->dN T g c/\(G.H0 c=none\/G.src c)):Wf K G H' O Z (x::T) g:=by
 have d:=w.grow n.same
 have a1:∀ y:It3,ItOk K G H y->(∀ c,Ks c->y.f≠.z->y.v≠.ref c)->Apart3 y x:=λy m b=>by
  refine #[λhf a e hm=>?_,λhf a e hm=>?_]
  .obtain ⟨_,r,L',e1,j,_,_⟩:=m.own hf
   rw[e] at e1
   cases e1
   rcases n.sub a hm with h | h
   .obtain ⟨o,k⟩:=(m.rep.inH a (by rw[j];exact Fv)).ex
    rw[h] at k;cases k
   .exact b a h hf e
  .obtain ⟨_,r,L',e1,j,_,h⟩:=n.own hf
   rw[e] at e1
   cases e1
   obtain ⟨o,k⟩:=(m.rep.inH a hm).ex
   rw[h] at k;cases k
 refine #[d.len,d.sl,d.sv,d.okS,?_,d.ss,?_,?_,d.base,d.pro,#[λy b hf a s=>?_,d.fx.frS,d.fx.bin,d.fx.ob,d.fx.lvS]]
 .intro y b
  rcases FD.mp b with rfl | b
  .refine #[n.rep,λhf=>?_,λc l=>?_]
   .obtain ⟨t,a,L',e1,j,u,q⟩:=n.own hf
    exact #[t,a,L',e1,j,u,λ_=>.inl (w.h0none q)]
   .rcases n.sub c l with h | h
    .exact .inl (w.h0none h)
    .exact (p c h).2
  .exact d.okT y b
 .intro i z e y b
  rcases FD.mp b with rfl | b
  .exact a1 z (w.okS i z e) λc l=>(p c l).1.1 i z e
  .exact d.st i z e y b
 .refine List.pairwise_cons.mpr #[λy b=>(a1 y (w.okT y b) λc l=>(p c l).1.2 y b).symm,d.tt]
 .rcases FD.mp b with h | b
  .subst h
   obtain ⟨t,r,L',e1,j,u,q⟩:=n.own hf
   rw[s] at e1
   cases e1
   exact w.ornone q
  .exact d.fx.frT y b hf a s
def dg (ys:List It3) (c:Addr):Prop:=∃ y∈ys,c∈y.L/\(y.f≠.z->y.v≠.ref c)
theorem Wf.kids (w:Wf K G H O Z T g) (a:∀ y∈ys,Itm T g y) (h:dg ys c):dN T g c/\(G.H0 c=none\/G.src c):=by
 obtain ⟨y,m,b,d⟩:=h
 exact #[w.kid (a y m) b d,(w.itm (a y m)).src c b]
structure Arg (K:FG) (H:Hp) (p:It3):Prop where
 rep:Rep K H p.d p.v p.L
 own:p.f≠.z->jI p.d=true/\∃ a L',p.v=.ref a/\p.L=a::L'/\a ∉ L'
theorem ItOk.arg (h:ItOk K G H x):Arg K H x:=⟨h.rep,λhf=>by
 obtain ⟨m,a,L',v1,v2,b,_⟩:=h.own hf
 exact ⟨m,a,L',v1,v2,b⟩⟩
end
inductive R3 where
 | pl (i:Nat) | val (d:D) (f:Fl)
abbrev M3 (α:Type):=Sto->Option (Except D α×Sto)
abbrev EM:=M3 R3
noncomputable def ai {α β:Type} (m:M3 α) (k:α->M3 β):M3 β:=λZ=>match m Z with
 | none=>none
 | some (.error e,Z')=>some (.error e,Z')
 | some (.ok a,Z')=>k a Z'
noncomputable def bc {α:Type} (a:α):M3 α:=λZ=>some (.ok a,Z)
noncomputable def bh {α:Type} (o:Option α):M3 α:=λZ=>o.map λa=>(.ok a,Z)
noncomputable def der (r:R3):M3 D:=λZ=>match r with
 | .pl i=>((Z[i]?).join).map λp=>(.ok p.1,Z)
 | .val d _=>some (.ok d,Z)
inductive Ar (O:St):R3->V->List It3->Prop where
 | pl {i:Nat} {v:V}:O[i]?=some (some v)->Ar O (.pl i) v []
 | val (x:It3):Ar O (.val x.d x.f) x.v [x]
def Got (K:FG) (G:Gm) (O:St) (Z:Sto) (T:List It3) (r:R3) (v:V) (H:Hp):Prop:=∃ Ts g,Wf K G H O Z (Ts++T) g/\Ar O r v Ts
def tE (K:FG) (G0:Gm) (W0:D->Sto->Prop) (m:EM):TE:=λO H Q=>∃ G W,Le K G W G0 W0/\∃ Z T g r Z',Wf K G H O Z T g/\m Z=some (r,Z')/\match r with
 | .ok r=>∀ v H',Got K G O Z' T r v H'->Q v H'
 | .error e=>W e Z'
def tT (K:FG) (G0:Gm) (W0:D->Sto->Prop) (m:M3 Bool):TT:=λO H Q=>∃ G W,Le K G W G0 W0/\∃ Z T g r Z',Wf K G H O Z T g/\m Z=some (r,Z')/\match r with
 | .ok b=>∀ H' g',Wf K G H' O Z' T g'->Q b H'
 | .error e=>W e Z'
inductive Ars (O:St):List R3->List V->List It3->Prop where
 | nil:Ars O [] [] []
 | cons {r v Ts rs vs Us}:Ar O r v Ts->Ars O rs vs Us->Ars O (r::rs) (v::vs) (Us++Ts)
def tA (K:FG) (G0:Gm) (W0:D->Sto->Prop) (m:M3 (List R3)):TA:=λO H Q=>∃ G W,Le K G W G0 W0/\∃ Z T g r Z',Wf K G H O Z T g/\m Z=some (r,Z')/\match r with
 | .ok rs=>∀ a H' Ts g',Wf K G H' O Z' (Ts++T) g'->Ars O rs a Ts->Q a H'
 | .error e=>W e Z'
inductive Flw where
 | nx | br | ct | rt (d:D) (f:Fl)
abbrev SM:=M3 Flw
def tS (K:FG) (G0:Gm) (W0:D->Sto->Prop) (m:SM):TS:=λE O H=>∃ G W,Le K G W G0 W0/\∃ Z T g r Z',Wf K G H O Z T g/\m Z=some (r,Z')/\match r with
 | .ok .nx=>∀ O' H' g',Wf K G H' O' Z' T g'->E.nx O' H'
 | .ok .br=>∀ O' H' g',Wf K G H' O' Z' T g'->E.bk O' H'
 | .ok .ct=>∀ O' H' g',Wf K G H' O' Z' T g'->E.ct O' H'
 | .ok (.rt d f)=>∀ x O' H' g',Wf K G H' O' Z' (x::T) g'->x.d=d->x.f=f->E.rt x.v H'
 | .error e=>W e Z'
section
variable {K:FG} {G G0:Gm} {W W0:D->Sto->Prop} {H H':Hp} {O:St} {Z Z':Sto} {T T':List It3} {g:Nat->Option It3} {x y z:It3} {α β:Type}
theorem aY (e:ai (der r) k Z=some (o,Z')):∃ d,der r Z=some (.ok d,Z)/\k d Z=some (o,Z'):=by
 cases r with
 | pl i =>
  have a:der (.pl i) Z=((Z[i]?).join).map λp=>(.ok p.1,Z):=rfl
  unfold ai at e
  rw[a] at e ⊢
  cases h:(Z[i]?).join with
  | none=>rw[h] at e;exact nsE e
  | some p=>rw[h] at e;exact #[p.1,rfl,e]
 | val d f=>exact #[d,rfl,e]
theorem bV (e:bh o Z=some (r,Z')):∃ a,o=some a/\r=.ok a/\Z'=Z:=by
 unfold bh at e
 cases o with
 | none=>exact nsE e
 | some a=>cases e;exact #[a,rfl,rfl,rfl]
theorem Wf.slot (w:Wf K G H O Z T g) {i:Nat} (e:(Z[i]?).join=some (d,f)):∃ y,g i=some y/\y.d=d/\y.f=f/\O[i]?=some (some y.v):=by
 have h:=w.sl i
 rw[e] at h
 cases q:g i with
 | none=>rw[q] at h;exact nsE h
 | some y =>
  rw[q] at h
  cases h
  exact #[y,rfl,rfl,rfl,w.sv i y q]
theorem Ar.item (w:Wf K G H O Z T g) (a:Ar O r v Ts) (k:∀ x∈Ts,x∈T) (e:der r Z=some (.ok d,Z)):∃ y,Itm T g y/\y.d=d/\y.v=v:=by
 cases a with
 | @pl i v h =>
  have j:der (.pl i) Z=((Z[i]?).join).map λp=>(.ok p.1,Z):=rfl
  rw[j] at e
  cases q:(Z[i]?).join with
  | none=>rw[q] at e;exact nsE e
  | some p =>
   rw[q] at e
   obtain ⟨y,e1,l,m,b⟩:=w.slot (d:=p.1) (f:=p.2) q
   have c:p.1=d:=by cases e;rfl
   rw[h] at b
   refine #[y,.inl #[i,e1],l.trans c,?_]
   cases b;rfl
 | val x=>cases e;exact #[x,.inr (k x (by simp)),rfl,rfl]
theorem Wf.done (w:Wf K G H O Z (Us++T) g) (a:∀ y∈ys,Itm (Us++T) g y) (n:New K H H' (dg ys) x):Got K G O Z T (.val x.d x.f) x.v H' :=
 #[[x],g,(w.push n λc h=>w.kids a h).sub (by simpa using List.Sublist.cons_cons x (FN Us T)),.val x]
theorem tE.seq (le:Le K G W G0 W0) (w:Wf K G H O Z T g) (e:ai ma k Z=some (r,Z')) (he:∀ x,r=.error x->W x Z') (h:∀ ra Z1,k ra Z1=some (r,Z')->∀ v H1,Got K G O Z1 T ra v H1->P v H1):tE K G0 W0 ma O H P:=by
 unfold ai at e
 cases q:ma Z with
 | none=>rw[q] at e;exact nsE e
 | some p =>
  obtain ⟨o,Z1⟩:=p
  rw[q] at e
  cases o with
  | error x=>cases e;exact #[G,W,le,Z,T,g,.error x,Z',w,q,he x rfl]
  | ok ra=>exact #[G,W,le,Z,T,g,.ok ra,Z1,w,q,h ra Z1 e]
theorem tT.seq (le:Le K G W G0 W0) (w:Wf K G H O Z T g) (e:ai ma k Z=some (r,Z')) (he:∀ x,r=.error x->W x Z') (h:∀ b Z1,k b Z1=some (r,Z')->∀ H1 g1,Wf K G H1 O Z1 T g1->P b H1):tT K G0 W0 ma O H P:=by
 unfold ai at e
 cases q:ma Z with
 | none=>rw[q] at e;exact nsE e
 | some p =>
  obtain ⟨o,Z1⟩:=p
  rw[q] at e
  cases o with
  | error x=>cases e;exact #[G,W,le,Z,T,g,.error x,Z',w,q,he x rfl]
  | ok ra=>exact #[G,W,le,Z,T,g,.ok ra,Z1,w,q,h ra Z1 e]
theorem tA.seq (le:Le K G W G0 W0) (w:Wf K G H O Z T g) (e:ai ma k Z=some (r,Z')) (he:∀ x,r=.error x->W x Z') (h:∀ rs Z1,k rs Z1=some (r,Z')->∀ a H1 Ts g1,Wf K G H1 O Z1 (Ts++T) g1->Ars O rs a Ts->P a H1):tA K G0 W0 ma O H P:=by
 unfold ai at e
 cases q:ma Z with
 | none=>rw[q] at e;exact nsE e
 | some p =>
  obtain ⟨o,Z1⟩:=p
  rw[q] at e
  cases o with
  | error x=>cases e;exact #[G,W,le,Z,T,g,.error x,Z',w,q,he x rfl]
  | ok ra=>exact #[G,W,le,Z,T,g,.ok ra,Z1,w,q,h ra Z1 e]
def EndE (K:FG) (G:Gm) (W:D->Sto->Prop) (O:St) (T:List It3) (Z':Sto) (Q:VK):Except D R3->Prop
 | .ok r=>∀ v H',Got K G O Z' T r v H'->Q v H'
 | .error e=>W e Z'
theorem EndE.err (h:EndE K G W O T Z' Q r):∀ x,r=.error x->W x Z':=by
 intro x e;subst e;exact h
theorem tE.open (h:tE K G0 W0 m O H Q):∃ G W,Le K G W G0 W0/\∃ Z T g r Z',Wf K G H O Z T g/\m Z=some (r,Z')/\EndE K G W O T Z' Q r:=by
 obtain ⟨G,W,le,Z,T,g,r,Z',w,e,q⟩:=h
 refine #[G,W,le,Z,T,g,r,Z',w,e,?_]
 cases r with
 | ok r=>exact q
 | error x=>exact q
theorem tE.use (h:tE K G0 W0 m O H Q) {P:Prop} (k:∀ G W,Le K G W G0 W0->∀ Z T g r Z',Wf K G H O Z T g->m Z=some (r,Z')->EndE K G W O T Z' Q r->P):P:=by
 obtain ⟨G,W,le,Z,T,g,r,Z',w,e,q⟩:=h.open
 exact k G W le Z T g r Z' w e q
theorem tE.mk (le:Le K G W G0 W0) (w:Wf K G H O Z T g) (e:m Z=some (r,Z')) (h:EndE K G W O T Z' Q r):tE K G0 W0 m O H Q:=by
 refine #[G,W,le,Z,T,g,r,Z',w,e,?_]
 cases r with
 | ok r=>exact h
 | error x=>exact h
def ad (i:Nat):EM:=λZ=>((Z[i]?).join).map λ_=>(.ok (.pl i),Z)
theorem C9 {i:Nat} (h:tE K G0 W0 (ad i) O H Q):vA i O H Q:=by
 refine h.use λG W le Z T g r Z' w e q=>?_
 unfold ad at e
 cases h:(Z[i]?).join with
 | none=>rw[h] at e;exact nsE e
 | some p =>
  rw[h] at e
  cases e
  obtain ⟨y,_,_,_,a⟩:=w.slot (d:=p.1) (f:=p.2) h
  exact #[y.v,a,q y.v H #[[],g,w,.pl a]]
def mC (d:D):EM:=bc (.val d .z)
theorem Wf.const (w:Wf K G H O Z T g) (r:Rep K H d v []):Got K G O Z T (.val d .z) v H :=
 Wf.done (Us:=[]) (ys:=[]) (x:=#[d,v,[],.z]) w (λ_ h=>(by cases h)) #[Same.refl _,r,λ_ h=>(by cases h),λh=>absurd rfl h]
theorem gp (r:∀ H,Rep K H d v []) (h:tE K G0 W0 (mC d) O H Q):tC v O H Q:=by
 refine h.use λG W le Z T g o Z' w e q=>?_
 cases e
 exact q v H (w.const (r H))
def am (f:D->D->Option (D×Fl)) (ma mb:EM):EM:=ai ma λra=>ai mb λrb=>ai (der ra) λda=>ai (der rb) λdb=>bh ((f da db).map λp=>R3.val p.1 p.2)
def OpD (K:FG) (r:R2) (f:D->D->Option (D×Fl)):Prop:=∀ (a b:It3) (H:Hp) (Q:VK) (p:D×Fl),Arg K H a->Arg K H b->f a.d b.d=some p ->
 (∀ w H',New K H H' (dg [a,b]) w->w.d=p.1->w.f=p.2->Q w.v H')->r a.v b.v H Q
theorem og (w:Wf K G H O Z (Us++T) g) (c:∀ y∈ys,Itm (Us++T) g y) (q:EndE K G W O T Z Q (.ok (.val d f))) :
  ∀ a H',New K H H' (dg ys) a->a.d=d->a.f=f->Q a.v H':=by
 intro a H' n e1 b
 subst e1 b
 exact q a.v H' (w.done c n)
theorem oE (A:OpD K r f) (h:tE K G0 W0 (am f ma mb) O H Q):tOp r (tE K G0 W0 ma) (tE K G0 W0 mb) O H Q:=by
 refine h.use λG W le Z T g o Z' w e q=>?_
 refine tE.seq le w e q.err λra Z1 e1 F H1 #[Ts,g1,z,a1]=>?_
 refine tE.seq le z e1 q.err λrb Z2 v E H2 #[Us,g2,a,a2]=>?_
 obtain ⟨da,t,B⟩:=aY v
 obtain ⟨db,u,D⟩:=aY B
 obtain ⟨p,b,rfl,rfl⟩:=bV D
 obtain ⟨m,i,f1,f2⟩:=a1.item a (λx c=>FC _ (FA _ c)) t
 obtain ⟨n,k,C,f4⟩:=a2.item a (λx c=>FA _ c) u
 subst f1 f2 C f4
 cases l:f m.d n.d with
 | none=>rw[l] at b;exact nsE b
 | some s =>
  rw[l] at b
  cases b
  rw[<- List.append_assoc] at a i k
  refine A m n H2 Q s (a.itm i).arg (a.itm k).arg l (og a (λy j=>?_) q)
  rcases FD.mp j with h | j
  .rw[h];exact i
  .rw[F9.mp j];exact k
def mUn (f:D->Option (D×Fl)) (ma:EM):EM:=ai ma λra=>ai (der ra) λda=>bh ((f da).map λp=>R3.val p.1 p.2)
def UnD (K:FG) (r:V->Hp->VK->Prop) (f:D->Option (D×Fl)):Prop:=∀ (a:It3) (H:Hp) (Q:VK) (p:D×Fl),Arg K H a->f a.d=some p ->
 (∀ w H',New K H H' (dg [a]) w->w.d=p.1->w.f=p.2->Q w.v H')->r a.v H Q
theorem xt (n:UnD K r f) (h:tE K G0 W0 (mUn f ma) O H Q):tUn r (tE K G0 W0 ma) O H Q:=by
 refine h.use λG W le Z T g o Z' w e q=>?_
 refine tE.seq le w e q.err λra Z1 e1 u H1 #[Ts,g1,b,a1]=>?_
 obtain ⟨da,k,t⟩:=aY e1
 obtain ⟨p,a,rfl,rfl⟩:=bV t
 obtain ⟨i,j,f1,f2⟩:=a1.item b (λx l=>FA _ l) k
 subst f1 f2
 cases c:f i.d with
 | none=>rw[c] at a;exact nsE a
 | some s =>
  rw[c] at a
  cases a
  exact n i H1 Q s (b.itm j).arg c (og b (λy m=>by rw[F9.mp m];exact j) q)
def ak:M3 (List R3):=bc []
def aa (m:EM) (ms:M3 (List R3)):M3 (List R3):=ai m λr=>ai ms λrs=>bc (r::rs)
def EndA (K:FG) (G:Gm) (W:D->Sto->Prop) (O:St) (T:List It3) (Z':Sto) (Q:List V->Hp->Prop):Except D (List R3)->Prop
 | .ok rs=>∀ a H' Ts g',Wf K G H' O Z' (Ts++T) g'->Ars O rs a Ts->Q a H'
 | .error e=>W e Z'
theorem EndA.err (h:EndA K G W O T Z' Q r):∀ x,r=.error x->W x Z':=by
 intro x e;subst e;exact h
theorem tA.open (h:tA K G0 W0 m O H Q):∃ G W,Le K G W G0 W0/\∃ Z T g r Z',Wf K G H O Z T g/\m Z=some (r,Z')/\EndA K G W O T Z' Q r:=by
 obtain ⟨G,W,le,Z,T,g,r,Z',w,e,q⟩:=h
 refine #[G,W,le,Z,T,g,r,Z',w,e,?_]
 cases r with
 | ok r=>exact q
 | error x=>exact q
theorem tA.use (h:tA K G0 W0 m O H Q) {P:Prop} (k:∀ G W,Le K G W G0 W0->∀ Z T g r Z',Wf K G H O Z T g->m Z=some (r,Z')->EndA K G W O T Z' Q r->P):P:=by
 obtain ⟨G,W,le,Z,T,g,r,Z',w,e,q⟩:=h.open
 exact k G W le Z T g r Z' w e q
theorem Dg (h:tA K G0 W0 ak O H Q):tNil O H Q:=by
 refine h.use λG W le Z T g r Z' w e q=>?_
 cases e
 exact q [] H [] g w .nil
theorem AE (h:tA K G0 W0 (aa m ms) O H Q):Ci (tE K G0 W0 m) (tA K G0 W0 ms) O H Q:=by
 refine h.use λG W le Z T g r Z' w e q=>?_
 refine tE.seq le w e q.err λra Z1 e1 d H1 #[Ts,g1,c,a1]=>?_
 refine tA.seq le c e1 q.err λrs Z2 b a H2 Us g2 f a2=>?_
 cases b
 refine q (d::a) H2 (Us++Ts) g2 ?_ (.cons a1 a2)
 rw[List.append_assoc]
 exact f
def cW:List R3->M3 (List D)
 | []=>bc []
 | r::rs=>ai (der r) λd=>ai (cW rs) λds=>bc (d::ds)
theorem u3:∀ {rs:List R3} {Z Z':Sto} {o:Except D (List D)},cW rs Z=some (o,Z')->∃ ds,o=.ok ds/\Z'=Z
 | [],Z,Z',o,e=>by cases e;exact #[[],rfl,rfl]
 | r::rs,Z,Z',o,e=>by
  obtain ⟨d,e1,a⟩:=aY (k:=λd=>ai (cW rs) λds=>bc (d::ds)) e
  unfold ai at a
  cases q:cW rs Z with
  | none=>rw[q] at a;exact nsE a
  | some p =>
   obtain ⟨o',Z1⟩:=p
   obtain ⟨ds,rfl,rfl⟩:=u3 q
   rw[q] at a
   cases a
   exact #[d::ds,rfl,rfl]
theorem bR (e:ai (cW rs) k Z=some (o,Z')):∃ ds,cW rs Z=some (.ok ds,Z)/\k ds Z=some (o,Z'):=by
 unfold ai at e
 cases q:cW rs Z with
 | none=>rw[q] at e;exact nsE e
 | some p =>
  obtain ⟨o',Z1⟩:=p
  obtain ⟨ds,rfl,rfl⟩:=u3 q
  rw[q] at e
  exact #[ds,rfl,e]
theorem Ars.items:∀ {rs:List R3} {c:List V} {Ts:List It3} {ds:List D} ,Wf K G H O Z T g->Ars O rs c Ts->(∀ x∈Ts,x∈T)->cW rs Z=some (.ok ds,Z)->∃ ys:List It3,(∀ y∈ys,Itm T g y)/\ys.map (·.d)=ds/\ys.map (·.v)=c
 | [],_,_,ds,w,.nil,_,e=>by cases e;exact #[[],λ_ h=>(by cases h),rfl,rfl]
 | r::rs,_,_,ds,w,.cons a as,hs,e=>by
  obtain ⟨d,e1,j⟩:=aY (k:=λd=>ai (cW rs) λds=>bc (d::ds)) e
  obtain ⟨f,m,o⟩:=bR j
  cases o
  obtain ⟨y,i,f1,f2⟩:=a.item w (λx b=>hs x (FC _ b)) e1
  obtain ⟨ys,n,l,f4⟩:=Ars.items w as (λx b=>hs x (FA _ b)) m
  refine #[y::ys,λz hz=>?_,by simp[f1,l],by simp[f2,f4]]
  rcases FD.mp hz with h | hz
  .rw[h];exact i
  .exact n z hz
def aC (f:List D->Option (D×Fl)) (ms:M3 (List R3)):EM:=ai ms λrs=>ai (cW rs) λds=>bh ((f ds).map λp=>R3.val p.1 p.2)
def cS (K:FG) (r:List V->Hp->VK->Prop) (f:List D->Option (D×Fl)):Prop:=∀ (ys:List It3) (H:Hp) (Q:VK) (p:D×Fl),(∀ y∈ys,Arg K H y)->f (ys.map (·.d))=some p ->
 (∀ w H',New K H H' (dg ys) w->w.d=p.1->w.f=p.2->Q w.v H')->r (ys.map (·.v)) H Q
theorem lD (n:cS K r f) (h:tE K G0 W0 (aC f ms) O H Q):tCB r (tA K G0 W0 ms) O H Q:=by
 refine h.use λG W le Z T g o Z' w e q=>?_
 refine tA.seq le w e q.err λrs Z1 e1 t H1 Ts g1 b a1=>?_
 obtain ⟨ds,j,l⟩:=bR e1
 obtain ⟨p,a,rfl,rfl⟩:=bV l
 obtain ⟨ys,i,f1,f2⟩:=a1.items b (λx k=>FA _ k) j
 subst f1 f2
 cases c:f (ys.map (·.d)) with
 | none=>rw[c] at a;exact nsE a
 | some s =>
  rw[c] at a
  cases a
  exact n ys H1 Q s (λy m=>(b.itm (i y m)).arg) c (og b i q)
def asB:D->Option Bool
 | .bl b=>some b
 | _=>none
def iS (ma mb:EM):EM:=ai ma λra=>ai (der ra) λd=>ai (bh (asB d)) λb=>if b then mb else bc (.val (.bl false) .z)
def mOr (ma mb:EM):EM:=ai ma λra=>ai (der ra) λd=>ai (bh (asB d)) λb=>if b then bc (.val (.bl true) .z) else mb
def qU (ma:EM):EM:=ai ma λra=>ai (der ra) λd=>ai (bh (asB d)) λb=>bc (.val (.bl (!b)) .z)
theorem j5 (e:ai (bh o) k Z=some (r,Z')):∃ a,o=some a/\k a Z=some (r,Z'):=by
 unfold ai bh at e
 cases o with
 | none=>exact nsE e
 | some a=>exact #[a,rfl,e]
theorem Ab (e:asB d=some b):d=.bl b:=by
 cases d <;> first | exact nsE e | cases e
 rfl
theorem Rep.bl_eq (r:Rep K H (.bl b) v L):v=.bl b/\L=[]:=by cases r;exact #[rfl,rfl]
theorem Ar.bool (w:Wf K G H O Z (Ts++T) g) (a:Ar O ra v Ts) (e:der ra Z=some (.ok d,Z)) (h:asB d=some b):v=.bl b:=by
 obtain ⟨y,c,f1,f2⟩:=a.item w (λx f=>FA _ f) e
 have r:=(w.itm c).rep
 rw[f1,Ab h] at r
 rw[<- f2]
 exact r.bl_eq.1
theorem De (h:tE K G0 W0 (iS ma mb) O H Q):Ck (tE K G0 W0 ma) (tE K G0 W0 mb) O H Q:=by
 refine h.use λG W le Z T g o Z' w e q=>?_
 refine tE.seq le w e q.err λra Z1 e1 l H1 #[Ts,g1,a,a1]=>?_
 obtain ⟨d,j,k⟩:=aY e1
 obtain ⟨b,i,f⟩:=j5 k
 refine #[b,a1.bool a j i,?_]
 have c:=a.sub (FN Ts T)
 cases b with
 | true=>exact tE.mk le c f q
 | false=>cases f;exact q _ _ (c.const (.bl false))
theorem Db (h:tE K G0 W0 (qU ma) O H Q):Cf (tE K G0 W0 ma) O H Q:=by
 refine h.use λG W le Z T g o Z' w e q=>?_
 refine tE.seq le w e q.err λra Z1 e1 l H1 #[Ts,g1,a,a1]=>?_
 obtain ⟨d,f,i⟩:=aY e1
 obtain ⟨b,c,k⟩:=j5 i
 refine #[b,a1.bool a f c,?_]
 have j:=a.sub (FN Ts T)
 cases k;exact q _ _ (j.const (.bl (!b)))
def EndT (K:FG) (G:Gm) (W:D->Sto->Prop) (O:St) (T:List It3) (Z':Sto) (Q:Bool->Hp->Prop):Except D Bool->Prop
 | .ok b=>∀ H' g',Wf K G H' O Z' T g'->Q b H'
 | .error e=>W e Z'
theorem EndT.err (h:EndT K G W O T Z' Q r):∀ x,r=.error x->W x Z':=by
 intro x e;subst e;exact h
theorem tT.open (h:tT K G0 W0 m O H Q):∃ G W,Le K G W G0 W0/\∃ Z T g r Z',Wf K G H O Z T g/\m Z=some (r,Z')/\EndT K G W O T Z' Q r:=by
 obtain ⟨G,W,le,Z,T,g,r,Z',w,e,q⟩:=h
 refine #[G,W,le,Z,T,g,r,Z',w,e,?_]
 cases r with
 | ok r=>exact q
 | error x=>exact q
theorem tT.use (h:tT K G0 W0 m O H Q) {P:Prop} (k:∀ G W,Le K G W G0 W0->∀ Z T g r Z',Wf K G H O Z T g->m Z=some (r,Z')->EndT K G W O T Z' Q r->P):P:=by
 obtain ⟨G,W,le,Z,T,g,r,Z',w,e,q⟩:=h.open
 exact k G W le Z T g r Z' w e q
theorem tT.mk (le:Le K G W G0 W0) (w:Wf K G H O Z T g) (e:m Z=some (r,Z')) (h:EndT K G W O T Z' Q r):tT K G0 W0 m O H Q:=by
 refine #[G,W,le,Z,T,g,r,Z',w,e,?_]
 cases r with
 | ok r=>exact h
 | error x=>exact h
def cB (m:EM):M3 Bool:=ai m λr=>ai (der r) λd=>bh (asB d)
theorem tT_b (h:tT K G0 W0 (cB m) O H Q):tB (tE K G0 W0 m) O H Q:=by
 refine h.use λG W le Z T g o Z' w e q=>?_
 refine tE.seq le w e q.err λra Z1 e1 j H1 #[Ts,g1,a,a1]=>?_
 obtain ⟨d,f,i⟩:=aY e1
 obtain ⟨b,c,rfl,rfl⟩:=bV i
 exact #[b,a1.bool a f c,q _ _ (a.sub (FN Ts T))]
def ko (a b:M3 Bool):M3 Bool:=ai a λc=>if c then b else bc false
def cOr (a b:M3 Bool):M3 Bool:=ai a λc=>if c then bc true else b
def dE (a:M3 Bool):M3 Bool:=ai a λc=>bc (!c)
theorem CY (h:tT K G0 W0 (ko a b) O H Q):tAnd (tT K G0 W0 a) (tT K G0 W0 b) O H Q:=by
 refine h.use λG W le Z T g o Z' w e q=>?_
 refine tT.seq le w e q.err λc Z1 e1 H1 g1 d=>?_
 cases c with
 | true=>exact tT.mk le d e1 q
 | false=>cases e1;exact q _ _ d
theorem tT_or (h:tT K G0 W0 (cOr a b) O H Q):tOr (tT K G0 W0 a) (tT K G0 W0 b) O H Q:=by
 refine h.use λG W le Z T g o Z' w e q=>?_
 refine tT.seq le w e q.err λc Z1 e1 H1 g1 d=>?_
 cases c with
 | false=>exact tT.mk le d e1 q
 | true=>cases e1;exact q _ _ d
theorem CW (h:tT K G0 W0 (dE a) O H Q):tNot (tT K G0 W0 a) O H Q:=by
 refine h.use λG W le Z T g o Z' w e q=>?_
 refine tT.seq le w e q.err λc Z1 e1 H1 g1 b=>?_
 cases e1;exact q _ _ b
def mIf (c:M3 Bool) (ma mb:EM):EM:=ai c λb=>if b then ma else mb
theorem tE_if (h:tE K G0 W0 (mIf c ma mb) O H Q):tIf (tT K G0 W0 c) (tE K G0 W0 ma) (tE K G0 W0 mb) O H Q:=by
 refine h.use λG W le Z T g o Z' w e q=>?_
 refine tT.seq le w e q.err λc Z1 e1 H1 g1 a=>?_
 cases c with
 | true=>exact tE.mk le a e1 q
 | false=>exact tE.mk le a e1 q
end
def df (x:It3):It3:={ x with f:=.z }
theorem cJ:NoRoot (df x) y:=λh=>absurd rfl h
def lowAt (i:Nat) (Z:Sto):Sto:=match (Z[i]?).join with
 | some (d,.u)=>Z.set i #v[d]
 | some (d,.l)=>Z.set i #v[d]
 | _=>Z
noncomputable def frz (is:List Nat) (Z:Sto):Sto:=is.foldl (λZ i=>lowAt i Z) Z
def wv (is:List Nat):M3 Unit:=λZ=>some (.ok (),frz is Z)
def pls:List R3->List Nat
 | []=>[]
 | .pl i::rs=>i::pls rs
 | .val _ _::rs=>pls rs
section
variable {K:FG} {G G0:Gm} {W W0:D->Sto->Prop} {H H':Hp} {O:St} {Z Z':Sto} {T T':List It3} {g:Nat->Option It3} {x y z:It3} {α β:Type}
theorem ItOk.low (h:ItOk K G H x):ItOk K G H (df x):=#[h.rep,λq=>absurd rfl q,h.src]
theorem cM {i j:Nat} (hi:i < Z.length):((Z.set i o)[j]?).join=if j=i then o else (Z[j]?).join:=by grind
theorem fP {i:Nat} (h:(Z[i]?).join=some p):i < Z.length:=by grind
theorem Wf.lowSlot (w:Wf K G H O Z T g) {i:Nat} (e:(Z[i]?).join=some (d,f)):Wf K G H O (Z.set i #v[d]) T (λj=>if j=i then (g i).map df else g j):=by
 have hi:=fP e
 obtain ⟨y,B,A,C,ev⟩:=w.slot e
 have val:∀ j x,(if j=i then (g i).map df else g j)=some x->∃ x0,g j=some x0/\(x=x0\/x=df x0)/\(j=i->x=df x0):=λj x h=>by
  grind
 have s:∀ {a b:It3},NoRoot a b->∀ l o,(l=a\/l=df a)->(o=b\/o=df b)->NoRoot l o:=λh l o h1 h2=>by
  rcases h1 with rfl | rfl
  .rcases h2 with rfl | rfl
   .exact h
   .exact h
  .exact cJ
 refine #[by rw[List.length_set];exact w.len,λj=>?_,λj x h=>?_,λj x h=>?_,w.okT,λj k a b n h1 h2=>?_,λj a h b m=>?_,w.tt,w.base,w.pro,#[w.fx.frT,λj x h u hf a v=>?_,w.fx.bin,w.fx.ob,λj x h t=>?_]]
 .rw[cM hi]
  by_cases q:j=i
  .subst q
   rw[if_pos rfl,if_pos rfl,B]
   show some ((df y).d,Fl.z)=_
   rw[<- A];rfl
  .rw[if_neg q,if_neg q];exact w.sl j
 .obtain ⟨x0,h0,c,_⟩:=val j x h
  have:=w.sv j x0 h0
  rcases c with rfl | rfl <;> exact this
 .obtain ⟨x0,h0,c,_⟩:=val j x h
  rcases c with rfl | rfl
  .exact w.okS j x h0
  .exact (w.okS j x0 h0).low
 .obtain ⟨a0,h0,p,_⟩:=val j a h1
  obtain ⟨b0,r,m,_⟩:=val k b h2
  exact s (w.ss j k a0 b0 n h0 r) a b p m
 .obtain ⟨a0,h0,p,_⟩:=val j a h
  exact #[s (w.st j a0 h0 b m).1 a b p (.inl rfl),s (w.st j a0 h0 b m).2 b a (.inl rfl) p]
 .obtain ⟨x0,h0,c,_⟩:=val j x h
  rcases c with rfl | rfl
  .exact w.fx.frS j x h0 u hf a v
  .exact absurd rfl hf
 .obtain ⟨x0,h0,c,_⟩:=val j x h
  rcases c with rfl | rfl
  .exact w.fx.lvS j x h0 t
  .cases t
def Kin (x y:It3):Prop:=y.d=x.d/\y.v=x.v/\y.L=x.L/\(y.f=x.f\/y.f=.z)
theorem Kin.refl (x:It3):Kin x x:=#[rfl,rfl,rfl,.inl rfl]
theorem Kin.trans (a:Kin x y) (b:Kin y z):Kin x z:=⟨b.1.trans a.1,b.2.1.trans a.2.1,b.2.2.1.trans a.2.2.1,by
 rcases b.2.2.2 with h | h
 .rcases a.2.2.2 with h' | h'
  .exact .inl (h.trans h')
  .exact .inr (h.trans h')
 .exact .inr h⟩
theorem Wf.lowAt {i:Nat} (w:Wf K G H O Z T g):∃ g',Wf K G H O (lowAt i Z) T g'/\(∀ j y,g j=some y->∃ a,g' j=some a/\Kin y a/\(j=i->a.f=.z)):=by
 have keep:∀ d,(Z[i]?).join=#v[d]->∃ g',Wf K G H O Z T g'/\(∀ j y,g j=some y->∃ a,g' j=some a/\Kin y a/\(j=i->a.f=.z)):=λd e=>⟨g,w,λj y h=>⟨y,h,Kin.refl y,λq=>by
  subst q
  obtain ⟨a,h',_,hf,_⟩:=w.slot e
  rw[h] at h';cases h';exact hf⟩⟩
 have low:∀ d f,(Z[i]?).join=some (d,f)->∃ g',Wf K G H O (Z.set i #v[d]) T g'/\(∀ j y,g j=some y->∃ a,g' j=some a/\Kin y a/\(j=i->a.f=.z)):=λd f e=>⟨_,w.lowSlot e,λj y h=>by
  by_cases q:j=i
  .subst q;exact #[df y,by rw[if_pos rfl,h];rfl,#[rfl,rfl,rfl,.inr rfl],λ_=>rfl]
  .exact ⟨y,by rw[if_neg q];exact h,Kin.refl y,λz=>absurd z q⟩⟩
 unfold L3.lowAt
 cases e:(Z[i]?).join with
 | none =>
  refine #[g,w,λj y h=>#[y,h,Kin.refl y,λq=>?_]]
  subst q
  have:=w.sl j
  rw[h,e] at this;cases this
 | some p =>
  obtain ⟨d,f⟩:=p
  cases f with
  | u=>exact low d _ e
  | l=>exact low d _ e
  | z=>exact keep d e
theorem Wf.frz:∀ {is:List Nat} {Z:Sto} {g:Nat->Option It3},Wf K G H O Z T g->∃ g',Wf K G H O (frz is Z) T g'/\(∀ j y,g j=some y->∃ a,g' j=some a/\Kin y a/\(j∈is->a.f=.z))
 | [],Z,g,w=>#[g,w,λj y h=>#[y,h,Kin.refl y,λq=>by cases q]]
 | i::is,Z,g,w=>by
  obtain ⟨g1,e,h1⟩:=w.lowAt (i:=i)
  obtain ⟨g2,k,h2⟩:=Wf.frz (is:=is) e
  refine #[g2,k,λj y h=>?_]
  obtain ⟨l,e1,k1,b⟩:=h1 j y h
  obtain ⟨m,d,k2,c⟩:=h2 j l e1
  refine #[m,d,k1.trans k2,λhm=>?_]
  rcases FD.mp hm with q | q
  .rcases k2.2.2.2 with h | h
   .exact h.trans (b q)
   .exact h
  .exact c q
theorem Wf.lowT (w:Wf K G H O Z (Ts++T) g):Wf K G H O Z (Ts.map df++T) g:=by
 have sp:∀ {a b:It3},Apart3 a b->Apart3 (df a) (df b):=λh=>#[cJ,cJ]
 refine #[w.len,w.sl,w.sv,w.okS,λx c=>?_,w.ss,λi x e y d=>?_,?_,w.base,w.pro,#[λx c hf a f=>?_,w.fx.frS,w.fx.bin,w.fx.ob,w.fx.lvS]]
 .rcases FH.mp c with h | h
  .obtain ⟨x0,h0,rfl⟩:=FO.mp h
   exact (w.okT x0 (FA _ h0)).low
  .exact w.okT x (FC _ h)
 .rcases FH.mp d with h | h
  .obtain ⟨y0,h0,rfl⟩:=FO.mp h
   exact #[(w.st i x e y0 (FA _ h0)).1,cJ]
  .exact w.st i x e y (FC _ h)
 .have h:=List.pairwise_append.mp w.tt
  refine List.pairwise_append.mpr #[?_,h.2.1,λa j b k=>?_]
  .grind
  .obtain ⟨a0,h0,rfl⟩:=FO.mp j
   exact #[cJ,(h.2.2 a0 h0 b k).2]
 .rcases FH.mp c with h | h
  .obtain ⟨x0,h0,rfl⟩:=FO.mp h
   exact absurd rfl hf
  .exact w.fx.frT x (FC _ h) hf a f
theorem lh:∀ {rs:List R3} {i:Nat},R3.pl i∈rs->i∈pls rs
 | [],_,h=>by cases h
 | .pl j::rs,i,h=>by
  rcases FD.mp h with e | h
  .cases e;exact Fv
  .exact Fw _ (lh h)
 | .val _ _::rs,i,h=>by
  rcases FD.mp h with e | h
  .cases e
  .exact lh (rs:=rs) h
theorem Ars.given:∀ {rs:List R3} {l:List V} {Ts:List It3} {ds:List D} {S:List It3} {g':Nat->Option It3} {is:List Nat},Wf K G H O Z T g->(∀ j y,g j=some y->∃ b,g' j=some b/\Kin y b/\(j∈is->b.f=.z))->(∀ i,R3.pl i∈rs->i∈is) ->
  Ars O rs l Ts->(∀ x∈Ts,x∈T)->(∀ x∈Ts,df x∈S)->cW rs Z=some (.ok ds,Z)->∃ ys:List It3,(∀ y∈ys,Itm S g' y/\y.f=.z)/\ys.map (·.d)=ds/\ys.map (·.v)=l
 | [],_,_,ds,S,g',is,w,hg,hi,.nil,_,_,e=>by cases e;exact #[[],λ_ h=>(by cases h),rfl,rfl]
 | r::rs,_,_,ds,S,g',is,w,hg,hi,.cons (v:=v0) a as,hs,hS,e=>by
  obtain ⟨d,e1,A⟩:=aY (k:=λd=>ai (cW rs) λds=>bc (d::ds)) e
  obtain ⟨t,C,I⟩:=bR A
  cases I
  obtain ⟨ys,E,B,f4⟩:=Ars.given w hg (λi h=>hi i (Fw _ h)) as (λx c=>hs x (FA _ c)) (λx c=>hS x (FA _ c)) C
  have one:∃ y,(Itm S g' y/\y.f=.z)/\y.d=d/\y.v=v0:=by
   cases a with
   | @pl i v h =>
    have n:der (.pl i) Z=((Z[i]?).join).map λp=>(.ok p.1,Z):=rfl
    rw[n] at e1
    cases q:(Z[i]?).join with
    | none=>rw[q] at e1;exact nsE e1
    | some p =>
     rw[q] at e1
     obtain ⟨y,s,F,J,m⟩:=w.slot (d:=p.1) (f:=p.2) q
     obtain ⟨b,h1,h2,h3⟩:=hg i y s
     have o:p.1=d:=by cases e1;rfl
     rw[h] at m
     refine #[b,#[.inl #[i,h1],h3 (hi i Fv)],h2.1.trans (F.trans o),?_]
     rw[h2.2.1];cases m;rfl
   | val x=>cases e1;exact #[df x,#[.inr (hS x (by simp)),rfl],rfl,rfl]
  obtain ⟨y,u,f1,f2⟩:=one
  refine #[y::ys,λz hz=>?_,by simp[f1,B],by simp[f2,f4]]
  rcases FD.mp hz with h | hz
  .rw[h];exact u
  .exact E z hz
def cX (ys:List It3) (c:Addr):Prop:=∃ y∈ys,c∈y.L
def gives (rs:List R3):M3 (List D):=ai (cW rs) λds=>ai (wv (pls rs)) λ_=>bc ds
theorem Ars.gives (w:Wf K G H O Z (Ts++T) g) (a:Ars O rs vs Ts) (e:ai (gives rs) k Z=some (r,Z')) :
  ∃ ds Z1 g1,k ds Z1=some (r,Z')/\Z1=frz (pls rs) Z/\Wf K G H O Z1 (Ts.map df++T) g1/\(∀ j y,g j=some y->∃ c,g1 j=some c/\Kin y c)/\∃ ys:List It3,(∀ y∈ys,Itm (Ts.map df++T) g1 y/\y.f=.z)/\ys.map (·.d)=ds/\ys.map (·.v)=vs:=by
 unfold L3.gives at e
 have s:ai (cW rs) (λds=>ai (wv (pls rs)) λ_=>k ds) Z=some (r,Z'):=by
  rw[<- e]
  unfold ai
  cases q:cW rs Z with
  | none=>rfl
  | some p =>
   obtain ⟨o,Z2⟩:=p
   cases o with
   | error x=>rfl
   | ok ds=>rfl
 obtain ⟨ds,m,e1⟩:=bR s
 obtain ⟨g1,n,h1⟩:=Wf.frz (is:=pls rs) w
 refine #[ds,L3.frz (pls rs) Z,g1,e1,rfl,n.lowT,λj y h=>let #[c,a,b,_]:=h1 j y h;#[c,a,b],?_]
 exact Ars.given w h1 (λi h=>lh h) a (λx l=>FA _ l) (λx l=>FA _ (FO.mpr #[x,l,rfl])) m
theorem Wf.alls (w:Wf K G H O Z T g) (a:∀ y∈ys,Itm T g y/\y.f=.z) (h:cX ys c):dN T g c/\(G.H0 c=none\/G.src c):=by
 obtain ⟨y,m,b⟩:=h
 exact #[w.kid (a y m).1 b λhf=>absurd (a y m).2 hf,(w.itm (a y m).1).src c b]
theorem Wf.doneA (w:Wf K G H O Z (Us++T) g) (a:∀ y∈ys,Itm (Us++T) g y/\y.f=.z) (n:New K H H' (cX ys) x):Got K G O Z T (.val x.d x.f) x.v H' :=
 #[[x],g,(w.push n λc h=>w.alls a h).sub (by simpa using List.Sublist.cons_cons x (FN Us T)),.val x]
theorem lc:∀ {ys:List It3},(∀ y∈ys,Rep K H y.d y.v y.L)->Reps (Rep K H) (ys.map (·.d)) (ys.map (·.v)) (ys.map (·.L)).flatten
 | [],_=>.nil
 | y::ys,h=>.cons (h y Fv) (lc λz hz=>h z (Fw _ hz))
theorem fc (h:c∈(ys.map (·.L)).flatten):cX ys c:=by
 obtain ⟨l,b,d⟩:=List.mem_flatten.mp h
 obtain ⟨y,a,rfl⟩:=FO.mp b
 exact #[y,a,d]
noncomputable def qT (mk:List D->D) (f:Fl) (ms:M3 (List R3)):EM:=ai ms λrs=>ai (gives rs) λds=>bh (if ds.length<=16777216 then some (.val (mk ds) f) else none)
abbrev bg:M3 (List R3)->EM:=qT .tup .z
abbrev cw:M3 (List R3)->EM:=qT .lst .u
theorem bz (h:H p=none):Same H (upd H p o):=λb u e=>by
 rw[aw (aV e h)];exact e
theorem Da (hz:(16777216:Nat)=sizeLine) (h:tE K G0 W0 (bg ms) O H Q):tTup (tA K G0 W0 ms) O H Q:=by
 refine h.use λG W le Z T g o Z' w e q=>?_
 refine tA.seq le w e q.err λrs Z1 e1 r H1 Ts g1 m a1=>?_
 obtain ⟨ds,Z2,g2,l,_,j,_,ys,i,f1,f2⟩:=a1.gives m e1
 obtain ⟨v,a,rfl,rfl⟩:=bV l
 subst f1 f2
 split at a
 .rename_i n
  cases a
  refine #[by rw[FJ] at n ⊢;lia,λp f=>?_]
  refine q _ _ (Wf.doneA (x:=#[.tup (ys.map (·.d)),.ref p,(ys.map (·.L)).flatten,.z]) j i #[bz f,.tup aF ((lc λy b=>(j.itm (i y b).1).rep).same (bz f)),λc k=>.inr (fc k),λhf=>absurd rfl hf])
 .exact nsE a
theorem Dd (hz:(16777216:Nat)=sizeLine) (h:tE K G0 W0 (cw ms) O H Q):tLst (tA K G0 W0 ms) O H Q:=by
 refine h.use λG W le Z T g o Z' w e q=>?_
 refine tA.seq le w e q.err λrs Z1 e1 s H1 Ts g1 n a1=>?_
 obtain ⟨ds,Z2,g2,m,_,i,_,ys,f,f1,f2⟩:=a1.gives n e1
 obtain ⟨v,j,rfl,rfl⟩:=bV m
 subst f1 f2
 split at j
 .rename_i r
  cases j
  refine #[by rw[FJ] at r ⊢;lia,λp b=>?_]
  have np:p ∉ (ys.map (·.L)).flatten:=λa=>by
   obtain ⟨y,hm,a⟩:=fc a
   obtain ⟨o,l⟩:=((i.itm (f y hm).1).rep.inH p a).ex
   rw[b] at l;exact nsE l
  refine q _ _ (Wf.doneA (x:=#[.lst (ys.map (·.d)),.ref p,p::(ys.map (·.L)).flatten,.u]) i f #[bz b,.lst aF ((lc λy k=>(i.itm (f y k).1).rep).same (bz b)),λc a=>?_,λ_=>#[rfl,p,_,rfl,rfl,np,b]])
  rcases FD.mp a with e | a
  .rw[e];exact .inl b
  .exact .inr (fc a)
 .exact nsE j
end
section
variable {K:FG} {G G0:Gm} {W W0:D->Sto->Prop} {H H':Hp} {O:St} {Z Z':Sto} {T T':List It3} {g:Nat->Option It3} {x y z:It3} {α β:Type}
def EndS (K:FG) (G:Gm) (W:D->Sto->Prop) (T:List It3) (Z':Sto) (E:Ends):Except D Flw->Prop
 | .ok .nx=>∀ O' H' g',Wf K G H' O' Z' T g'->E.nx O' H'
 | .ok .br=>∀ O' H' g',Wf K G H' O' Z' T g'->E.bk O' H'
 | .ok .ct=>∀ O' H' g',Wf K G H' O' Z' T g'->E.ct O' H'
 | .ok (.rt d f)=>∀ x O' H' g',Wf K G H' O' Z' (x::T) g'->x.d=d->x.f=f->E.rt x.v H'
 | .error e=>W e Z'
theorem EndS.err (h:EndS K G W T Z' E r):∀ x,r=.error x->W x Z':=by
 intro x e;subst e;exact h
theorem tS.open (h:tS K G0 W0 m E O H):∃ G W,Le K G W G0 W0/\∃ Z T g r Z',Wf K G H O Z T g/\m Z=some (r,Z')/\EndS K G W T Z' E r:=by
 obtain ⟨G,W,le,Z,T,g,r,Z',w,e,q⟩:=h
 refine #[G,W,le,Z,T,g,r,Z',w,e,?_]
 cases r with
 | ok r=>cases r <;> exact q
 | error x=>exact q
theorem tS.use (h:tS K G0 W0 m E O H) {P:Prop} (k:∀ G W,Le K G W G0 W0->∀ Z T g r Z',Wf K G H O Z T g->m Z=some (r,Z')->EndS K G W T Z' E r->P):P:=by
 obtain ⟨G,W,le,Z,T,g,r,Z',w,e,q⟩:=h.open
 exact k G W le Z T g r Z' w e q
theorem tS.mk (le:Le K G W G0 W0) (w:Wf K G H O Z T g) (e:m Z=some (r,Z')) (h:EndS K G W T Z' E r):tS K G0 W0 m E O H:=by
 refine #[G,W,le,Z,T,g,r,Z',w,e,?_]
 cases r with
 | ok r=>cases r <;> exact h
 | error x=>exact h
def bW:SM:=bc .nx
noncomputable def aH (a b:SM):SM:=ai a λf=>match f with
 | .nx=>b
 | o=>bc o
theorem C5 (h:tS K G0 W0 bW E O H):Cg E O H:=by
 refine h.use λG W le Z T g r Z' w e q=>?_
 cases e
 exact q _ _ _ w
theorem C2 (h:tS K G0 W0 (aH a b) E O H):tSeq (tS K G0 W0 a) (tS K G0 W0 b) E O H:=by
 refine h.use λG W le Z T g r Z' w e q=>?_
 unfold aH ai at e
 cases p:a Z with
 | none=>rw[p] at e;exact nsE e
 | some p' =>
  obtain ⟨o,Z1⟩:=p'
  rw[p] at e
  cases o with
  | error x=>cases e;exact tS.mk le w p q
  | ok f =>
   cases f with
   | nx=>exact tS.mk le (r:=.ok .nx) w p λO' H' g' c=>tS.mk le c e q
   | br=>cases e;exact tS.mk le w p q
   | ct=>cases e;exact tS.mk le w p q
   | rt d f=>cases e;exact tS.mk le w p q
def f9 (m:EM):SM:=ai m λ_=>bc .nx
theorem Av (h:tS K G0 W0 (f9 m) E O H):Ch (tE K G0 W0 m) E O H:=by
 refine h.use λG W le Z T g r Z' w e q=>?_
 refine tE.seq le w e q.err λra Z1 e1 v H1 #[Ts,g1,a,a1]=>?_
 cases e1
 exact q _ _ _ (a.sub (FN Ts T))
def sIf (c:M3 Bool) (a b:SM):SM:=ai c λt=>if t then a else b
theorem tS_if (h:tS K G0 W0 (sIf c a b) E O H):tIfS (tT K G0 W0 c) (tS K G0 W0 a) (tS K G0 W0 b) E O H:=by
 refine h.use λG W le Z T g r Z' w e q=>?_
 refine tT.seq le w e q.err λt Z1 e1 H1 g1 d=>?_
 cases t with
 | true=>exact tS.mk le d e1 q
 | false=>exact tS.mk le d e1 q
def nol:Fl->Fl
 | .u=>.u
 | _=>.z
theorem Ev (f:Fl):nol f≠.l:=by cases f <;> intro h <;> cases h
theorem Eu (f:Fl):nol f=f\/nol f=.z:=by cases f <;> first | exact .inl rfl | exact .inr rfl
noncomputable def dF (r:R3):M3 (D×Fl):=match r with
 | .val d f=>bc (d,nol f)
 | .pl i=>λZ=>((Z[i]?).join).map λp=>(.ok (p.1,.z),lowAt i Z)
theorem p6 {i:Nat}:dF (.pl i) Z=((Z[i]?).join).map λp=>(.ok (p.1,.z),lowAt i Z):=rfl
theorem Ar.val_inv (a:Ar O (.val d f) v Ts):∃ x,Ts=[x]/\x.d=d/\x.f=f/\x.v=v:=by
 generalize h:R3.val d f=r at a
 cases a with
 | pl _=>cases h
 | val x=>cases h;exact #[x,rfl,rfl,rfl,rfl]
theorem Ar.take (w:Wf K G H O Z (Ts++T) g) (a:Ar O r v Ts) (e:ai (dF r) k Z=some (o,Z')) :
  ∃ p Z1 g1 x,k p Z1=some (o,Z')/\Wf K G H O Z1 (x::T) g1/\x.d=p.1/\(p.2=x.f\/p.2=.z)/\p.2≠.l/\x.v=v:=by
 cases a with
 | val x=>exact #[(x.d,nol x.f),Z,g,x,e,w,rfl,Eu _,Ev _,rfl]
 | @pl i v h =>
  unfold ai at e
  rw[p6] at e
  cases q:(Z[i]?).join with
  | none=>rw[q] at e;exact nsE e
  | some p =>
   rw[q] at e
   obtain ⟨y,F,I,J,B⟩:=w.slot (d:=p.1) (f:=p.2) q
   obtain ⟨g1,b,h1⟩:=w.lowAt (i:=i)
   obtain ⟨c,m,A,C⟩:=h1 i y F
   have hz:=C rfl
   refine #[(p.1,.z),_,g1,c,e,?_,A.1.trans I,.inr rfl,(by intro h;cases h),?_]
   .have s:∀ u:It3,NoRoot c u:=λu hf=>absurd hz hf
    refine #[b.len,b.sl,b.sv,b.okS,λu hu=>?_,b.ss,λj u n E hu=>?_,?_,b.base,b.pro,#[λu hu hf a D=>?_,b.fx.frS,b.fx.bin,b.fx.ob,b.fx.lvS]]
    .rcases FD.mp hu with h | hu
     .rw[h];exact b.okS i c m
     .exact b.okT u hu
    .rcases FD.mp hu with h | hu
     .rw[h]
      refine #[?_,s _]
      by_cases t:j=i
      .subst t
       rw[m] at n;cases n
       exact s _
      .exact b.ss j i u c t n m
     .exact b.st j u n E hu
    .exact List.pairwise_cons.mpr #[λu hu=>#[s _,(b.st i c m u hu).2],b.tt]
    .rcases FD.mp hu with h | hu
     .rw[h] at hf;exact absurd hz hf
     .exact b.fx.frT u hu hf a D
   .rw[A.2.1]
    rw[h] at B;cases B;rfl
theorem Wf.store {i:Nat} (w:Wf K G H O Z (x::T) g) (hi:i < Z.length) (J:G.pr i=false) (hf:f=x.f\/f=.z) (B:f≠.l) :
  Wf K G H (O.set i (some x.v)) (Z.set i (some (x.d,f))) T (λj=>if j=i then some { x with f:=f } else g j):=by
 have y:i < O.length:=by rw[w.len];exact hi
 have A:=List.pairwise_cons.mp w.tt
 have t:=w.okT x Fv
 have nx:∀ u:It3,NoRoot x u->NoRoot { x with f:=f } u:=λu h q=>by
  rcases hf with e | e
  .exact h (by rw[<- e];exact q)
  .exact absurd e q
 have val:∀ j u,(if j=i then some { x with f:=f } else g j)=some u->(j=i/\u={ x with f:=f })\/(j≠i/\g j=some u):=λj u h=>by
  by_cases q:j=i
  .rw[if_pos q] at h;cases h;exact .inl #[q,rfl]
  .rw[if_neg q] at h;exact .inr #[q,h]
 refine #[by rw[List.length_set,List.length_set];exact w.len,λj=>?_,λj u h=>?_,λj u h=>?_,λu hu=>w.okT u (Fw _ hu),λj k a b n h1 h2=>?_,λj a h b C=>?_,A.2,w.base,λj r=>?_,#[λu hu=>w.fx.frT u (Fw _ hu),λj u h s c a p=>?_,w.fx.bin,w.fx.ob,λj u h F=>?_]]
 .rw[cM hi]
  by_cases q:j=i
  .rw[if_pos q,if_pos q];rfl
  .rw[if_neg q,if_neg q];exact w.sl j
 .rcases val j u h with ⟨rfl,rfl⟩ | ⟨n,h⟩
  .rw[List.getElem?_set_self y]
  .rw[List.getElem?_set_ne (λz=>n z.symm)];exact w.sv j u h
 .rcases val j u h with ⟨rfl,rfl⟩ | ⟨n,h⟩
  .refine #[t.rep,λq=>?_,t.src]
   rcases hf with e | e
   .subst e
    exact t.own q
   .exact absurd e q
  .exact w.okS j u h
 .rcases val j a h1 with ⟨L,p⟩ | ⟨M,o⟩
  .rcases val k b h2 with ⟨E,D⟩ | ⟨I,m⟩
   .exact absurd (L.trans E.symm) n
   .rw[p];exact nx b (w.st k b m x Fv).2
  .rcases val k b h2 with ⟨E,D⟩ | ⟨I,m⟩
   .rw[D];exact (w.st j a o x Fv).1
   .exact w.ss j k a b n o m
 .rcases val j a h with ⟨rfl,rfl⟩ | ⟨n,h⟩
  .exact #[nx b (A.1 b C).1,(A.1 b C).2]
  .exact w.st j a h b (Fw _ C)
 .have n:j≠i:=λz=>by subst z;rw[J] at r;cases r
  rw[List.getElem?_set_ne (λz=>n z.symm)];exact w.pro j r
 .rcases val j u h with ⟨_,rfl⟩ | ⟨n,h⟩
  .rcases hf with e | e
   .exact w.fx.frT x Fv (by rw[<- e];exact c) a p
   .exact absurd e c
  .exact w.fx.frS j u h s c a p
 .rcases val j u h with ⟨_,rfl⟩ | ⟨n,h⟩
  .exact absurd F B
  .exact w.fx.lvS j u h F
def aX (i:Nat) (m:EM):SM:=ai m λr=>ai (dF r) λp=>λZ=>if i < Z.length then some (.ok .nx,Z.set i (some p)) else none
theorem C0 {i:Nat} (b:G0.pr i=false) (h:tS K G0 W0 (aX i m) E O H):xv (tE K G0 W0 m) (uX i) E O H:=by
 refine h.use λG W le Z T g r Z' w e q=>?_
 refine tE.seq le w e q.err λra Z1 e1 v H1 #[Ts,g1,c,a1]=>?_
 obtain ⟨p,Z2,g2,x,a,d,f1,f2,f4,j⟩:=a1.take c e1
 split at a
 .rename_i hi
  cases a
  have:=d.store (f:=p.2) hi (by rw[le.pr];exact b) f2 f4
  rw[f1,j] at this
  exact q _ _ _ this
 .exact nsE a
def aP (np:Nat) (m:EM):SM:=ai m λr=>match r with
 | .val d f=>bc (.rt d f)
 | .pl i=>λZ=>match (Z[i]?).join with
  | some (d,.u)=>if i < np then some (.ok (.rt d .z),lowAt i Z) else some (.ok (.rt d .u),Z.set i none)
  | some (d,_)=>some (.ok (.rt d .z),lowAt i Z)
  | none=>none
def ue:SM:=bc (.rt .non .z)
theorem Wf.move {i:Nat} (w:Wf K G H O Z T g) (f:G.pr i=false) (e:g i=some y):Wf K G H O (Z.set i none) (y::T) (λj=>if j=i then none else g j):=by
 have hi:i < Z.length:=by
  have:=w.sl i
  rw[e] at this
  exact fP this.symm
 have val:∀ j u,(if j=i then none else g j)=some u->j≠i/\g j=some u:=λj u h=>by
  grind
 refine #[by rw[List.length_set];exact w.len,λj=>?_,λj u h=>w.sv j u (val j u h).2,λj u h=>w.okS j u (val j u h).2,λu hu=>?_,λj k a b n h1 h2=>w.ss j k a b n (val j a h1).2 (val k b h2).2,λj a h b c=>?_,?_,w.base,w.pro,#[λu hu hf a d=>?_,λj u h=>w.fx.frS j u (val j u h).2,w.fx.bin,w.fx.ob,λj u h=>w.fx.lvS j u (val j u h).2]]
 .rw[cM hi]
  by_cases q:j=i
  .rw[if_pos q,if_pos q];rfl
  .rw[if_neg q,if_neg q];exact w.sl j
 .rcases FD.mp hu with h | hu
  .rw[h];exact w.okS i y e
  .exact w.okT u hu
 .obtain ⟨n,h⟩:=val j a h
  rcases FD.mp c with h' | c
  .rw[h'];exact #[w.ss j i a y n h e,w.ss i j y a (Ne.symm n) e h]
  .exact w.st j a h b c
 .exact List.pairwise_cons.mpr #[λu hu=>w.st i y e u hu,w.tt]
 .rcases FD.mp hu with h | hu
  .subst h;exact w.fx.frS i u e f hf a d
  .exact w.fx.frT u hu hf a d
theorem C3 {np:Nat} (n:∀ i,np<=i->G0.pr i=false) (h:tS K G0 W0 (aP np m) E O H):tRet (tE K G0 W0 m) E O H:=by
 refine h.use λG W le Z T g r Z' w e q=>?_
 refine tE.seq le w e q.err λra Z1 e1 v H1 #[Ts,g1,j,a1]=>?_
 have low:∀ {i:Nat} {d:D} {f:Fl},(Z1[i]?).join=some (d,f)->some ((.ok (.rt d .z),lowAt i Z1):Except D Flw×Sto)=some (r,Z')->Ar O (.pl i) v Ts->E.rt v H1:=λ{i d f} b F a=>by
  cases F
  have J:ai (dF (.pl i)) (λp=>bc (Flw.rt p.1 p.2)) Z1=some (.ok (.rt d .z),L3.lowAt i Z1):=by
   unfold ai
   rw[p6,b]
   rfl
  obtain ⟨p,Z2,g2,x,k,s,f1,f2,_,I⟩:=a.take j J
  have c:Flw.rt p.1 p.2=Flw.rt d .z/\Z2=L3.lowAt i Z1:=by
   unfold bc at k
   injection k with k
   injection k with c o
   injection c with c
   exact #[c,o]
  obtain ⟨c,o⟩:=c
  injection c with e7 e8
  subst o
  rw[<- I]
  have A:=Wf.lowT (Ts:=[x]) s
  exact q (df x) O H1 g2 A (f1.trans e7) rfl
 cases a1 with
 | val x=>cases e1;exact q x O H1 g1 j rfl rfl
 | @pl i v h =>
  dsimp only at e1
  cases b:(Z1[i]?).join with
  | none=>rw[b] at e1;exact nsE e1
  | some p =>
   obtain ⟨d,f⟩:=p
   rw[b] at e1
   cases f with
   | u =>
    dsimp only at e1
    split at e1
    .exact low b e1 (.pl h)
    .cases e1
     obtain ⟨y,C,L,B,t⟩:=j.slot b
     have s:=Wf.move j (by rw[le.pr];exact n i (by lia)) C
     have:=q y O H1 _ s L B
     rw[h] at t
     cases t
     exact this
   | l=>exact low b e1 (.pl h)
   | z=>exact low b e1 (.pl h)
def b7 (c:M3 Bool) (b:SM):Nat->SM
 | 0=>λ_=>none
 | n+1=>ai c λt=>if t then ai b (λf=>match f with
   | .nx=>b7 c b n
   | .ct=>b7 c b n
   | .br=>bc .nx
   | .rt d f=>bc (.rt d f)) else bc .nx
def gz (c:M3 Bool) (b:SM):SM:=λZ=>open Classical in if h:∃ n r,b7 c b n Z=some r then some (Classical.choose (Classical.choose_spec h)) else none
theorem gl:∀ {n:Nat} {Z:Sto} {r:Except D Flw×Sto},b7 c b n Z=some r->b7 c b (n+1) Z=some r
 | 0,Z,r,e=>by cases e
 | n+1,Z,r,e=>by
  unfold b7 at e ⊢
  unfold ai at e ⊢
  cases h:c Z with
  | none=>rw[h] at e;exact nsE e
  | some p =>
   obtain ⟨o,Z1⟩:=p
   rw[h] at e
   cases o with
   | error x=>exact e
   | ok t =>
    cases t with
    | false=>exact e
    | true =>
     simp only[if_true] at e ⊢
     cases h2:b Z1 with
     | none=>rw[h2] at e;exact nsE e
     | some p2 =>
      obtain ⟨a,Z2⟩:=p2
      rw[h2] at e
      cases a with
      | error x=>exact e
      | ok f =>
       cases f with
       | nx=>exact gl (n:=n) e
       | ct=>exact gl (n:=n) e
       | br=>exact e
       | rt d f=>exact e
theorem jS {n m:Nat} (h:n<=m) (e:b7 c b n Z=some r):b7 c b m Z=some r:=by
 induction h with
 | refl=>exact e
 | step _ ih=>exact gl ih
theorem qg (e:gz c b Z=some r):∃ n,b7 c b n Z=some r:=by
 unfold gz at e
 split at e
 .grind
 .exact nsE e
theorem xo (h:tS K G0 W0 (gz c b) E O H):xl (tT K G0 W0 c) (tS K G0 W0 b) E O H:=by
 refine h.use λG W le Z T g r Z' w e q=>?_
 obtain ⟨n,e⟩:=qg e
 refine #[λm O H=>∃ Z g,Wf K G H O Z T g/\b7 c b m Z=some (r,Z'),#[n,Z,g,w,e],?_]
 rintro m O1 H1 ⟨Z1,g1,k,e1⟩
 cases m with
 | zero=>exact nsE e1
 | succ m =>
  unfold b7 at e1
  refine tT.seq le k e1 q.err λt Z2 a H2 g2 i=>?_
  cases t with
  | false=>cases a;exact q _ _ _ i
  | true =>
   refine #[λO H=>∃ Z g,Wf K G H O Z T g/\b7 c b m Z=some (r,Z'),λO' H' h=>#[m,Nat.lt_succ_self m,h],?_]
   simp only[if_true] at a
   unfold ai at a
   cases p:b Z2 with
   | none=>rw[p] at a;exact nsE a
   | some p2 =>
    obtain ⟨o,Z3⟩:=p2
    rw[p] at a
    cases o with
    | error x=>cases a;exact tS.mk le i p q
    | ok f =>
     cases f with
     | nx=>exact tS.mk le (r:=.ok .nx) i p λO' H' g' j=>#[Z3,g',j,a]
     | ct=>exact tS.mk le (r:=.ok .ct) i p λO' H' g' j=>#[Z3,g',j,a]
     | br=>cases a;exact tS.mk le (r:=.ok .br) i p q
     | rt d f=>cases a;exact tS.mk le (r:=.ok (.rt d f)) i p q
end
abbrev Fn:=List (D×Fl)->Option (Except D (D×Fl)×List (D×Fl))
def prs (Z:Sto):List R3->Option (List (D×Fl))
 | []=>some []
 | .pl i::rs=>match (Z[i]?).join,prs Z rs with
  | some p,some ps=>some (p::ps)
  | _,_=>none
 | .val d f::rs=>match prs Z rs with
  | some ps=>some ((d,f)::ps)
  | _=>none
def d8 (rs:List R3):List Nat:=(pls rs).filter λi=>decide (2<=(pls rs).count i)
def back:List R3->List (D×Fl)->List (D×Fl)->Sto->Sto
 | .pl i::rs,p::ps,q::qs,Z=>back rs ps qs (if p.2=.z then Z else Z.set i (some (q.1,if q.2=.z then .z else p.2)))
 | .val _ _::rs,_::ps,_::qs,Z=>back rs ps qs Z
 | _,_,_,Z=>Z
def dG (F:Fn) (ms:M3 (List R3)):EM:=ai ms λrs=>λZ=>match prs (frz (d8 rs) Z) rs with
 | none=>none
 | some ps=>match F ps with
  | none=>none
  | some (.ok p,qs)=>if qs.length=ps.length then some (.ok (.val p.1 p.2),back rs ps qs (frz (d8 rs) Z)) else none
  | some (.error e,qs)=>if qs.length=ps.length then some (.error e,back rs ps qs (frz (d8 rs) Z)) else none
section
variable {K:FG} {G G0:Gm} {W W0:D->Sto->Prop} {H H':Hp} {O:St} {Z Z':Sto} {T T':List It3} {g:Nat->Option It3} {x y z:It3} {α β:Type}
structure Back1 (K:FG) (H H':Hp) (ps:List It3) (p q:It3):Prop where
 z:p.f=.z->q=p
 v:q.v=p.v
 f:q.f=p.f\/q.f=.z
 arg:Arg K H' q
 src:∀ c∈q.L,H c=none\/cX ps c
 there:p.f=.u->∀ b,p.v=.ref b->∃ o,H' b=some o
structure BehindX (K:FG) (H H':Hp) (ps qs:List It3):Prop where
 frame:∀ b o,H b=some o->(∀ p∈ps,p.f=.u->p.v≠.ref b)->H' b=some o
 back:Paired (Back1 K H H' ps) ps qs
 apart:qs.Pairwise Apart3
structure Behind (K:FG) (H H':Hp) (ps qs:List It3) (x:It3):Prop extends BehindX K H H' ps qs where
 rep:Rep K H' x.d x.v x.L
 own:x.f≠.z->jI x.d=true/\∃ a L',x.v=.ref a/\x.L=a::L'/\a ∉ L'/\H a=none
 src:∀ c∈x.L,H c=none\/cX ps c
 apx:∀ q∈qs,Apart3 x q
def spF (XA:D->Value->Option Addr->Hp->Prop) (K:FG) (F:Fn):Sp:=λa H Q E=>∃ (ps:List It3) (o:Except D (D×Fl)) (fs:List (D×Fl)),a=ps.map (·.v)/\(∀ p∈ps,Arg K H p)/\ps.Pairwise Apart3/\F (ps.map λp=>(p.d,p.f))=some (o,fs)/\match o with
 | .ok p=>∀ x qs H',Behind K H H' ps qs x->x.d=p.1->x.f=p.2->qs.map (λq=>(q.d,q.f))=fs->Q x.v H'
 | .error e=>∀ qs H' cls da,BehindX K H H' ps qs->qs.map (λq=>(q.d,q.f))=fs->XA e cls da H'->E cls da H'
theorem Ars.args:∀ {rs:List R3} {E:List V} {Ts T:List It3} {c:List (D×Fl)},Ars O rs E Ts->Wf K G H O Z (Ts++T) g->(∀ i,2<=(pls rs).count i->∀ y,g i=some y->y.f=.z)->prs Z rs=some c ->
  ∃ ps:List It3,ps.map (λp=>(p.d,p.f))=c/\ps.map (·.v)=E/\ps.Pairwise Apart3/\(∀ p∈ps,(∃ i,R3.pl i∈rs/\g i=some p)\/p∈Ts)/\Paired (λr p=>match r with | .pl i=>g i=some p | .val _ _=>p∈Ts) rs ps
 | [],_,_,T,c,.nil,w,_,e=>by cases e;exact #[[],rfl,rfl,.nil,λ_ h=>(by cases h),.nil]
 | r::rs,_,_,T,c,.cons (v:=v0) (Ts:=T0) (Us:=φ0) a as,w,hd,e=>by
  have C:Wf K G H O Z (φ0++(T0++T)) g:=by rw[<- List.append_assoc];exact w
  have o:∀ i,2<=(pls rs).count i->∀ y,g i=some y->y.f=.z:=λi s=>hd i (by
   cases r with
   | pl j=>show 2<=(j::pls rs).count i;rw[List.count_cons];lia
   | val _ _=>exact s)
  cases a with
  | @pl i v h =>
   unfold prs at e
   cases q:(Z[i]?).join with
   | none=>rw[q] at e;exact nsE e
   | some p0 =>
    cases l:prs Z rs with
    | none=>rw[q,l] at e;exact nsE e
    | some pfs' =>
     rw[q,l] at e
     cases e
     obtain ⟨ps,f1,f2,B,f4,A⟩:=Ars.args as C o l
     obtain ⟨y,n,L,I,F⟩:=w.slot (d:=p0.1) (f:=p0.2) q
     have J:y.v=v0:=by rw[h] at F;cases F;rfl
     refine #[y::ps,by rw[FV,f1,L,I],by rw[FV,f2,J],List.pairwise_cons.mpr #[λp b=>?_,B],λp b=>?_,.cons n ?_]
     .rcases f4 p b with ⟨j,m,k⟩ | b
      .by_cases u:i=j
       .subst u
        have s:2<=(pls (R3.pl i::rs)).count i:=by
         show 2<=(i::pls rs).count i
         rw[List.count_cons_self]
         have:=List.count_pos_iff.mpr (lh m)
         lia
        have hz:=hd i s y n
        have t:=hd i s p k
        exact #[λq=>absurd hz q,λq=>absurd t q]
       .exact #[w.ss i j y p u n k,w.ss j i p y (Ne.symm u) k n]
      .exact w.st i y n p (FA _ (FA _ b))
     .rcases FD.mp b with h' | b
      .rw[h'];exact .inl #[i,Fv,n]
      .rcases f4 p b with ⟨j,m,k⟩ | b
       .exact .inl #[j,Fw _ m,k]
       .exact .inr (FA _ b)
     .exact Paired.mapP A λr p h=>by
       cases r with
       | pl j=>exact h
       | val _ _=>exact FA _ h
  | val x =>
   unfold prs at e
   cases l:prs Z rs with
   | none=>rw[l] at e;exact nsE e
   | some pfs' =>
    rw[l] at e
    cases e
    obtain ⟨ps,f1,f2,B,f4,A⟩:=Ars.args as C o l
    refine #[x::ps,by rw[FV,f1],by rw[FV,f2],List.pairwise_cons.mpr #[λp b=>?_,B],λp b=>?_,.cons (FC _ Fv) ?_]
    .rcases f4 p b with ⟨j,m,k⟩ | b
     .exact (w.st j p k x (FA _ (FC _ Fv))).symm
     .have t1:=(List.pairwise_append.mp w.tt).1
      exact ((List.pairwise_append.mp t1).2.2 p b x Fv).symm
    .rcases FD.mp b with h' | b
     .rw[h'];exact .inr (FC _ Fv)
     .rcases f4 p b with ⟨j,m,k⟩ | b
      .exact .inl #[j,Fw _ m,k]
      .exact .inr (FA _ b)
    .exact Paired.mapP A λr p h=>by
      cases r with
      | pl j=>exact h
      | val _ _=>exact FA _ h
theorem fR:∀ {rs:List R3} {ps qs:List It3} {Z:Sto} {g:Nat->Option It3},(∀ j,(g j).map (λx=>(x.d,x.f))=(Z[j]?).join)->rs.length=ps.length->Paired (Back1 K H H' T) ps qs->(∀ i,R3.pl i∈rs->i < Z.length) ->
  ∃ g':Nat->Option It3,(∀ j,(g' j).map (λx=>(x.d,x.f))=((back rs (ps.map λp=>(p.d,p.f)) (qs.map λq=>(q.d,q.f)) Z)[j]?).join)/\(back rs (ps.map λp=>(p.d,p.f)) (qs.map λq=>(q.d,q.f)) Z).length=Z.length /\
   ∀ j:Nat,(g' j=g j/\∀ (k:Nat) (p:It3),rs[k]?=some (R3.pl j)->ps[k]?=some p->p.f=.z)\/∃ (k:Nat) (p q:It3),rs[k]?=some (R3.pl j)/\ps[k]?=some p/\qs[k]?=some q/\p.f≠.z/\g' j=some q
 | [],[],_,Z,g,hg,_,.nil,_=>#[g,hg,rfl,λj=>.inl #[rfl,λk p h=>by simp at h]]
 | [],_::_,_,_,_,_,h,_,_=>by cases h
 | _::_,[],_,_,_,_,h,_,_=>by cases h
 | .val d f::rs,p::ps,_,Z,g,hg,hl,.cons (b:=q) (l₂:=qs) b1 bs,hi=>by
  obtain ⟨g',h1,h2,h3⟩:=fR (rs:=rs) hg (by simpa using hl) bs λi h=>hi i (Fw _ h)
  refine #[g',h1,h2,λj=>?_]
  rcases h3 j with ⟨e,h⟩ | ⟨k,a,n,a1,a2,m,l⟩
  .refine .inl #[e,λk a e1 c=>?_]
   cases k with
   | zero=>simp at e1
   | succ k=>exact h k a (by simpa using e1) (by simpa using c)
  .exact .inr #[k+1,a,n,by simpa using a1,by simpa using a2,by simpa using m,l]
 | .pl i::rs,p::ps,_,Z,g,hg,hl,.cons (b:=q) (l₂:=qs) b1 bs,hi=>by
  have r:=hi i Fv
  by_cases hz:p.f=.z
  .have s:back (.pl i::rs) ((p::ps).map λp=>(p.d,p.f)) ((q::qs).map λq=>(q.d,q.f)) Z=back rs (ps.map λp=>(p.d,p.f)) (qs.map λq=>(q.d,q.f)) Z:=by
    show back rs _ _ (if p.f=.z then Z else _)=_
    rw[if_pos hz]
   rw[s]
   obtain ⟨g',h1,h2,h3⟩:=fR (rs:=rs) hg (by simpa using hl) bs λi h=>hi i (Fw _ h)
   refine #[g',h1,h2,λj=>?_]
   rcases h3 j with ⟨e,h⟩ | ⟨k,a,n,a1,a2,m,l⟩
   .refine .inl #[e,λk a e1 c=>?_]
    cases k with
    | zero=>simp at c;rw[<- c];exact hz
    | succ k=>exact h k a (by simpa using e1) (by simpa using c)
   .exact .inr #[k+1,a,n,by simpa using a1,by simpa using a2,by simpa using m,l]
  .have s:back (.pl i::rs) ((p::ps).map λp=>(p.d,p.f)) ((q::qs).map λq=>(q.d,q.f)) Z=back rs (ps.map λp=>(p.d,p.f)) (qs.map λq=>(q.d,q.f)) (Z.set i (some (q.d,q.f))):=by
    show back rs _ _ (if p.f=.z then Z else Z.set i (some (q.d,if q.f=.z then .z else p.f)))=_
    rw[if_neg hz]
    have:(if q.f=.z then Fl.z else p.f)=q.f:=by
     by_cases h:q.f=.z
     .rw[if_pos h,h]
     .rw[if_neg h]
      rcases b1.f with h' | h'
      .exact h'.symm
      .exact absurd h' h
    rw[this]
   rw[s]
   obtain ⟨g',h1,h2,h3⟩:=fR (rs:=rs) (Z:=Z.set i (some (q.d,q.f))) (g:=λj=>if j=i then some q else g j) (λj=>by
    rw[cM r]
    by_cases e:j=i
    .rw[if_pos e,if_pos e];rfl
    .rw[if_neg e,if_neg e];exact hg j) (by simpa using hl) bs λi h=>by rw[List.length_set];exact hi i (Fw _ h)
   refine #[g',h1,by rw[h2,List.length_set],λj=>?_]
   rcases h3 j with ⟨e,h⟩ | ⟨k,a,n,a1,a2,m,l⟩
   .by_cases o:j=i
    .rw[if_pos o] at e
     exact .inr #[0,p,q,by simp[o],rfl,rfl,hz,e]
    .rw[if_neg o] at e
     refine .inl #[e,λk a e1 c=>?_]
     cases k with
     | zero=>simp at e1;exact absurd e1.symm o
     | succ k=>exact h k a (by simpa using e1) (by simpa using c)
   .exact .inr #[k+1,a,n,by simpa using a1,by simpa using a2,by simpa using m,l]
theorem oO:∀ {rs:List R3} {a:List (D×Fl)},prs Z rs=some a->rs.length=a.length
 | [],a,e=>by cases e;rfl
 | .pl i::rs,a,e=>by
  unfold prs at e
  cases q:(Z[i]?).join with
  | none=>rw[q] at e;exact nsE e
  | some p =>
   cases b:prs Z rs with
   | none=>rw[q,b] at e;exact nsE e
   | some ps=>rw[q,b] at e;cases e;rw[F5,F5,oO b]
 | .val d f::rs,a,e=>by
  unfold prs at e
  cases b:prs Z rs with
  | none=>rw[b] at e;exact nsE e
  | some ps=>rw[b] at e;cases e;rw[F5,F5,oO b]
theorem sy:∀ {rs:List R3} {a:List (D×Fl)},prs Z rs=some a->∀ i,R3.pl i∈rs->i < Z.length
 | [],a,e,i,h=>by cases h
 | .pl i::rs,a,e,j,h=>by
  unfold prs at e
  cases q:(Z[i]?).join with
  | none=>rw[q] at e;exact nsE e
  | some p =>
   cases b:prs Z rs with
   | none=>rw[q,b] at e;exact nsE e
   | some ps =>
    rcases FD.mp h with h | h
    .cases h;exact fP q
    .exact sy b j h
 | .val d f::rs,a,e,j,h=>by
  unfold prs at e
  cases b:prs Z rs with
  | none=>rw[b] at e;exact nsE e
  | some ps =>
   rcases FD.mp h with h | h
   .cases h
   .exact sy b j h
theorem Paired.at:∀ {l:List α} {m:List β} {k:Nat} {a:α} {b:β},Paired F l m->l[k]?=some a->m[k]?=some b->F a b
 | _,_,_,_,_,.nil,h,_=>by simp at h
 | _,_,0,_,_,.cons r _,h,h'=>by simp at h h';subst h h';exact r
 | _,_,k+1,_,_,.cons _ t,h,h'=>Paired.at (k:=k) t (by simpa using h) (by simpa using h')
theorem Paired.exL:∀ {l:List α} {m:List β} {k:Nat} {a:α},Paired F l m->l[k]?=some a->∃ b,m[k]?=some b/\F a b
 | _,_,_,_,.nil,h=>by simp at h
 | _,_,0,_,.cons r _,h=>by simp at h;subst h;exact #[_,rfl,r]
 | _,_,k+1,_,.cons _ t,h=>let #[b,h1,h2]:=Paired.exL (k:=k) t (by simpa using h);#[b,by simpa using h1,h2]
theorem Paired.exR:∀ {l:List α} {m:List β} {k:Nat} {b:β},Paired F l m->m[k]?=some b->∃ a,l[k]?=some a/\F a b
 | _,_,_,_,.nil,h=>by simp at h
 | _,_,0,_,.cons r _,h=>by simp at h;subst h;exact #[_,rfl,r]
 | _,_,k+1,_,.cons _ t,h=>let #[b,h1,h2]:=Paired.exR (k:=k) t (by simpa using h);#[b,by simpa using h1,h2]
theorem cj {R:α->α->Prop} {l:List α} (p:l.Pairwise R) (e:∀ a b,R a b->R b a) {i j:Nat} {a b:α} (n:i≠j) (c:l[i]?=some a) (d:l[j]?=some b):R a b:=by
 obtain ⟨h1,e1⟩:=FK.mp c
 obtain ⟨h2,f⟩:=FK.mp d
 have q:=List.pairwise_iff_getElem.mp p
 grind
theorem Wf.after (w:Wf K G H O Z (Ts++T) g) (e:prs Z rs=some pfs) (f1:ps.map (λp=>(p.d,p.f))=pfs) (f4:∀ p∈ps,(∃ i,R3.pl i∈rs/\g i=some p)\/p∈Ts) (f5:Paired (λr p=>match r with | .pl i=>g i=some p | .val _ _=>p∈Ts) rs ps) (B:BehindX K H H' ps qs) :
  ∃ g',Wf K G H' O (L3.back rs pfs (qs.map λq=>(q.d,q.f)) Z) T g' /\
   ∀ x,Rep K H' x.d x.v x.L->(x.f≠.z->jI x.d=true/\∃ a L',x.v=.ref a/\x.L=a::L'/\a ∉ L'/\H a=none)->(∀ c∈x.L,H c=none\/cX ps c)->(∀ q∈qs,Apart3 x q)->Wf K G H' O (L3.back rs pfs (qs.map λq=>(q.d,q.f)) Z) (x::T) g':=by
 subst f1
 have W:rs.length=ps.length:=by have:=oO e;rwa [FJ] at this
 obtain ⟨g',h1,h2,h3⟩:=fR (K:=K) (H:=H) (H':=H') (T:=ps) (rs:=rs) (ps:=ps) (qs:=qs) w.sl W B.back (sy e)
 have F:∀ p∈ps,Itm (Ts++T) g p:=λp l=>by
  rcases f4 p l with ⟨i,_,P⟩ | h
  .exact .inl #[i,P]
  .exact .inr (FA _ h)
 have ae:∀ b o,H b=some o->∃ o',H' b=some o':=λb o R=>by
  by_cases h:∀ p∈ps,p.f=.u->p.v≠.ref b
  .exact #[o,B.frame b o R h]
  .have h':∃ p,p∈ps/\p.f=.u/\p.v=.ref b:=by
    refine Classical.byContradiction λn=>h λp l hf J=>n #[p,l,hf,J]
   obtain ⟨p,l,hf,J⟩:=h'
   obtain ⟨k,hk,ek⟩:=List.mem_iff_getElem.mp l
   obtain ⟨q,e1,b1⟩:=Paired.exL B.back (show ps[k]?=some p by rw[FE hk,ek])
   exact b1.there hf b J
 have ka:∀ j z,g j=some z->(∀ (k:Nat) (p:It3),rs[k]?=some (R3.pl j)->ps[k]?=some p->p.f=.z)->∀ p∈ps,Apart3 p z:=λj z ej hu p l=>by
  rcases f4 p l with ⟨i,hi,P⟩ | h
  .by_cases ij:i=j
   .subst ij
    have av:p=z:=Gn (P.symm.trans ej)
    subst av
    have hz:p.f=.z:=by
     obtain ⟨k,hk,ek⟩:=List.mem_iff_getElem.mp hi
     have τ:rs[k]?=some (R3.pl i):=by rw[FE hk,ek]
     obtain ⟨A,e1,D⟩:=Paired.exL f5 τ
     have D:g i=some A:=D
     rw[P] at D
     cases D
     exact hu k p τ e1
    exact #[λq=>absurd hz q,λq=>absurd hz q]
   .exact #[w.ss i j p z ij P ej,w.ss j i z p (Ne.symm ij) ej P]
  .exact (w.st j z ej p (FA _ h)).symm
 have kt:∀ z∈T,∀ p∈ps,Apart3 p z:=λz hz p l=>by
  rcases f4 p l with ⟨i,hi,P⟩ | h
  .exact w.st i p P z (FC _ hz)
  .exact (List.pairwise_append.mp w.tt).2.2 p h z hz
 have keep:∀ z,ItOk K G H z->(∀ p∈ps,Apart3 p z)->ItOk K G H' z:=λz Q V=>by
  refine Q.keep (M:=λb=>∃ p∈ps,p.f=.u/\p.v=.ref b) (λb o R n=>B.frame b o R λp l hf J=>n #[p,l,hf,J]) (λb #[p,l,hf,J]=>?_) (λb R #[p,l,hf,J]=>?_)
  .obtain ⟨_,a,L',e1,D,_⟩:=(w.itm (F p l)).own (by rw[hf];intro q;cases q)
   rw[J] at e1
   cases e1
   exact (w.itm (F p l)).rep.inH b (by rw[D];exact Fv)
  .exact (V p l).1 (by rw[hf];intro q;cases q) b J R
 have ar:∀ k p q,ps[k]?=some p->qs[k]?=some q->ItOk K G H' q:=λk p q e1 D=>by
  have b:=Paired.at B.back e1 D
  refine #[b.arg.rep,λhf=>?_,λc S=>?_]
  .obtain ⟨m,a,L',v1,v2,v3⟩:=b.arg.own hf
   refine #[m,a,L',v1,v2,v3,λhu=>?_]
   have pf:p.f=.u:=by
    rcases b.f with h | h
    .rw[<- h];exact hu
    .rw[h] at hu;cases hu
   obtain ⟨_,a',a4,e3,_,_,e5⟩:=(w.itm (F p (FL e1))).own (by rw[pf];intro q;cases q)
   rw[<- b.v,v1] at e3
   cases e3
   exact e5 pf
  .rcases b.src c S with h | ⟨A,C,h⟩
   .exact .inl (w.h0none h)
   .exact (w.itm (F A C)).src c h
 have kq:∀ z,ItOk K G H z->(∀ p∈ps,Apart3 p z)->∀ k p q,ps[k]?=some p->qs[k]?=some q->Apart3 z q:=λz Q V k p q e1 D=>by
  have b:=Paired.at B.back e1 D
  refine #[λhf a ev hm=>?_,λhf a ev=>?_]
  .rcases b.src a hm with h | ⟨A,C,S⟩
   .obtain ⟨_,a',L',s,σ,_⟩:=Q.own hf
    rw[ev] at s;cases s
    obtain ⟨o,I⟩:=(Q.rep.inH a (by rw[σ];exact Fv)).ex
    rw[h] at I;exact nsE I
   .exact (V A C).2 hf a ev S
  .have pf:p.f≠.z:=λX=>by
    have:=b.z X
    rw[this] at hf
    exact hf X
   exact (V p (FL e1)).1 pf a (by rw[<- b.v];exact ev)
 have old:∀ j z,g' j=some z->(g j=some z/\∀ p∈ps,Apart3 p z)\/∃ k p,rs[k]?=some (R3.pl j)/\ps[k]?=some p/\qs[k]?=some z:=λj z E=>by
  rcases h3 j with ⟨e1,hu⟩ | ⟨k,p,q,a1,a2,y,_,a5⟩
  .rw[e1] at E
   exact .inl #[E,ka j z E hu]
  .rw[a5] at E
   cases E
   exact .inr #[k,p,a1,a2,y]
 have wf:Wf K G H' O (L3.back rs (ps.map λp=>(p.d,p.f)) (qs.map λq=>(q.d,q.f)) Z) T g':=by
  refine #[by rw[h2];exact w.len,h1,λj z E=>?_,λj z E=>?_,λz hz=>keep z (w.okT z (FC _ hz)) (kt z hz),λi j a b n φ eb=>?_,λj z E t N=>?_,(List.pairwise_append.mp w.tt).2.1,λb o e n=>?_,w.pro,#[λu hu=>w.fx.frT u (FC _ hu),λj u h l hf a φ=>?_,λb R=>?_,λb o h=>?_,λj u h W=>?_]]
  .rcases old j z E with ⟨e1,_⟩ | ⟨k,p,a1,a2,y⟩
   .exact w.sv j z e1
   .have ρ:g j=some p:=by
     obtain ⟨A,s,σ⟩:=Paired.exL f5 a1
     rw[a2] at s;cases s
     exact σ
    rw[(Paired.at B.back a2 y).v]
    exact w.sv j p ρ
  .rcases old j z E with ⟨e1,ap⟩ | ⟨k,p,a1,a2,y⟩
   .exact keep z (w.okS j z e1) ap
   .exact ar k p z a2 y
  .rcases old i a φ with ⟨e1,ap⟩ | ⟨k,p,a1,a2,y⟩
   .rcases old j b eb with ⟨D,_⟩ | ⟨k',A,b1,b2,b3⟩
    .exact w.ss i j a b n e1 D
    .exact (kq a (w.okS i a e1) ap k' A b b2 b3).1
   .rcases old j b eb with ⟨D,ap⟩ | ⟨k',A,b1,b2,b3⟩
    .exact (kq b (w.okS j b D) ap k p a a2 y).2
    .have kk:k≠k':=λz=>by
      subst z
      rw[a1] at b1
      cases b1
      exact n rfl
     exact (cj B.apart (λ_ _=>Apart3.symm) kk y b3).1
  .rcases old j z E with ⟨e1,ap⟩ | ⟨k,p,a1,a2,y⟩
   .exact w.st j z e1 t (FC _ N)
   .exact (kq t (w.okT t (FC _ N)) (kt t N) k p z a2 y).symm
  .refine B.frame b o (w.base b o e n) λp l hf J=>?_
   obtain ⟨_,a,L',e1,_,_,e3⟩:=(w.itm (F p l)).own (by rw[hf];intro q;cases q)
   rw[J] at e1
   cases e1
   rcases e3 hf with h | h
   .rw[e] at h;cases h
   .exact n h
  .rcases old j u h with ⟨e1,_⟩ | ⟨k,p,a1,a2,y⟩
   .exact w.fx.frS j u e1 l hf a φ
   .have b:=Paired.at B.back a2 y
    have ρ:g j=some p:=by
     obtain ⟨A,s,σ⟩:=Paired.exL f5 a1
     rw[a2] at s;cases s
     exact σ
    refine w.fx.frS j p ρ l (λX=>?_) a (by rw[<- b.v];exact φ)
    have:=b.z X
    rw[this] at hf
    exact hf X
  .obtain ⟨o,I⟩:=w.fx.bin b R
   exact ae b o I
  .obtain ⟨o',I⟩:=w.fx.ob b o h
   exact ae b o' I
  .rcases old j u h with ⟨e1,_⟩ | ⟨k,p,a1,a2,y⟩
   .exact w.fx.lvS j u e1 W
   .have b:=Paired.at B.back a2 y
    have ρ:g j=some p:=by
     obtain ⟨A,s,σ⟩:=Paired.exL f5 a1
     rw[a2] at s;cases s
     exact σ
    rw[b.v]
    refine w.fx.lvS j p ρ ?_
    rcases b.f with h | h
    .rw[<- h];exact W
    .rw[h] at W;cases W
 refine #[g',wf,λx rx ox sx ax=>?_]
 have kx:∀ z,ItOk K G H z->(∀ p∈ps,Apart3 p z)->Apart3 z x:=λz Q V=>by
  refine #[λhf a ev hm=>?_,λhf a ev hm=>?_]
  .rcases sx a hm with h | ⟨A,C,S⟩
   .obtain ⟨_,a',L',s,σ,_⟩:=Q.own hf
    rw[ev] at s;cases s
    obtain ⟨o,I⟩:=(Q.rep.inH a (by rw[σ];exact Fv)).ex
    rw[h] at I;exact nsE I
   .exact (V A C).2 hf a ev S
  .obtain ⟨_,a',L',s,_,_,q4⟩:=ox hf
   rw[ev] at s;cases s
   obtain ⟨o,I⟩:=(Q.rep.inH a hm).ex
   rw[q4] at I;exact nsE I
 refine #[wf.len,wf.sl,wf.sv,wf.okS,λz hz=>?_,wf.ss,λj z E t N=>?_,?_,wf.base,wf.pro,#[λu hu hf a φ=>?_,wf.fx.frS,wf.fx.bin,wf.fx.ob,wf.fx.lvS]]
 .rcases FD.mp hz with h | hz
  .rw[h]
   refine #[rx,λhf=>?_,λc S=>?_]
   .obtain ⟨m,a,L',v1,v2,v3,v4⟩:=ox hf
    exact #[m,a,L',v1,v2,v3,λ_=>.inl (w.h0none v4)]
   .rcases sx c S with h | ⟨A,C,h⟩
    .exact .inl (w.h0none h)
    .exact (w.itm (F A C)).src c h
  .exact wf.okT z hz
 .rcases FD.mp N with h | N
  .rw[h]
   rcases old j z E with ⟨e1,ap⟩ | ⟨k,p,a1,a2,y⟩
   .exact kx z (w.okS j z e1) ap
   .exact (ax z (FL y)).symm
  .exact wf.st j z E t N
 .exact List.pairwise_cons.mpr #[λt N=>(kx t (w.okT t (FC _ N)) (kt t N)).symm,wf.tt]
 .rcases FD.mp hu with h | hu
  .subst h
   obtain ⟨_,a',L',s,_,_,q4⟩:=ox hf
   rw[φ] at s;cases s
   exact w.ornone q4
  .exact wf.fx.frT u hu hf a φ
theorem sR {i a:Nat} (h:(Z[i]?).join=none):((L3.lowAt a Z)[i]?).join=none:=by
 unfold L3.lowAt
 split
 .grind
 .rename_i d hd
  rw[cM (fP hd)]
  by_cases b:i=a
  .subst b;rw[h] at hd;exact nsE hd
  .rw[if_neg b];exact h
 .exact h
theorem mw {i:Nat}:∀ {is:List Nat} {Z:Sto},(Z[i]?).join=none->((L3.frz is Z)[i]?).join=none
 | [],Z,h=>h
 | a::is,Z,h=>mw (is:=is) (Z:=L3.lowAt a Z) (sR h)
def EX (XA:D->Value->Option Addr->Hp->Prop) (K:FG) (G:Gm) (W:D->Sto->Prop) (O:St):XK:=λcls da H'=>∃ e Z' T' g',Wf K G H' O Z' T' g'/\XA e cls da H'/\W e Z'
theorem AD (h:tE K G0 W0 (dG F ms) O H Q):tA K G0 W0 ms O H λu H1=>spF XA K F u H1 Q (EX XA K G0 W0 O):=by
 refine h.use λG W le Z T g o Z' w e q=>?_
 refine tA.seq le w e q.err λrs Z1 e1 u H1 Ts g1 C a1=>?_
 obtain ⟨g2,c,V⟩:=Wf.frz (is:=d8 rs) C
 cases j:prs (L3.frz (d8 rs) Z1) rs with
 | none=>rw[j] at e1;exact nsE e1
 | some pfs =>
  rw[j] at e1
  dsimp only at e1
  have hd:∀ i,2<=(pls rs).count i->∀ y,g2 i=some y->y.f=.z:=λi σ y A=>by
   have hm:i∈d8 rs:=Gb.mpr #[List.count_pos_iff.mp (by lia),by simpa using σ]
   have s1:=c.sl i
   rw[A] at s1
   have τ:∃ y0,g1 i=some y0:=by
    cases S:g1 i with
    | some y0=>exact #[y0,rfl]
    | none =>
     exfalso
     have s2:=C.sl i
     rw[S] at s2
     have:=mw (is:=d8 rs) s2.symm
     rw[this] at s1
     cases s1
   obtain ⟨y0,s⟩:=τ
   obtain ⟨y',b,_,L⟩:=V i y0 s
   rw[A] at b
   cases b
   exact L hm
  obtain ⟨ps,f1,f2,ρ,f4,t⟩:=Ars.args a1 c hd j
  have hit:∀ p∈ps,Itm (Ts++T) g2 p:=λp k=>by
   rcases f4 p k with ⟨i,_,M⟩ | h
   .exact .inl #[i,M]
   .exact .inr (FA _ h)
  have d:∀ p∈ps,Arg K H1 p:=λp k=>⟨(c.itm (hit p k)).rep,λhf=>by
   obtain ⟨m,a,L',v1,v2,J,_⟩:=(c.itm (hit p k)).own hf
   exact ⟨m,a,L',v1,v2,J⟩⟩
  subst f2
  cases b:F pfs with
  | none=>rw[b] at e1;exact nsE e1
  | some r =>
   obtain ⟨out,fs⟩:=r
   rw[b] at e1
   refine #[ps,out,fs,rfl,d,ρ,by rw[f1];exact b,?_]
   cases out with
   | ok p =>
    dsimp only at e1
    split at e1
    .cases e1
     intro x qs H' B x1 φ n
     obtain ⟨g',l,X⟩:=Wf.after c j f1 f4 t B.toBehindX
     have D:=X x B.rep B.own B.src B.apx
     rw[n] at D
     rw[<- x1,<- φ] at q
     exact q x.v H' #[[x],g',D,.val x]
    .exact nsE e1
   | error er =>
    dsimp only at e1
    split at e1
    .cases e1
     intro qs H' cls da B n E
     obtain ⟨g',l,_⟩:=Wf.after c j f1 f4 t B
     rw[n] at l
     obtain ⟨Z5,N,P,R,I⟩:=le.ex H' O _ T g' er l q
     exact #[er,Z5,N,P,R,E,I]
    .exact nsE e1
end
def dC (Z:Sto):Nat->List (D×Fl)->Option (List (D×Fl))
 | _,[]=>some []
 | i,(d,.z)::ps=>(dC Z (i+1) ps).map λr=>(d,.z)::r
 | i,(d,f)::ps=>match (Z[i]?).join,dC Z (i+1) ps with
  | some (d',f'),some r=>if f'=f\/f'=.z then some ((d',f')::r) else none
  | _,_=>none
def d7 (n:Nat) (ps:List (D×Fl)):Sto:=ps.map some++List.replicate (n - ps.length) none
def fn0 (n:Nat) (b:SM):Fn:=λps=>match b (d7 n ps) with
 | some (.ok .nx,Z')=>(dC Z' 0 ps).map λfs=>(.ok (.non,.z),fs)
 | some (.ok (.rt d f),Z')=>(dC Z' 0 ps).map λfs=>(.ok (d,f),fs)
 | some (.error e,Z')=>(dC Z' 0 ps).map λfs=>(.error e,fs)
 | _=>none
def kU (b:Bool) (p:D×Fl):D×Fl:=if b then (p.1,.z) else p
noncomputable def fnM (mask:List Bool) (n:Nat) (b:SM):Fn:=λps=>if ps.length=mask.length then fn0 n b (List.zipWith kU mask ps) else none
section
variable {K:FG} {G:Gm} {W:D->Sto->Prop} {H H':Hp} {O:St} {Z Z':Sto} {T T':List It3} {g:Nat->Option It3} {x y z:It3} {α β:Type}
def gOf (H:Hp) (pr:Nat->Bool) (O0:St) (ps:List It3):Gm:=#[H,λb=>∃ p∈ps,p.f=.u/\p.v=.ref b,pr,O0,H,cX ps,λi=>(ps[i]?).map (·.v)]
theorem wD {n:Nat} (a:ps.length<=n) (i:Nat):((d7 n ps)[i]?).join=ps[i]?:=by
 unfold d7
 grind
theorem jT {n:Nat} {a:List V} {i:Nat} (h:a[i]?=some v):(a.map some++List.replicate n (none:Option V))[i]?=some (some v):=by grind
theorem pX {n:Nat} (s:ps.length<=n) (g:∀ p∈ps,Arg K H p) (l:ps.Pairwise Apart3) (k:∀ (i:Nat) (p:It3),ps[i]?=some p->p.f≠.z->pr i=true) :
  Wf K (gOf H pr ((ps.map (·.v)).map some++List.replicate (n - (ps.map (·.v)).length) none) ps) H ((ps.map (·.v)).map some++List.replicate (n - (ps.map (·.v)).length) none) (d7 n (ps.map λp=>(p.d,p.f))) [] (λi=>ps[i]?):=by
 refine #[?_,λi=>?_,λi x e=>?_,λi x e=>?_,λ_ h=>(by cases h),λi j a b n t w=>?_,λ_ _ _ _ h=>(by cases h),.nil,λb o e _=>e,λi _=>rfl,#[λ_ h=>(by cases h),λi x e hz hf=>?_,λb h=>?_,λb o e=>#[o,e],λi x e _=>(by show (ps[i]?).map (·.v)=_;rw[e];rfl)]]
 .unfold d7;simp
 .rw[wD (by simpa using s),FP]
 .exact jT (by rw[FP,e];rfl)
 .have hm:=FL e
  refine #[(g x hm).rep,λhf=>?_,λc y=>.inr #[x,hm,y]]
  obtain ⟨m,a,L',v1,v2,r⟩:=(g x hm).own hf
  exact #[m,a,L',v1,v2,r,λhu=>.inr #[x,hm,hu,v1]]
 .exact (cj l (λ_ _=>Apart3.symm) n t w).1
 .have hz:pr i=false:=hz
  rw[k i x e hf] at hz;cases hz
 .obtain ⟨p,hm,hf,u⟩:=h
  obtain ⟨_,a,L',v1,v2,_⟩:=(g p hm).own (by rw[hf];intro q;cases q)
  rw[u] at v1;cases v1
  exact ((g p hm).rep.inH b (by rw[v2];exact Fv)).ex
def FinsOk (Z:Sto) (i:Nat) (ps fs:List (D×Fl)):Prop:=fs.length=ps.length/\∀ (k:Nat) (p:D×Fl),ps[k]?=some p->∃ q,fs[k]?=some q/\(p.2=.z->q=p)/\(p.2≠.z->(Z[i+k]?).join=some q/\(q.2=p.2\/q.2=.z))
theorem FinsOk.cons {i:Nat} {e d:D×Fl} {ps fs:List (D×Fl)} (h:FinsOk Z (i+1) ps fs) (hz:e.2=.z->d=e) (g:e.2≠.z->(Z[i]?).join=some d/\(d.2=e.2\/d.2=.z)):FinsOk Z i (e::ps) (d::fs):=by
 refine #[by rw[F5,F5,h.1],λk p f=>?_]
 cases k with
 | zero=>cases f;exact #[d,rfl,hz,g]
 | succ k =>
  obtain ⟨q,a,b,c⟩:=h.2 k p f
  grind
theorem ke:∀ {i:Nat} {ps:List (D×Fl)} {fs:List (D×Fl)},dC Z i ps=some fs->FinsOk Z i ps fs
 | i,[],fs,e=>by cases e;exact #[rfl,λk p h=>by cases h]
 | i,p0::ps,fs,e=>by
  obtain ⟨d,f⟩:=p0
  have key:f≠.z->(match (Z[i]?).join,dC Z (i+1) ps with
    | some (d',a),some r=>if a=f\/a=.z then some ((d',a)::r) else none
    | _,_=>none)=some fs->FinsOk Z i ((d,f)::ps) fs:=λhf e=>by
   cases h:(Z[i]?).join with
   | none=>rw[h] at e;exact nsE e
   | some p0 =>
    cases h2:dC Z (i+1) ps with
    | none=>rw[h,h2] at e;exact nsE e
    | some r =>
     rw[h,h2] at e
     obtain ⟨d',a⟩:=p0
     dsimp only at e
     rcases Decidable.em (a=f\/a=.z) with b | b
     .rw[if_pos b] at e
      cases e
      exact (ke h2).cons (λz=>absurd z hf) λ_=>#[h,b]
     .rw[if_neg b] at e;exact nsE e
  cases f with
  | z =>
   obtain ⟨r,h,h'⟩:=Fz.mp (show (dC Z (i+1) ps).map (λr=>(d,Fl.z)::r)=some fs from e)
   subst h'
   exact (ke h).cons (λ_=>rfl) λn=>absurd rfl n
  | u=>exact key (by intro q;cases q) e
  | l=>exact key (by intro q;cases q) e
theorem kJ {P:Nat->α->β->Prop}:∀ (l:List α) (i:Nat),(∀ (k:Nat) a,l[k]?=some a->∃ b,P (i+k) a b)->∃ m:List β,m.length=l.length/\∀ (k:Nat) a,l[k]?=some a->∃ b,m[k]?=some b/\P (i+k) a b
 | [],i,_=>#[[],rfl,λk a h=>by simp at h]
 | a::l,i,h=>by
  obtain ⟨b,f⟩:=h 0 a rfl
  obtain ⟨m,h1,h2⟩:=kJ l (i+1) λk a e=>by
   have:=h (k+1) a (by simpa using e)
   rwa [show i+(k+1)=i+1+k by lia] at this
  refine #[b::m,by simp[h1],λk d e=>?_]
  cases k with
  | zero=>simp at e;subst e;exact #[b,rfl,f]
  | succ k =>
   obtain ⟨c,e1,g⟩:=h2 k d (by simpa using e)
   exact #[c,by simpa using e1,by rwa [show i+(k+1)=i+1+k by lia]]
theorem Paired.ofGet:∀ {l:List α} {m:List β},l.length=m.length->(∀ (k:Nat) a b,l[k]?=some a->m[k]?=some b->F a b)->Paired F l m
 | [],[],_,_=>.nil
 | [],_::_,h,_=>by cases h
 | _::_,[],h,_=>by cases h
 | a::l,b::m,h,f=>.cons (f 0 a b rfl rfl) (Paired.ofGet (by simpa using h) λk a b e1 c=>f (k+1) a b (by simpa using e1) (by simpa using c))
theorem kQ {n:Nat} {pr:Nat->Bool} {O0:St} {ps:List It3} {fs:List (D×Fl)} (E:∀ p∈ps,Arg K H p) (I:ps.Pairwise Apart3) (N:∀ (i:Nat) (p:It3),ps[i]?=some p->p.f≠.z->pr i=true) (h0:∀ (i:Nat) (p:It3),ps[i]?=some p->O0[i]?=some (some p.v))
  (w:Wf K (gOf H pr O0 ps) H' O Z T g) (e:dC Z 0 (ps.map λp=>(p.d,p.f))=some fs) :
  ∃ qs,BehindX K H H' ps qs/\qs.map (λq=>(q.d,q.f))=fs/\(∀ (k:Nat) (p q:It3),ps[k]?=some p->qs[k]?=some q->(p.f=.z/\q=p)\/(p.f≠.z/\g k=some q)):=by
 obtain ⟨hl,hs⟩:=ke e
 rw[FJ] at hl
 have frame:∀ b o,H b=some o->(∀ p∈ps,p.f=.u->p.v≠.ref b)->H' b=some o:=λb o x R=>w.base b o x λ#[p,hm,hf,t]=>R p hm hf t
 have there:∀ b o,H b=some o->∃ o',H' b=some o':=λb o x=>w.fx.ob b o x
 have G:∀ (k:Nat) (p:It3),ps[k]?=some p->p.f=.z->Rep K H' p.d p.v p.L:=λk p l hz=>by
  refine (E p (FL l)).rep.keep (M:=λb=>∃ p∈ps,p.f=.u/\p.v=.ref b) (λb o x R=>frame b o x λp I hf t=>R #[p,I,hf,t]) (λb #[B,hm,hf,t]=>?_) λb x #[B,hm,hf,t]=>?_
  .obtain ⟨_,a,L',v1,v2,_⟩:=(E B hm).own (by rw[hf];intro q;cases q)
   rw[t] at v1;cases v1
   exact (E B hm).rep.inH b (by rw[v2];exact Fv)
  .obtain ⟨j,S,J⟩:=List.mem_iff_getElem.mp hm
   have A:ps[j]?=some B:=by rw[FE S,J]
   have jk:j≠k:=λz=>by subst z;rw[l] at A;cases A;rw[hz] at hf;cases hf
   exact (cj I (λ_ _=>Apart3.symm) jk A l).1 (by rw[hf];intro q;cases q) b t x
 have one:∀ (k:Nat) (p:It3),ps[k]?=some p->∃ q,(q.d,q.f)=(fs[k]?).getD (p.d,p.f)/\fs[k]?=some (q.d,q.f)/\Back1 K H H' ps p q/\((p.f=.z/\q=p)\/(p.f≠.z/\g k=some q)):=λk p l=>by
  have hm:=FL l
  obtain ⟨τ,f1,f2,f3⟩:=hs k (p.d,p.f) (by rw[FP,l];rfl)
  by_cases hz:p.f=.z
  .have:=f2 hz
   subst this
   refine #[p,by rw[f1];rfl,f1,#[λ_=>rfl,rfl,.inl rfl,#[G k p l hz,λh=>absurd hz h],λc σ=>.inr #[p,hm,σ],λh=>?_],.inl #[hz,rfl]]
   rw[hz] at h;cases h
  .obtain ⟨h1,h2⟩:=f3 hz
   rw[FZ] at h1
   obtain ⟨y,X,y2,φ,y4⟩:=w.slot (d:=τ.1) (f:=τ.2) h1
   have t:y.v=p.v:=by
    have:=w.pro k (N k p l hz)
    rw[y4] at this
    have h0:some (some y.v)=some (some p.v):=this.trans (h0 k p l)
    injection h0 with h0
    injection h0
   have ok:=w.okS k y X
   refine #[y,by rw[f1,y2,φ];rfl,by rw[f1,y2,φ],#[λh=>absurd h hz,t,by rw[φ];exact h2,#[ok.rep,λhf=>?_],λc σ=>ok.src c σ,λhf b x=>?_],.inr #[hz,X]]
   .obtain ⟨m,a,L',v1,v2,v3,_⟩:=ok.own hf
    exact #[m,a,L',v1,v2,v3]
   .obtain ⟨_,a,L',v1,v2,_⟩:=(E p hm).own hz
    rw[x] at v1;cases v1
    obtain ⟨o,ho⟩:=((E p hm).rep.inH b (by rw[v2];exact Fv)).ex
    exact there b o ho
 obtain ⟨qs,hq,C⟩:=kJ (P:=λk p q=>fs[k]?=some (q.d,q.f)/\Back1 K H H' ps p q/\((p.f=.z/\q=p)\/(p.f≠.z/\g k=some q))) ps 0 λk p l=>by
  obtain ⟨q,_,a,b,c⟩:=one k p l
  exact #[q,by simpa using #[a,b,c]]
 have get:∀ (k:Nat) (p q:It3),ps[k]?=some p->qs[k]?=some q->fs[k]?=some (q.d,q.f)/\Back1 K H H' ps p q/\((p.f=.z/\q=p)\/(p.f≠.z/\g k=some q)):=λk p q s eq=>by
  obtain ⟨q',e1,e2⟩:=C k p s
  rw[eq] at e1
  cases e1
  simpa using e2
 have par:∀ (k:Nat) (q:It3),qs[k]?=some q->∃ p,ps[k]?=some p:=λk q e=>by
  have W:=(FK.mp e).1
  exact #[ps[k]'(by lia),by simp[show k < ps.length by lia]]
 refine #[qs,#[frame,Paired.ofGet hq.symm λk p q s eq=>(get k p q s eq).2.1,?_],?_,λk p q s eq=>(get k p q s eq).2.2]
 .rw[List.pairwise_iff_getElem]
  intro k j W S lt
  have l:qs[k]?=some qs[k]:=FE W
  have J:qs[j]?=some qs[j]:=FE S
  have side:∀ (k j:Nat) (q r:It3),k≠j->qs[k]?=some q->qs[j]?=some r->NoRoot q r:=λk j q r n eq ρ=>by
   obtain ⟨p,s⟩:=par k q eq
   obtain ⟨B,F⟩:=par j r ρ
   obtain ⟨_,b,c⟩:=get k p q s eq
   obtain ⟨_,b',c'⟩:=get j B r F ρ
   rcases c with ⟨hz,e⟩ | ⟨hz,e⟩
   .rw[e];exact λh=>absurd hz h
   .rcases c' with ⟨Q,V⟩ | ⟨Q,V⟩
    .rw[V]
     intro hf a ea
     exact (cj I (λ_ _=>Apart3.symm) n s F).1 hz a (by rw[<- b.v];exact ea)
    .exact w.ss k j q r n e V
  exact #[side k j _ _ (FT lt) l J,side j k _ _ (Nat.ne_of_gt lt) J l]
 .refine List.ext_getElem? λk=>?_
  rw[FP]
  cases eq:qs[k]? with
  | none =>
   have:qs.length<=k:=List.getElem?_eq_none_iff.mp eq
   rw[List.getElem?_eq_none (by lia)]
   rfl
  | some q =>
   obtain ⟨p,s⟩:=par k q eq
   rw[(get k p q s eq).1]
   rfl
theorem mK {n:Nat} {pr:Nat->Bool} {O0:St} {ps:List It3} {fs:List (D×Fl)} (l:∀ p∈ps,Arg K H p) (E:ps.Pairwise Apart3) (j:∀ (i:Nat) (p:It3),ps[i]?=some p->p.f≠.z->pr i=true) (h0:∀ (i:Nat) (p:It3),ps[i]?=some p->O0[i]?=some (some p.v))
  (w:Wf K (gOf H pr O0 ps) H' O Z (x::T) g) (e:dC Z 0 (ps.map λp=>(p.d,p.f))=some fs):∃ qs,Behind K H H' ps qs x/\qs.map (λq=>(q.d,q.f))=fs:=by
 obtain ⟨qs,B,f,u⟩:=kQ (n:=n) l E j h0 w e
 have ok:=w.okT x Fv
 refine #[qs,#[B,ok.rep,λhf=>?_,λc C=>ok.src c C,λq A=>?_],f]
 .obtain ⟨m,a,L',v1,v2,t,_⟩:=ok.own hf
  exact #[m,a,L',v1,v2,t,w.fx.frT x Fv hf a v1]
 .obtain ⟨k,y,G⟩:=List.mem_iff_getElem.mp A
  have eq:qs[k]?=some q:=by rw[FE y,G]
  obtain ⟨p,r,b⟩:=Paired.exR B.back eq
  rcases u k p q r eq with ⟨hz,e⟩ | ⟨hz,e⟩
  .rw[e]
   refine #[λhf a F hm=>?_,λh=>absurd hz h]
   have h1:=w.fx.frT x Fv hf a F
   obtain ⟨o,s⟩:=((l p (FL r)).rep.inH a hm).ex
   have h2:H a=none:=h1
   rw[h2] at s;exact nsE s
  .exact (w.st k q e x Fv).symm
end
def cK:Fl->Fl
 | .u=>.l
 | f=>f
def bB (x:It3):It3:={ x with f:=cK x.f }
def gj:Fl->Fl
 | .l=>.u
 | f=>f
def As (x:It3):It3:={ x with f:=gj x.f }
def jC (h:Fl->Fl) (i:Nat) (Z:Sto):Sto:=match (Z[i]?).join with
 | some (d,f)=>Z.set i (some (d,h f))
 | none=>Z
def aM (h:Fl->Fl) (is:List Nat) (Z:Sto):Sto:=is.foldl (λZ i=>jC h i Z) Z
def us (Z:Sto) (is:List Nat):List Nat:=is.filter λi=>match (Z[i]?).join with
 | some (_,.u)=>true
 | _=>false
theorem lentF_z:cK f=.z ↔ f=.z:=by cases f <;> simp[cK]
theorem unlF_z:gj f=.z ↔ f=.z:=by cases f <;> simp[gj]
theorem uN (f:Fl):cK f≠.u:=by cases f <;> simp[cK]
theorem CQ (f:Fl):gj f≠.l:=by cases f <;> simp[gj]
section
variable {K:FG} {G G0:Gm} {W W0:D->Sto->Prop} {H H':Hp} {O:St} {Z Z':Sto} {T T':List It3} {g:Nat->Option It3} {x y z:It3} {α β:Type}
theorem sK {i j:Nat}:((jC h i Z)[j]?).join=if j=i then ((Z[j]?).join).map (λp=>(p.1,h p.2)) else (Z[j]?).join:=by
 unfold jC
 grind
theorem wa {i:Nat}:(jC h i Z).length=Z.length:=by
 unfold jC
 split
 .rw[List.length_set]
 .rfl
theorem hJ (a:∀ f,h (h f)=h f):∀ {is:List Nat} {Z:Sto} {j:Nat},((aM h is Z)[j]?).join=if j∈is then ((Z[j]?).join).map (λp=>(p.1,h p.2)) else (Z[j]?).join
 | [],Z,j=>by simp[aM]
 | i::is,Z,j=>by
  have e:aM h (i::is) Z=aM h is (jC h i Z):=rfl
  rw[e,hJ a,sK]
  by_cases q:j=i
  .subst q
   by_cases m:j∈is
   .rw[if_pos m,if_pos rfl,if_pos Fv]
    cases (Z[j]?).join with
    | none=>rfl
    | some p=>simp[a]
   .rw[if_neg m,if_pos rfl,if_pos Fv]
  .by_cases m:j∈is
   .rw[if_pos m,if_neg q,if_pos (Fw _ m)]
   .rw[if_neg m,if_neg q,if_neg (λz=>(FD.mp z).elim q m)]
theorem jb:∀ {is:List Nat} {Z:Sto},(aM h is Z).length=Z.length
 | [],Z=>rfl
 | i::is,Z=>by
  have e:aM h (i::is) Z=aM h is (jC h i Z):=rfl
  rw[e,jb,wa]
def d6 (G:Gm) (H:Hp) (g:Nat->Option It3) (is:List Nat):Gm :=
 #[H,λb=>∃ j y,j ∉ is/\g j=some y/\y.f=.u/\y.v=.ref b,G.pr,G.O0,G.orig,λc=>G.H0 c=none\/G.src c,λj=>if j∈is then (g j).map (·.v) else G.lv j]
structure Fk (x y:It3):Prop where
 d:y.d=x.d
 v:y.v=x.v
 L:y.L=x.L
 z:y.f=.z ↔ x.f=.z
theorem Fk.noRoot (a:Fk x x') (b:Fk y y') (h:NoRoot x y):NoRoot x' y':=λhf c e=>by
 rw[b.L]
 exact h (λq=>hf (a.z.mpr q)) c (by rw[<- a.v];exact e)
theorem Fk.apart (a:Fk x x') (b:Fk y y') (h:Apart3 x y):Apart3 x' y':=#[a.noRoot b h.1,b.noRoot a h.2]
theorem Fk.refl (x:It3):Fk x x:=#[rfl,rfl,rfl,Iff.rfl]
theorem lj (x:It3):Fk x (bB x):=#[rfl,rfl,rfl,lentF_z]
theorem E5 (x:It3):Fk x (As x):=#[rfl,rfl,rfl,unlF_z]
theorem qM {o:Option It3} {h:Fl->Fl} (e:o.map (λx=>(x.d,x.f))=p):(o.map λx=>{ x with f:=h x.f }).map (λx:It3=>(x.d,x.f))=p.map λp=>(p.1,h p.2):=by
 subst e
 cases o <;> rfl
theorem Wf.enter (w:Wf K G H O Z T g) (is:List Nat):Wf K (d6 G H g is) H O (aM cK is Z) (T.map bB) (λj=>if j∈is then (g j).map bB else g j):=by
 have val:∀ j u,(if j∈is then (g j).map bB else g j)=some u->∃ l,g j=some l/\Fk l u/\((j∈is/\u=bB l)\/(j ∉ is/\u=l)):=λj u h=>by
  by_cases q:j∈is
  .rw[if_pos q] at h
   obtain ⟨l,e1,t⟩:=Fz.mp h
   subst t
   exact #[l,e1,lj l,.inl #[q,rfl]]
  .rw[if_neg q] at h
   exact #[u,h,Fk.refl u,.inr #[q,rfl]]
 refine #[by rw[jb];exact w.len,λj=>?_,λj u h=>?_,λj u h=>?_,λu hu=>?_,λi j a b n B p=>?_,λj a h b p=>?_,?_,λb o e _=>e,w.pro,#[λu hu hf a x=>?_,λj u h C hf a x=>?_,λb p=>?_,w.fx.ob,λj u h E=>?_]]
 .rw[hJ (by intro f;cases f <;> rfl)]
  by_cases q:j∈is
  .rw[if_pos q,if_pos q];exact qM (w.sl j)
  .rw[if_neg q,if_neg q];exact w.sl j
 .obtain ⟨l,e,k,_⟩:=val j u h
  rw[k.v];exact w.sv j l e
 .obtain ⟨l,e,k,c⟩:=val j u h
  have ok:=w.okS j l e
  refine #[by rw[k.d,k.v,k.L];exact ok.rep,λhf=>?_,λc s=>.inr (ok.src c (by rw[<- k.L];exact s))]
  obtain ⟨m,a,L',v1,v2,r,_⟩:=ok.own (λq=>hf (k.z.mpr q))
  refine #[by rw[k.d];exact m,a,L',by rw[k.v];exact v1,by rw[k.L];exact v2,r,λhu=>?_]
  rcases c with ⟨_,rfl⟩ | ⟨A,rfl⟩
  .exact absurd hu (uN _)
  .exact .inr #[j,u,A,e,hu,v1]
 .obtain ⟨l,h0,rfl⟩:=FO.mp hu
  have ok:=w.okT l h0
  refine #[ok.rep,λhf=>?_,λc s=>.inr (ok.src c s)]
  obtain ⟨m,a,L',v1,v2,r,_⟩:=ok.own (λq=>hf (lentF_z.mpr q))
  exact #[m,a,L',v1,v2,r,λhu=>absurd hu (uN _)]
 .obtain ⟨a0,e1,k1,_⟩:=val i a B
  obtain ⟨b0,t,k2,_⟩:=val j b p
  exact k1.noRoot k2 (w.ss i j a0 b0 n e1 t)
 .obtain ⟨a0,e1,k1,_⟩:=val j a h
  obtain ⟨b0,h0,rfl⟩:=FO.mp p
  exact k1.apart (lj b0) (w.st j a0 e1 b0 h0)
 .rw[List.pairwise_map]
  exact w.tt.imp λ{a b} h=>(lj a).apart (lj b) h
 .obtain ⟨l,h0,rfl⟩:=FO.mp hu
  exact w.fx.frT l h0 (λq=>hf (lentF_z.mpr q)) a x
 .obtain ⟨l,e,k,_⟩:=val j u h
  exact w.fx.frS j l e C (λq=>hf (k.z.mpr q)) a (by rw[<- k.v];exact x)
 .obtain ⟨j,y,_,e,hf,D⟩:=p
  obtain ⟨_,a,L',v1,v2,_⟩:=(w.okS j y e).own (by rw[hf];intro q;cases q)
  rw[D] at v1;cases v1
  exact ((w.okS j y e).rep.inH b (by rw[v2];exact Fv)).ex
 .obtain ⟨l,e,k,c⟩:=val j u h
  show (if j∈is then (g j).map (·.v) else G.lv j)=_
  rcases c with ⟨q,rfl⟩ | ⟨q,rfl⟩
  .rw[if_pos q,e];rfl
  .rw[if_neg q];exact w.fx.lvS j u e E
theorem Wf.leave (w:Wf K G H O Z T g) (F:∀ i∈is,∀ y,g i=some y->y.f=.u) (M:T'.Sublist T) (p:Wf K (d6 G H g is) H' O' Z2 (R++T'.map bB) g2) :
  Wf K G H' O' (aM gj is Z2) (R++T') (λj=>if j∈is then (g2 j).map As else g2 j):=by
 have val:∀ j u,(if j∈is then (g2 j).map As else g2 j)=some u->∃ r,g2 j=some r/\Fk r u/\((j∈is/\u=As r)\/(j ∉ is/\u=r)):=λj u h=>by
  by_cases q:j∈is
  .rw[if_pos q] at h
   obtain ⟨r,e1,I⟩:=Fz.mp h
   subst I
   exact #[r,e1,E5 r,.inl #[q,rfl]]
  .rw[if_neg q] at h
   exact #[u,h,Fk.refl u,.inr #[q,rfl]]
 have may:∀ a,H a=none\/(∃ j y,j ∉ is/\g j=some y/\y.f=.u/\y.v=.ref a)->G.H0 a=none\/G.bw a:=λa h=>by
  rcases h with h | ⟨j,y,_,e,hf,ρ⟩
  .exact .inl (w.h0none h)
  .obtain ⟨_,φ,L',v1,_,_,v4⟩:=(w.okS j y e).own (by rw[hf];intro q;cases q)
   rw[ρ] at v1;cases v1
   exact v4 hf
 have t:∀ c,H c=none\/(G.H0 c=none\/G.src c)->G.H0 c=none\/G.src c:=λc h=>by
  rcases h with h | h
  .exact .inl (w.h0none h)
  .exact h
 have N:∀ x∈T',x∈T:=λx V=>M.subset V
 have J:∀ b o,H b=some o->∃ o',H' b=some o':=λb o s=>by
  by_cases q:∃ j y,j ∉ is/\g j=some y/\y.f=.u/\y.v=.ref b
  .exact p.fx.bin b q
  .exact #[o,p.base b o s q]
 refine #[by rw[jb];exact p.len,λj=>?_,λj u h=>?_,λj u h=>?_,λu hu=>?_,λi j a b n D s=>?_,λj a h b s=>?_,?_,λb o e n=>?_,p.pro,#[λu hu=>?_,λj u h W hf a X=>?_,λb s=>?_,p.fx.ob,λj u h B=>?_]]
 .rw[hJ (by intro f;cases f <;> rfl)]
  by_cases q:j∈is
  .rw[if_pos q,if_pos q];exact qM (p.sl j)
  .rw[if_neg q,if_neg q];exact p.sl j
 .obtain ⟨r,e,k,_⟩:=val j u h
  rw[k.v];exact p.sv j r e
 .obtain ⟨r,e,k,c⟩:=val j u h
  have ok:=p.okS j r e
  refine #[by rw[k.d,k.v,k.L];exact ok.rep,λhf=>?_,λc E=>t c (ok.src c (by rw[<- k.L];exact E))]
  obtain ⟨m,a,L',v1,v2,C,v4⟩:=ok.own (λq=>hf (k.z.mpr q))
  refine #[by rw[k.d];exact m,a,L',by rw[k.v];exact v1,by rw[k.L];exact v2,C,λhu=>?_]
  rcases c with ⟨q,rfl⟩ | ⟨nj,rfl⟩
  .cases A:r.f with
   | u=>exact may a (v4 A)
   | l =>
    have B:=p.fx.lvS j r e A
    have B:(if j∈is then (g j).map (·.v) else G.lv j)=some r.v:=B
    rw[if_pos q] at B
    obtain ⟨y,σ,ev⟩:=Fz.mp B
    have P:=F j q y σ
    obtain ⟨_,φ,Q,b1,_,_,S⟩:=(w.okS j y σ).own (by rw[P];intro q;cases q)
    rw[ev,v1] at b1;cases b1
    exact S P
   | z=>exact absurd (unlF_z.mpr A) hf
  .exact may a (v4 hu)
 .rcases FH.mp hu with hu | hu
  .have ok:=p.okT u (FA _ hu)
   refine #[ok.rep,λhf=>?_,λc E=>t c (ok.src c E)]
   obtain ⟨m,a,L',v1,v2,C,v4⟩:=ok.own hf
   exact #[m,a,L',v1,v2,C,λh=>may a (v4 h)]
  .have ok:=w.okT u (N u hu)
   exact #[(p.okT (bB u) (FC _ (FO.mpr #[u,hu,rfl]))).rep,ok.own,ok.src]
 .obtain ⟨a0,e1,k1,_⟩:=val i a D
  obtain ⟨b0,I,k2,_⟩:=val j b s
  exact k1.noRoot k2 (p.ss i j a0 b0 n e1 I)
 .obtain ⟨a0,e1,k1,_⟩:=val j a h
  rcases FH.mp s with s | s
  .exact k1.apart (Fk.refl b) (p.st j a0 e1 b (FA _ s))
  .have:=p.st j a0 e1 (bB b) (FC _ (FO.mpr #[b,s,rfl]))
   exact k1.apart (y:=bB b) #[rfl,rfl,rfl,lentF_z.symm] this
 .have h:=List.pairwise_append.mp p.tt
  refine List.pairwise_append.mpr #[h.1,w.tt.sublist M,λa D b s=>?_]
  exact (Fk.refl a).apart (y:=bB b) #[rfl,rfl,rfl,lentF_z.symm] (h.2.2 a D (bB b) (FO.mpr #[b,s,rfl]))
 .have s:=w.base b o e n
  refine p.base b o s λq=>?_
  rcases may b (.inr q) with h | h
  .rw[e] at h;cases h
  .exact n h
 .rcases FH.mp hu with hu | hu
  .exact p.fx.frT u (FA _ hu)
  .exact w.fx.frT u (N u hu)
 .obtain ⟨r,e,k,_⟩:=val j u h
  exact p.fx.frS j r e W (λq=>hf (k.z.mpr q)) a (by rw[<- k.v];exact X)
 .obtain ⟨o,τ⟩:=w.fx.bin b s
  exact J b o τ
 .obtain ⟨r,e,k,c⟩:=val j u h
  rcases c with ⟨q,rfl⟩ | ⟨q,rfl⟩
  .exact absurd B (CQ _)
  .have:=p.fx.lvS j u e B
   have this:(if j∈is then (g j).map (·.v) else G.lv j)=some u.v:=this
   rw[if_neg q] at this
   exact this
theorem BM (w:Wf K G H O Z T g) (b:∀ i∈is,∀ y,g i=some y->y.f=.u):∀ (H':Hp) (O':St) (Z2:Sto) (a:List It3) (g2:Nat->Option It3),Wf K (d6 G H g is) H' O' Z2 a g2->∃ g3,Wf K G H' O' (aM gj is Z2) [] g3 :=
 λH' O' Z2 a g2 c=>#[_,by simpa using Wf.leave (T':=[]) (R:=[]) w b (List.nil_sublist T) (by simpa using c.sub (List.nil_sublist a))]
end
section
variable {K:FG} {G G0:Gm} {W W0:D->Sto->Prop} {H H':Hp} {O:St} {Z Z':Sto} {T T':List It3} {g:Nat->Option It3} {x y z:It3} {α β:Type}
def Walk (K:FG) (J:It) (H1:Hp) (ys:List It3) (ds:List D):Prop:=∃ els:List It3,(∀ x∈els,x.f=.z/\Rep K H1 x.d x.v x.L/\∀ c∈x.L,dg ys c) /\
 ∀ (M:Addr->Prop) (H':Hp),(∀ b,M b->MutAt H1 b)->(∀ b o,H1 b=some o->¬ M b->H' b=some o)->(∀ y∈ys,∀ b∈y.L,¬ M b) ->
  (∀ (i:Nat) (d:D),ds[i]?=some d->J.go i H'/\∀ x a,J.yld i H' x a->∃ w,New K H' a (cX els) w/\w.d=d/\w.f=.z/\w.v=x)/\J.stop ds.length H'
abbrev IM:=M3 (List R3×List D)
def EndI (K:FG) (G:Gm) (W:D->Sto->Prop) (O:St) (T:List It3) (Z':Sto) (R:It->Hp->Prop):Except D (List R3×List D)->Prop
 | .ok p=>∀ J H1 a Ts g1 ys,Wf K G H1 O Z' (Ts++T) g1->Ars O p.1 a Ts->(∀ y∈ys,(∃ i,i∈pls p.1/\g1 i=some y)\/y∈Ts)->Walk K J H1 ys p.2->R J H1
 | .error e=>W e Z'
def tI (K:FG) (G0:Gm) (W0:D->Sto->Prop) (m:IM):TI:=λO H R=>∃ G W,Le K G W G0 W0/\∃ Z T g r Z',Wf K G H O Z T g/\m Z=some (r,Z')/\EndI K G W O T Z' R r
theorem tI.seq (le:Le K G W G0 W0) (w:Wf K G H O Z T g) (e:ai m k Z=some (r,Z')) (he:∀ x,r=.error x->W x Z') (h:∀ p Z1,k p Z1=some (r,Z')->EndI K G W O T Z1 P (.ok p)):tI K G0 W0 m O H P:=by
 unfold ai at e
 cases q:m Z with
 | none=>rw[q] at e;exact nsE e
 | some p =>
  obtain ⟨o,Z1⟩:=p
  rw[q] at e
  cases o with
  | error x=>cases e;exact #[G,W,le,Z,T,g,.error x,Z',w,q,he x rfl]
  | ok ra=>exact #[G,W,le,Z,T,g,.ok ra,Z1,w,q,h ra Z1 e]
def Bnd (K:FG) (pr:Nat->Bool) (tg:TG) (bnd:D->Sto->Option Sto):Prop:=∀ (G:Gm) (H:Hp) (O:St) (Z Z1:Sto) (T:List It3) (g:Nat->Option It3) (w:It3) (Q:St->Hp->Prop),G.pr=pr->w.f=.z->Wf K G H O Z (w::T) g->bnd w.d Z=some Z1 ->
 (∀ O2 g2,Wf K G H O2 Z1 T g2->Q O2 H)->tg w.v O H Q
def aA (i:Nat) (d:D) (Z:Sto):Option Sto:=if i < Z.length then some (Z.set i #v[d]) else none
theorem iB {i:Nat} (b:pr i=false):Bnd K pr (uX i) (aA i):=λG H O Z Z1 T g w Q a hz wf e q=>by
 unfold aA at e
 split at e
 .rename_i hi
  cases e
  exact q _ _ (wf.store (f:=.z) hi (by rw[a];exact b) (.inr rfl) (by intro h;cases h))
 .exact nsE e
def Am (K:FG) (pr:Nat->Bool) (tg:TGs) (bnd:List D->Sto->Option Sto):Prop:=∀ (G:Gm) (H:Hp) (O:St) (Z Z1:Sto) (T:List It3) (g:Nat->Option It3) (ws:List It3) (Q:St->Hp->Prop),G.pr=pr->(∀ w∈ws,w.f=.z)->Wf K G H O Z (ws++T) g->bnd (ws.map (·.d)) Z=some Z1 ->
 (∀ O2 g2,Wf K G H O2 Z1 T g2->Q O2 H)->tg (ws.map (·.v)) O H Q
def jQ:List D->Sto->Option Sto
 | [],Z=>some Z
 | _,_=>none
def cu (b:D->Sto->Option Sto) (bs:List D->Sto->Option Sto):List D->Sto->Option Sto
 | [],_=>none
 | d::ds,Z=>match b d Z with
  | some Z1=>bs ds Z1
  | none=>none
theorem rH:Am K pr gNil jQ:=λG H O Z Z1 T g ws Q _ _ wf e q=>by
 cases ws with
 | nil=>cases e;exact #[rfl,q _ _ wf]
 | cons w ws=>exact nsE e
theorem kr (h1:Bnd K pr tg b) (h2:Am K pr tgs bs):Am K pr (CG tg tgs) (cu b bs):=λG H O Z Z1 T g ws Q a hz wf e q=>by
 cases ws with
 | nil=>exact nsE e
 | cons w ws =>
  have e:(match b w.d Z with | some Z1=>bs (ws.map (·.d)) Z1 | none=>none)=some Z1:=e
  cases c:b w.d Z with
  | none=>rw[c] at e;exact nsE e
  | some Z2 =>
   rw[c] at e
   exact #[w.v,ws.map (·.v),rfl,h1 G H O Z Z2 (ws++T) g w _ a (hz w Fv) wf c λO2 g2 f=>h2 G H O2 Z2 Z1 T g2 ws Q a (λx h=>hz x (Fw _ h)) f e q]
def jP (n:Nat) (bs:List D->Sto->Option Sto):D->Sto->Option Sto
 | .tup ds,Z=>if ds.length=n then bs ds Z else none
 | _,_=>none
theorem Reps.split:∀ {ds:List D} {b:List V} {L:List Addr},Reps (Rep K H) ds b L->∃ ws:List It3,ws.map (·.d)=ds/\ws.map (·.v)=b/\(∀ w∈ws,w.f=.z/\Rep K H w.d w.v w.L/\∀ c∈w.L,c∈L)
 | _,_,_,.nil=>#[[],rfl,rfl,λ_ h=>(by cases h)]
 | _,_,_,.cons (d:=d) (v:=v) (L:=L) r rs=>by
  obtain ⟨ws,h1,h2,h3⟩:=Reps.split rs
  refine #[#[d,v,L,.z]::ws,by simp[h1],by simp[h2],λw hw=>?_]
  rcases FD.mp hw with h | h
  .subst h;exact #[rfl,r,λc a=>FA _ a]
  .exact #[(h3 w h).1,(h3 w h).2.1,λc a=>FC _ ((h3 w h).2.2 c a)]
theorem Wf.pushAll:∀ {ws:List It3} {T:List It3},Wf K G H O Z T g->(∀ w∈ws,w.f=.z/\Rep K H w.d w.v w.L/\∀ c∈w.L,dN T g c/\(G.H0 c=none\/G.src c))->Wf K G H O Z (ws++T) g
 | [],T,w,_=>w
 | x::ws,T,w,h=>by
  have e:=Wf.pushAll (ws:=ws) w λy b=>h y (Fw _ b)
  obtain ⟨hz,i,a⟩:=h x Fv
  refine e.push (Ks:=λc=>c∈x.L) #[Same.refl _,i,λc h=>.inr h,λq=>absurd hz q] λc m=>#[#[(a c m).1.1,λy b hf=>?_],(a c m).2]
  rcases FH.mp b with q | q
  .exact absurd (h y (Fw _ q)).1 hf
  .exact (a c m).1.2 y q hf
theorem ve {n:Nat} (h2:Am K pr tgs bs):Bnd K pr (gTup K n tgs) (jP n bs):=λG H O Z Z1 T g w Q j hz wf e q=>by
 have r:=(wf.okT w Fv).rep
 obtain ⟨d,v,L,f⟩:=w
 cases r with
 | @tup xs a vs _ hs rs =>
  have e:(if xs.length=n then bs xs Z else none)=some Z1:=e
  split at e
  .rename_i o
   obtain ⟨ws,h1,h3,h⟩:=Reps.split rs
   refine #[a,vs,rfl,SqT.of hs,?_,?_]
   .rw[<- h3,FJ,<- o,<- h1,FJ]
   .have l:Wf K G H O Z (ws++(#[.tup xs,.ref a,L,f]::T)) g:=wf.pushAll λu hu=>#[(h u hu).1,(h u hu).2.1,λc k=>#[wf.kid (y:=#[.tup xs,.ref a,L,f]) (.inr Fv) ((h u hu).2.2 c k) λhf=>absurd hz hf,(wf.okT _ Fv).src c ((h u hu).2.2 c k)]]
    have m:Wf K G H O Z (ws++T) g:=l.sub ((List.Sublist.refl ws).append (List.sublist_cons_self _ _))
    rw[<- h3]
    exact h2 G H O Z Z1 T g ws Q j (λu hu=>(h u hu).1) m (by rw[h1];exact e) q
  .exact nsE e
 | non=>exact nsE e
 | bl b=>exact nsE e
 | int i=>exact nsE e
 | str s=>exact nsE e
 | lst _ _=>exact nsE e
 | lstF _ _=>exact nsE e
 | dK _ _ _=>exact nsE e
 | dT _ _ _=>exact nsE e
 | exc _ _=>exact nsE e
 | excV _ _ _ _ _ _ _ _=>exact nsE e
noncomputable def dy (bnd:D->Sto->Option Sto) (b:SM):List D->SM
 | []=>bc .nx
 | d::ds=>λZ=>match bnd d Z with
  | none=>none
  | some Z1=>ai b (λf=>match f with
   | .nx=>dy bnd b ds
   | .ct=>dy bnd b ds
   | .br=>bc .nx
   | .rt d f=>bc (.rt d f)) Z1
noncomputable def cT (im:IM) (bnd:D->Sto->Option Sto) (b:SM):SM:=ai im λp=>λZ=>(dy bnd b p.2 (aM cK (us Z (pls p.1)) Z)).map λr=>(r.1,aM gj (us Z (pls p.1)) r.2)
theorem us_u (w:Wf K G H O Z T g):∀ i∈us Z is,∀ y,g i=some y->y.f=.u:=λi hi y a=>by
 have h:=(Gb.mp hi).2
 have s:=w.sl i
 rw[a] at s
 have s:some (y.d,y.f)=(Z[i]?).join:=s
 rw[<- s] at h
 cases hf:y.f with
 | u=>rfl
 | l=>rw[hf] at h;cases h
 | z=>rw[hf] at h;cases h
theorem wZ {i:Nat} (w:Wf K G H O Z T g) (hi:i∈is) (a:g i=some y) (hf:y.f=.u):i∈us Z is:=by
 refine Gb.mpr #[hi,?_]
 have s:=w.sl i
 rw[a] at s
 have s:some (y.d,y.f)=(Z[i]?).join:=s
 rw[<- s,hf]
theorem C6 (V:Bnd K G0.pr tg bnd) (h:tS K G0 W0 (cT im bnd b) E O H):tFor (tI K G0 W0 im) tg (tS K G0 W0 b) E O H:=by
 refine h.use λG W le Z T g r Z' w e q=>?_
 refine tI.seq le w e q.err λp Z1 e1=>?_
 intro J H1 vs Ts g1 ys t a1 az hw
 have Q:=us_u (is:=pls p.1) t
 have ax:∀ i y,i∈pls p.1->g1 i=some y->y.f=.u->i∈us Z1 (pls p.1):=λi y hi ey hf=>wZ t hi ey hf
 generalize us Z1 (pls p.1)=is at e1 Q ax
 have w2:=t.enter is
 obtain ⟨els,n,walk⟩:=hw
 have hM:∀ b,(∃ j y,j ∉ is/\g1 j=some y/\y.f=.u/\y.v=.ref b)->MutAt H1 b:=λb #[j,y,_,ey,hf,C]=>by
  obtain ⟨_,a,L',v1,v2,_⟩:=(t.okS j y ey).own (by rw[hf];intro q;cases q)
  rw[C] at v1;cases v1
  exact (t.okS j y ey).rep.inH b (by rw[v2];exact Fv)
 have ar:∀ y∈ys,∀ b∈y.L,¬ ∃ j y,j ∉ is/\g1 j=some y/\y.f=.u/\y.v=.ref b:=λy A b V #[j,y',nj,B,hf,C]=>by
  have ae:y'.f≠.z:=by rw[hf];intro q;cases q
  rcases az y A with ⟨i,hi,ρ⟩ | A
  .by_cases ij:i=j
   .subst ij
    rw[ρ] at B;cases B
    exact nj (ax i y hi ρ hf)
   .exact t.ss j i y' y (Ne.symm ij) B ρ ae b C V
  .exact (t.st j y' B y (FA _ A)).1 ae b C V
 have av:∀ y∈ys,Itm (Ts++T) g1 y:=λy A=>by
  rcases az y A with ⟨i,_,ρ⟩ | h
  .exact .inl #[i,ρ]
  .exact .inr (FA _ h)
 have kid:∀ x∈els,∀ c∈x.L,dN ((Ts++T).map bB) (λj=>if j∈is then (g1 j).map bB else g1 j) c/\(H1 c=none\/(G.H0 c=none\/G.src c)):=λx τ c hc=>by
  obtain ⟨nr,sr⟩:=t.kids av ((n x τ).2.2 c hc)
  refine #[#[λi z φ hf C=>?_,λz hz hf C=>?_],.inr sr]
  .have φ:(if i∈is then (g1 i).map bB else g1 i)=some z:=φ
   by_cases q:i∈is
   .rw[if_pos q] at φ
    obtain ⟨z0,e0,e1⟩:=Fz.mp φ
    subst e1
    exact nr.1 i z0 e0 (λq=>hf (lentF_z.mpr q)) C
   .rw[if_neg q] at φ
    exact nr.1 i z φ hf C
  .obtain ⟨z0,h0,rfl⟩:=FO.mp hz
   exact nr.2 z0 h0 (λq=>hf (lentF_z.mpr q)) C
 have w3:Wf K (d6 G H1 g1 is) H1 O (aM cK is Z1) (els++(Ts++T).map bB) (λj=>if j∈is then (g1 j).map bB else g1 j):=w2.pushAll λx τ=>#[(n x τ).1,(n x τ).2.1,λc hc=>kid x τ c hc]
 cases e2:dy bnd b p.2 (aM cK is Z1) with
 | none=>rw[e2] at e1;exact nsE e1
 | some rr =>
  obtain ⟨r2,Z3⟩:=rr
  rw[e2] at e1
  have er:r2=r/\aM gj is Z3=Z':=by cases e1;exact #[rfl,rfl]
  obtain ⟨rfl,eρ⟩:=er
  have leave:∀ {O':St} {H':Hp} {Z2:Sto} {g2:Nat->Option It3} {R:List It3},Wf K (d6 G H1 g1 is) H' O' Z2 (R++(els++(Ts++T).map bB)) g2->∃ g3,Wf K G H' O' (aM gj is Z2) (R++T) g3:=λ{O' H' Z2 g2 R} F =>
   ⟨_,Wf.leave (T:=Ts++T) (T':=T) (R:=R) t Q (FN Ts T) (F.sub ((List.Sublist.refl R).append (by
    rw[List.map_append]
    exact (FN (Ts.map bB) (T.map bB)).trans (FN els _))))⟩
  have a4:Le K (d6 G H1 g1 is) (λe Z2=>W e (aM gj is Z2)) G W:=⟨rfl,λH' O' Z2 T2 g2 e F he=>by
   obtain ⟨g3,w5⟩:=BM t Q H' O' Z2 T2 g2 F
   exact ⟨_,[],g3,w5,he⟩⟩
  have s:Le K (d6 G H1 g1 is) (λe Z2=>W e (aM gj is Z2)) G0 W0:=a4.trans le
  refine #[λk m O' H'=>k<=p.2.length/\m=p.2.length - k/\∃ Z2 g2,Wf K (d6 G H1 g1 is) H' O' Z2 (els++(Ts++T).map bB) g2/\dy bnd b (p.2.drop k) Z2=some (r2,Z3),#[_,Nat.zero_le _,rfl,_,_,w3,e2],?_]
  rintro k m O' H' ⟨hk,rfl,Z2,g2,F,e4⟩
  obtain ⟨a3,N⟩:=walk _ H' hM (λb o V hn=>F.base b o V hn) ar
  by_cases D:k < p.2.length
  .obtain ⟨d,hd⟩:∃ d,p.2[k]?=some d:=#[_,FE D]
   have S:p.2.drop k=d::p.2.drop (k+1):=by
    rw[List.drop_eq_getElem_cons D]
    rw[FE D] at hd
    cases hd;rfl
   rw[S] at e4
   obtain ⟨go,yld⟩:=a3 k d hd
   refine .inr #[go,λO5 H5=>∃ Z5 g5,Wf K (d6 G H1 g1 is) H5 O5 Z5 (els++(Ts++T).map bB) g5/\dy bnd b (p.2.drop (k+1)) Z5=some (r2,Z3),λO5 H5 #[Z5,g5,w5,l]=>#[p.2.length - (k+1),by lia,D,rfl,Z5,g5,w5,l],λx M A=>?_]
   obtain ⟨u,nu,ud,uf,uv⟩:=yld x M A
   have w5:Wf K (d6 G H1 g1 is) M O' Z2 (u::(els++(Ts++T).map bB)) g2:=F.push nu λc hc=>F.alls (ys:=els) (λy A=>#[.inr (FA _ A),(n y A).1]) hc
   have l:(match bnd d Z2 with
    | none=>none
    | some Z1=>ai b (λf=>match f with
     | .nx=>dy bnd b (p.2.drop (k+1))
     | .ct=>dy bnd b (p.2.drop (k+1))
     | .br=>bc .nx
     | .rt d f=>bc (.rt d f)) Z1)=some (r2,Z3):=e4
   cases e6:bnd d Z2 with
   | none=>rw[e6] at l;exact nsE l
   | some Z6 =>
    rw[e6] at l
    dsimp only at l
    rw[<- uv]
    refine V (d6 G H1 g1 is) M O' Z2 Z6 _ g2 u _ le.pr uf w5 (by rw[ud];exact e6) λO6 g6 X=>?_
    unfold ai at l
    cases σ:b Z6 with
    | none=>rw[σ] at l;exact nsE l
    | some pr7 =>
     obtain ⟨o7,Z7⟩:=pr7
     rw[σ] at l
     cases o7 with
     | error er =>
      cases l
      refine tS.mk (r:=.error er) s X σ ?_
      show W er (aM gj is _)
      rw[eρ];exact q
     | ok f =>
      cases f with
      | nx=>exact tS.mk (r:=.ok .nx) s X σ λO8 H8 g8 P=>#[Z7,g8,P,l]
      | ct=>exact tS.mk (r:=.ok .ct) s X σ λO8 H8 g8 P=>#[Z7,g8,P,l]
      | br =>
       cases l
       refine tS.mk (r:=.ok .br) s X σ λO8 H8 g8 P=>?_
       obtain ⟨g9,I⟩:=leave (R:=[]) P
       rw[eρ] at I
       exact q _ _ _ I
      | rt d' f' =>
       cases l
       refine tS.mk (r:=.ok (.rt d' f')) s X σ λx8 O8 H8 g8 P x1 x2=>?_
       obtain ⟨g9,I⟩:=leave (R:=[x8]) P
       rw[eρ] at I
       exact q x8 _ _ _ I x1 x2
  .have ek:k=p.2.length:=by lia
   subst ek
   rw[List.drop_length] at e4
   cases e4
   obtain ⟨g9,I⟩:=leave (R:=[]) F
   rw[eρ] at I
   exact .inl #[N,q _ _ _ I]
end
def tD (ix:List (Option Nat)) (Z:Sto):Sto:=ix.map λo=>match o with
 | some i=>(Z[i]?).join
 | none=>none
def uncap:List (Option Nat)->Sto->Sto->Option Sto
 | [],_,Z=>some Z
 | none::ix,Y,Z=>uncap ix Y.tail Z
 | some i::ix,Y,Z=>match (Z[i]?).join,Y.head? with
  | some (_,f),some (some (d',f'))=>if f'=f\/f'=.z then uncap ix Y.tail (Z.set i (some (d',f'))) else none
  | _,_=>none
noncomputable def cr (bnd:D->Sto->Option Sto) (c:M3 Bool) (elt:EM):List D->M3 (List D)
 | []=>bc []
 | d::ds=>λY=>match bnd d Y with
  | none=>none
  | some Y1=>ai c (λb=>if b then ai elt (λr=>ai (dF r) λp=>ai (cr bnd c elt ds) λl=>bc (p.1::l)) else cr bnd c elt ds) Y1
def bU (im:IM) (bnd:D->Sto->Option Sto) (c:M3 Bool) (elt:EM) (ix:List (Option Nat)):EM:=ai im λp=>λZ =>
 match cr bnd c elt p.2 (tD ix (aM cK (us Z (pls p.1)) Z)) with
 | some (.ok ds,Y)=>if p.2.length < 16777216 then (uncap ix Y (aM cK (us Z (pls p.1)) Z)).map λZ2=>(.ok (.val (.lst ds) .u),aM gj (us Z (pls p.1)) Z2) else none
 | _=>none
section
variable {K:FG} {G G0:Gm} {W W0:D->Sto->Prop} {H H':Hp} {O Y:St} {Z Z':Sto} {T T':List It3} {g:Nat->Option It3} {x y z:It3} {α β:Type} {ix:List (Option Nat)}
def Inj (ix:List (Option Nat)):Prop:=∀ (j k i:Nat),ix[j]?=some (some i)->ix[k]?=some (some i)->j=k
def BV (ix:List (Option Nat)) (g:Nat->Option It3) (j:Nat):Option It3:=(ix[j]?).join.bind g
def sC (ix:List (Option Nat)) (n:Nat) (g:Nat->Option It3):List It3:=(List.range n).filterMap λi=>if some i∈ix then none else g i
def zY (G:Gm) (ix:List (Option Nat)) (O:St):Gm:=#[G.H0,G.bw,λj=>((ix[j]?).join).isSome,cap ix O,λ_=>none,G.src,λj=>(ix[j]?).join.bind G.lv]
theorem dP {j:Nat} (h:BV ix g j=some x):∃ i,ix[j]?=some (some i)/\g i=some x:=by
 unfold BV at h
 cases e:ix[j]? with
 | none=>rw[e] at h;exact nsE h
 | some o =>
  rw[e] at h
  cases o with
  | none=>exact nsE h
  | some i=>exact #[i,rfl,h]
theorem l4 {n:Nat} (h:x∈sC ix n g):∃ i,some i ∉ ix/\g i=some x:=by
 obtain ⟨i,_,e⟩:=List.mem_filterMap.mp h
 split at e
 .exact nsE e
 .rename_i a;exact #[i,a,e]
theorem yO {n i:Nat} (hi:i < n) (a:some i ∉ ix) (e:g i=some x):x∈sC ix n g:=List.mem_filterMap.mpr #[i,List.mem_range.mpr hi,by rw[if_neg a];exact e]
theorem Wf.cap (w:Wf K G H O Z T g) (s:Inj ix):Wf K (zY G ix O) H (cap ix O) (tD ix Z) (sC ix Z.length g++T) (BV ix g):=by
 have ne:∀ {i j:Nat},ix[j]?=some (some i)->∀ k,some k ∉ ix->i≠k:=λe k l q=>l (by rw[<- q];exact FL e)
 refine #[by unfold L2.cap tD;rw[FJ,FJ],λj=>?_,λj x h=>?_,λj x h=>?_,λx p=>?_,λj k x y n p r=>?_,λj x h y r=>?_,?_,w.base,λ_ _=>rfl,#[λ_ _ _ _ _=>rfl,λ_ _ _ _ _ _ _=>rfl,w.fx.bin,λb o e=>(by cases e),λj x h u=>?_]]
 .unfold BV tD
  rw[FP]
  cases e:ix[j]? with
  | none=>rfl
  | some o =>
   cases o with
   | none=>rfl
   | some i=>exact w.sl i
 .obtain ⟨i,e1,c⟩:=dP h
  unfold L2.cap
  rw[FP,e1]
  show some ((O[i]?).getD none)=_
  rw[w.sv i x c];rfl
 .obtain ⟨i,_,c⟩:=dP h
  have ok:=w.okS i x c
  exact #[ok.rep,ok.own,ok.src]
 .rcases FH.mp p with h | h
  .obtain ⟨i,_,e⟩:=l4 h
   have ok:=w.okS i x e
   exact #[ok.rep,ok.own,ok.src]
  .have ok:=w.okT x h
   exact #[ok.rep,ok.own,ok.src]
 .obtain ⟨i,e1,c⟩:=dP p
  obtain ⟨v,z,A⟩:=dP r
  exact w.ss i v x y (λq=>n (s j k i e1 (q ▸ z))) c A
 .obtain ⟨i,e1,c⟩:=dP h
  rcases FH.mp r with q | q
  .obtain ⟨k,l,e⟩:=l4 q
   have:=ne e1 k l
   exact #[w.ss i k x y this c e,w.ss k i y x (Ne.symm this) e c]
  .exact w.st i x c y q
 .refine List.pairwise_append.mpr #[?_,w.tt,λa t b m=>?_]
  .unfold sC
   rw[List.pairwise_filterMap]
   refine List.pairwise_lt_range.imp λ{i k} lt a t b m=>?_
   have f:(if some i∈ix then none else g i)=some a:=t
   have d:(if some k∈ix then none else g k)=some b:=m
   split at f
   .cases f
   .split at d
    .cases d
    .exact #[w.ss i k a b (FT lt) f d,w.ss k i b a (Nat.ne_of_gt lt) d f]
  .obtain ⟨k,l,e⟩:=l4 t
   exact w.st k a e b m
 .obtain ⟨i,e1,c⟩:=dP h
  show (ix[j]?).join.bind G.lv=_
  rw[e1]
  exact w.fx.lvS i x c u
theorem Wf.perm (w:Wf K G H O Z T g) (p:T.Perm T'):Wf K G H O Z T' g :=
 #[w.len,w.sl,w.sv,w.okS,λx a=>w.okT x (p.mem_iff.mpr a),w.ss,λi x e y b=>w.st i x e y (p.mem_iff.mpr b),(p.pairwise_iff λh=>Apart3.symm h).mp w.tt,w.base,w.pro,w.fx.sub λx a=>p.mem_iff.mpr a]
theorem i6:∀ {ix:List (Option Nat)} {Y Z Z2:Sto},uncap ix Y Z=some Z2->Inj ix->Z2.length=Z.length/\(∀ i,some i ∉ ix->(Z2[i]?).join=(Z[i]?).join) /\
  ∀ (j i:Nat),ix[j]?=some (some i)->∃ p q,(Z[i]?).join=some p/\(Y[j]?).join=some q/\(Z2[i]?).join=some q/\(q.2=p.2\/q.2=.z)
 | [],Y,Z,Z2,e,_=>by cases e;exact #[rfl,λ_ _=>rfl,λj i h=>by simp at h]
 | none::ix,Y,Z,Z2,e,hij=>by
  unfold uncap at e
  obtain ⟨h1,h2,h3⟩:=i6 e λj k i a b=>by
   have:=hij (j+1) (k+1) i (by simpa using a) (by simpa using b)
   lia
  refine #[h1,λi hi=>h2 i λq=>hi (Fw _ q),λj i h=>?_]
  cases j with
  | zero=>simp at h
  | succ j =>
   obtain ⟨p,q,a,b,c⟩:=h3 j i (by simpa using h)
   exact #[p,q,a,by rw[List.getElem?_tail] at b;exact b,c]
 | some i0::ix,Y,Z,Z2,e,hij=>by
  unfold uncap at e
  cases e1:(Z[i0]?).join with
  | none=>rw[e1] at e;exact nsE e
  | some p =>
   obtain ⟨d,f⟩:=p
   cases r:Y.head? with
   | none=>rw[e1,r] at e;exact nsE e
   | some o =>
    cases o with
    | none=>rw[e1,r] at e;exact nsE e
    | some q =>
     obtain ⟨d',s⟩:=q
     rw[e1,r] at e
     dsimp only at e
     split at e
     .rename_i hf
      have g:=fP e1
      have l:some i0 ∉ ix:=λm=>by
       obtain ⟨k,t,u⟩:=List.mem_iff_getElem.mp m
       have:=hij 0 (k+1) i0 rfl (by simp[t,u])
       lia
      obtain ⟨h1,h2,h3⟩:=i6 e λj k i a b=>by
       have:=hij (j+1) (k+1) i (by simpa using a) (by simpa using b)
       lia
      refine #[by rw[h1,List.length_set],λi hi=>?_,λj i h=>?_]
      .rw[h2 i λq=>hi (Fw _ q),cM g,if_neg (λq=>hi (by rw[q];exact Fv))]
      .cases j with
       | zero =>
        simp at h
        subst h
        refine #[(d,f),(d',s),e1,?_,?_,hf]
        .rw[List.head?_eq_getElem?] at r;rw[r];rfl
        .rw[h2 i0 l,cM g,if_pos rfl]
       | succ j =>
        have n:ix[j]?=some (some i):=by simpa using h
        obtain ⟨p,q,a,b,c⟩:=h3 j i n
        have ii:i≠i0:=λz=>l (by rw[<- z];exact FL n)
        rw[cM g,if_neg ii] at a
        exact #[p,q,a,by rw[List.getElem?_tail] at b;exact b,c]
     .exact nsE e
theorem Wf.uncap (w:Wf K G H O Z T g) (hH:∀ b o,H b=some o->G.H0 b=some o) (S:Inj ix) (e:L3.uncap ix τρ Z=some Z2) (hR:∀ x∈R,x.f=.z) (r:Wf K (zY G ix O) H' Y' τρ (R++(sC ix Z.length g++T)) gC) :
  ∃ g2,Wf K G H' O Z2 (R++T) g2:=by
 obtain ⟨I,h2,h3⟩:=i6 e S
 let inv (i:Nat):Option Nat:=(List.range ix.length).find? λj=>decide (ix[j]?=some (some i))
 have A:∀ i j,inv i=some j->ix[j]?=some (some i):=λi j h=>by simpa using List.find?_some h
 have B:∀ i,inv i=none->some i ∉ ix:=λi h m=>by
  obtain ⟨k,τ,ek⟩:=List.mem_iff_getElem.mp m
  have:=List.find?_eq_none.mp h k (List.mem_range.mpr τ)
  simp[τ,ek] at this
 let g2 (i:Nat):Option It3:=match inv i with | some j=>gC j | none=>g i
 have val:∀ i u,g2 i=some u->(∃ j p q,ix[j]?=some (some i)/\gC j=some u/\(Z[i]?).join=some p/\(τρ[j]?).join=some q/\(q.2=p.2\/q.2=.z))\/(some i ∉ ix/\g i=some u):=λi u h=>by
  grind
 have out:∀ i u,some i ∉ ix->g i=some u->u∈sC ix Z.length g:=λi u C e=>by
  have s:=w.sl i
  rw[e] at s
  exact yO (fP s.symm) C e
 have back:∀ i j u,ix[j]?=some (some i)->gC j=some u->O[i]?=some (some u.v):=λi j u t l=>by
  have a:=r.sv j u l
  have b:=r.pro j (by show ((ix[j]?).join).isSome=true;rw[t];rfl)
  rw[a] at b
  have b:some (some u.v)=(L2.cap ix O)[j]?:=b
  unfold L2.cap at b
  rw[FP,t] at b
  have b:some (some u.v)=some ((O[i]?).getD none):=b
  cases q:O[i]? with
  | none=>rw[q] at b;cases b
  | some o=>rw[q] at b;cases b;rfl
 have N:∀ i j u p q,ix[j]?=some (some i)->gC j=some u->(Z[i]?).join=some p->(τρ[j]?).join=some q->(q.2=p.2\/q.2=.z)->∃ y,g i=some y/\y.v=u.v/\(u.f=y.f\/u.f=.z):=λi j u p q t l σ eq hf=>by
  obtain ⟨y,M,P,L,y4⟩:=w.slot (d:=p.1) (f:=p.2) σ
  have b:=back i j u t l
  rw[y4] at b
  have s:=r.sl j
  rw[l,eq] at s
  have s:some (u.d,u.f)=some q:=s
  refine #[y,M,by injection b with b;injection b,?_]
  rw[L,show u.f=q.2 by injection s with s;rw[<- s]]
  exact hf
 refine #[g2,#[by rw[I];exact w.len,λi=>?_,λi u h=>?_,λi u h=>?_,λu hu=>?_,λi k a b n ha F=>?_,λi a h b F=>?_,r.tt.sublist ((List.Sublist.refl R).append (FN _ T)),r.base,w.pro,#[λu hu hf=>?_,λi u h ρ hf a ea=>?_,r.fx.bin,λb o F=>?_,λi u h I=>?_]]]
 .show (match inv i with | some j=>gC j | none=>g i).map _=_
  cases X:inv i with
  | none=>rw[h2 i (B i X)];exact w.sl i
  | some j =>
   obtain ⟨p,q,a,b,c,_⟩:=h3 j i (A i j X)
   rw[c,<- b];exact r.sl j
 .rcases val i u h with ⟨j,p,q,t,l,_⟩ | ⟨C,e⟩
  .exact back i j u t l
  .exact w.sv i u e
 .rcases val i u h with ⟨j,p,q,t,l,_⟩ | ⟨C,e⟩
  .have ok:=r.okS j u l
   exact #[ok.rep,ok.own,ok.src]
  .have ok:=r.okT u (FC _ (FA _ (out i u C e)))
   exact #[ok.rep,ok.own,ok.src]
 .have ok:=r.okT u (by
   rcases FH.mp hu with q | q
   .exact FA _ q
   .exact FC _ (FC _ q))
  exact #[ok.rep,ok.own,ok.src]
 .rcases val i a ha with ⟨j,p,q,t,l,_⟩ | ⟨C,e⟩
  .rcases val k b F with ⟨Q,p',q',E,D,_⟩ | ⟨J,φ⟩
   .exact r.ss j Q a b (λz=>n (by subst z;rw[t] at E;injection E with z;injection z)) l D
   .exact (r.st j a l b (FC _ (FA _ (out k b J φ)))).1
  .rcases val k b F with ⟨Q,p',q',E,D,_⟩ | ⟨J,φ⟩
   .exact (r.st Q b D a (FC _ (FA _ (out i a C e)))).2
   .exact w.ss i k a b n e φ
 .have W:b∈R++(sC ix Z.length g++T):=by
   rcases FH.mp F with q | q
   .exact FA _ q
   .exact FC _ (FC _ q)
  rcases val i a h with ⟨j,p,q,t,l,_⟩ | ⟨C,e⟩
  .exact r.st j a l b W
  .rcases FH.mp F with q | q
   .exact ((List.pairwise_append.mp r.tt).2.2 b q a (FA _ (out i a C e))).symm
   .exact w.st i a e b q
 .rcases FH.mp hu with q | q
  .exact absurd (hR u q) hf
  .exact w.fx.frT u q hf
 .rcases val i u h with ⟨j,p,q,t,l,σ,eq,V⟩ | ⟨C,e⟩
  .obtain ⟨y,M,P,L⟩:=N i j u p q t l σ eq V
   refine w.fx.frS i y M ρ (λz=>hf ?_) a (by rw[P];exact ea)
   rcases L with h | h
   .rw[h];exact z
   .exact h
  .exact w.fx.frS i u e ρ hf a ea
 .obtain ⟨o',ho⟩:=w.fx.ob b o F
  have h0:=hH b o' ho
  by_cases q:G.bw b
  .exact r.fx.bin b q
  .exact #[o',r.base b o' h0 q]
 .rcases val i u h with ⟨j,p,q,t,l,σ,eq,V⟩ | ⟨C,e⟩
  .obtain ⟨y,M,P,L⟩:=N i j u p q t l σ eq V
   rw[<- P]
   refine w.fx.lvS i y M ?_
   rcases L with h | h
   .rw[<- h];exact I
   .rw[h] at I;cases I
  .exact w.fx.lvS i u e I
theorem wH {J:It} {H1:Hp} {ys els:List It3} {ds:List D} {bnd:D->Sto->Option Sto} {c:M3 Bool} {elt:EM} {tg:TG} {tc:TT} {te:TE} {Gc:Gm} {a:List It3} {j:List D} {τρ τρ':Sto} {gC:Nat->Option It3} {ρ:List V->Hp->Prop} {M:Addr->Prop}
  (hz:(16777216:Nat)=sizeLine) (G:∀ x∈els,x∈a/\x.f=.z)
  (R:∀ H',(∀ b o,H1 b=some o->¬ Gc.bw b->H' b=some o)->(∀ (i:Nat) (d:D),ds[i]?=some d->J.go i H'/\∀ x g,J.yld i H' x g->∃ w,New K H' g (cX els) w/\w.d=d/\w.f=.z/\w.v=x)/\J.stop ds.length H')
  (h0:Gc.H0=H1) (hb:Bnd K Gc.pr tg bnd) (ar:∀ O H Q,tT K Gc (λ_ _=>False) c O H Q->tc O H Q) (av:∀ O H Q,tE K Gc (λ_ _=>False) elt O H Q->te O H Q)
  (hlen:ds.length < 16777216) (w:Wf K Gc H1 Y τρ a gC) (e:cr bnd c elt ds τρ=some (.ok j,τρ'))
  (hZ:∀ (us:List It3) (Y':St) (H':Hp) (g':Nat->Option It3),(∀ x∈us,x.f=.z)->us.map (·.d)=j->Wf K Gc H' Y' τρ' (us++a) g'->ρ (us.map (·.v)) H'):rM J tg tc te ρ Y H1:=by
 refine #[λi m T Y' H'=>i<=ds.length/\m=ds.length - i/\T.length<=i/\∃ (us:List It3) (Z2:Sto) (g2:Nat->Option It3) (r:List D),(∀ x∈us,x.f=.z)/\us.map (·.v)=T/\Wf K Gc H' Y' Z2 (us++a) g2/\cr bnd c elt (ds.drop i) Z2=some (.ok r,τρ')/\us.map (·.d)++r=j,#[_,Nat.zero_le _,rfl,FQ _,[],τρ,gC,j,λ_ h=>(by cases h),rfl,w,e,rfl],?_]
 rintro i m T Y1 H2 ⟨hi,rfl,ax,us,Z2,g2,r,A,s,σ,N,k⟩
 refine #[by lia,?_]
 obtain ⟨ae,q⟩:=R H2 λb o φ hn=>σ.base b o (by rw[h0];exact φ) hn
 by_cases n:i < ds.length
 .obtain ⟨d,hd⟩:∃ d,ds[i]?=some d:=#[_,FE n]
  have B:ds.drop i=d::ds.drop (i+1):=by
   rw[List.drop_eq_getElem_cons n]
   rw[FE n] at hd
   cases hd;rfl
  rw[B] at N
  obtain ⟨go,yld⟩:=ae i d hd
  refine .inr ⟨go,λt Y5 X=>t.length<=i+1/\∃ (us:List It3) (Z5:Sto) (W:Nat->Option It3) (r:List D),(∀ x∈us,x.f=.z)/\us.map (·.v)=t/\Wf K Gc X Y5 Z5 (us++a) W/\cr bnd c elt (ds.drop (i+1)) Z5=some (.ok r,τρ')/\us.map (·.d)++r=j,
   λt Y5 X ⟨τ,h5⟩=>⟨ds.length - (i+1),by lia,n,rfl,τ,h5⟩,λx g F=>?_⟩
  obtain ⟨u,nu,ud,uf,uv⟩:=yld x g F
  have w3:Wf K Gc g Y1 Z2 (u::(us++a)) g2:=σ.push nu λc hc=>σ.alls (ys:=els) (λy F=>#[.inr (FC _ (G y F).1),(G y F).2]) hc
  have I:(match bnd d Z2 with
   | none=>none
   | some Y1=>ai c (λb=>if b then ai elt (λr=>ai (dF r) λp=>ai (cr bnd c elt (ds.drop (i+1))) λl=>bc (p.1::l)) else cr bnd c elt (ds.drop (i+1))) Y1)=some (.ok r,τρ'):=N
  cases e4:bnd d Z2 with
  | none=>rw[e4] at I;exact nsE I
  | some Z3 =>
   rw[e4] at I
   dsimp only at I
   rw[<- uv]
   refine hb Gc g Y1 Z2 Z3 _ g2 u _ rfl uf w3 (by rw[ud];exact e4) λY4 g4 w4=>?_
   refine ar _ _ _ (tT.seq (Le.refl K Gc _) w4 I (λx P=>by cases P) λb Z5 L X W w5=>?_)
   cases b with
   | false =>
    simp only[Ga,if_false] at L ⊢
    exact #[by lia,us,Z5,W,r,A,s,w5,L,k]
   | true =>
    simp only[if_true] at L ⊢
    refine av _ _ _ (tE.seq (Le.refl K Gc _) w5 L (λx P=>by cases P) λra Z6 e6 v H6 #[Ts,g6,w6,a6]=>?_)
    obtain ⟨p,Z7,g7,C,E,w7,f1,f2,_,f3⟩:=a6.take w6 e6
    have w8:=Wf.lowT (Ts:=[C]) w7
    unfold ai at E
    cases S:cr bnd c elt (ds.drop (i+1)) Z7 with
    | none=>rw[S] at E;exact nsE E
    | some pr =>
     obtain ⟨o,Z8⟩:=pr
     rw[S] at E
     cases o with
     | error x=>cases E
     | ok l =>
      cases E
      refine #[by rw[F2];simp;lia,us++[df C],Z7,g7,l,λy F=>?_,by rw[List.map_append,s,<- f3];rfl,?_,S,?_]
      .rcases FH.mp F with h | h
       .exact A y h
       .rw[F9.mp h];rfl
      .exact w8.perm (by
        show ([df C]++(us++a)).Perm (us++[df C]++a)
        rw[<- List.append_assoc]
        exact (List.perm_append_comm).append_right a)
      .rw[List.map_append,List.append_assoc]
       show us.map (·.d)++((df C).d::l)=j
       rw[show (df C).d=p.1 from f1]
       exact k
 .have ei:i=ds.length:=by lia
  subst ei
  rw[List.drop_length] at N
  cases N
  rw[List.append_nil] at k
  subst s
  exact .inl #[q,hZ us Y1 H2 g2 A k σ]
end
section
variable {K:FG} {G G0:Gm} {W W0:D->Sto->Prop} {H H':Hp} {O Y:St} {Z Z':Sto} {T T':List It3} {g:Nat->Option It3} {x y z:It3} {α β:Type} {ix:List (Option Nat)}
def bq (ix:List (Option Nat)):Gm:=#[λ_=>none,λ_=>False,λj=>((ix[j]?).join).isSome,[],λ_=>none,λ_=>False,λ_=>none]
abbrev noX:D->Sto->Prop:=λ_ _=>False
theorem uO (h:G1.pr=(bq ix).pr) (le:Le K G W G1 noX):Le K G W (bq ix) noX:=⟨le.pr.trans h,λH O Z T g e w q=>by
 obtain ⟨_,_,_,_,f⟩:=le.ex H O Z T g e w q
 exact f.elim⟩
theorem AA (h:G1.pr=(bq ix).pr) (q:tE K G1 noX m O H Q):tE K (bq ix) noX m O H Q:=by
 obtain ⟨G,W,le,r⟩:=q
 exact #[G,W,uO h le,r]
theorem Au (h:G1.pr=(bq ix).pr) (q:tT K G1 noX m O H Q):tT K (bq ix) noX m O H Q:=by
 obtain ⟨G,W,le,r⟩:=q
 exact #[G,W,uO h le,r]
def en:M3 Bool:=bc true
theorem CV (h:tT K G0 W0 en O H Q):tYes O H Q:=by
 refine h.use λG W le Z T g o Z' w e q=>?_
 cases e
 exact q _ _ w
theorem kj:∀ {ds a:List D} {τρ τρ':Sto},cr bnd c elt ds τρ=some (.ok a,τρ')->a.length<=ds.length
 | [],a,τρ,τρ',e=>by cases e;exact FQ _
 | d::ds,a,τρ,τρ',e=>by
  unfold cr at e
  split at e
  .exact nsE e
  .rename_i Y1 _
   unfold ai at e
   split at e
   .exact nsE e
   .cases e
   .rename_i b Y2 _
    cases b with
    | false =>
     simp only[Ga,if_false] at e
     have:=kj e
     simp;lia
    | true =>
     simp only[if_true] at e
     split at e
     .exact nsE e
     .cases e
     .split at e
      .exact nsE e
      .cases e
      .split at e
       .exact nsE e
       .cases e
       .rename_i l Y5 f
        cases e
        have:=kj f
        simp;lia
theorem rh (hz:(16777216:Nat)=sizeLine) (A:Inj ix) (φ:Bnd K (bq ix).pr tg bnd) (le:Le K G W G0 W0) (w:Wf K G H O Z T g) (e:bU im bnd c elt ix Z=some (o,Z')) (he:∀ x,o=.error x->W x Z') (hZ:∀ (us:List It3) (H':Hp) (g':Nat->Option It3) (Ts:List It3) (ds:List D),o=.ok (.val (.lst ds) .u)->(∀ x∈us,x.f=.z)->us.map (·.d)=ds->us.length<=16777216->Wf K G H' O Z' (us++T) g'->ρ (us.map (·.v)) H') :
  tI K G0 W0 im O H λJ H1=>rM J tg (tT K (bq ix) noX c) (tE K (bq ix) noX elt) ρ (cap ix O) H1:=by
 refine tI.seq le w e he λp Z1 e1=>?_
 intro J H1 vs Ts g1 ys m a1 S hw
 have I:=us_u (is:=pls p.1) m
 have N:∀ i y,i∈pls p.1->g1 i=some y->y.f=.u->i∈us Z1 (pls p.1):=λi y hi X hf=>wZ m hi X hf
 generalize us Z1 (pls p.1)=is at e1 I N
 have w2:=m.enter is
 obtain ⟨els,k,walk⟩:=hw
 have hM:∀ b,(∃ j y,j ∉ is/\g1 j=some y/\y.f=.u/\y.v=.ref b)->MutAt H1 b:=λb #[j,y,_,X,hf,n]=>by
  obtain ⟨_,a,L',v1,v2,_⟩:=(m.okS j y X).own (by rw[hf];intro q;cases q)
  rw[n] at v1;cases v1
  exact (m.okS j y X).rep.inH b (by rw[v2];exact Fv)
 have E:∀ y∈ys,∀ b∈y.L,¬ ∃ j y,j ∉ is/\g1 j=some y/\y.f=.u/\y.v=.ref b:=λy σ b φ #[j,y',nj,l,hf,n]=>by
  have C:y'.f≠.z:=by rw[hf];intro q;cases q
  rcases S y σ with ⟨i,hi,t⟩ | σ
  .by_cases ij:i=j
   .subst ij
    rw[t] at l;cases l
    exact nj (N i y hi t hf)
   .exact m.ss j i y' y (Ne.symm ij) l t C b n φ
  .exact (m.st j y' l y (FA _ σ)).1 C b n φ
 have F:∀ y∈ys,Itm (Ts++T) g1 y:=λy σ=>by
  rcases S y σ with ⟨i,_,t⟩ | h
  .exact .inl #[i,t]
  .exact .inr (FA _ h)
 have kid:∀ x∈els,∀ c∈x.L,dN ((Ts++T).map bB) (λj=>if j∈is then (g1 j).map bB else g1 j) c/\(H1 c=none\/(G.H0 c=none\/G.src c)):=λx r c hc=>by
  obtain ⟨τ,sr⟩:=m.kids F ((k x r).2.2 c hc)
  refine #[#[λi z s hf n=>?_,λz hz hf n=>?_],.inr sr]
  .have s:(if i∈is then (g1 i).map bB else g1 i)=some z:=s
   by_cases q:i∈is
   .rw[if_pos q] at s
    obtain ⟨z0,e0,e1⟩:=Fz.mp s
    subst e1
    exact τ.1 i z0 e0 (λq=>hf (lentF_z.mpr q)) n
   .rw[if_neg q] at s
    exact τ.1 i z s hf n
  .obtain ⟨z0,h0,rfl⟩:=FO.mp hz
   exact τ.2 z0 h0 (λq=>hf (lentF_z.mpr q)) n
 have w3:Wf K (d6 G H1 g1 is) H1 O (aM cK is Z1) (els++(Ts++T).map bB) (λj=>if j∈is then (g1 j).map bB else g1 j):=w2.pushAll λx r=>#[(k x r).1,(k x r).2.1,λc hc=>kid x r c hc]
 have w4:=w3.cap A
 cases V:cr bnd c elt p.2 (tD ix (aM cK is Z1)) with
 | none=>rw[V] at e1;exact nsE e1
 | some rr =>
  obtain ⟨o2,τρ⟩:=rr
  rw[V] at e1
  cases o2 with
  | error x=>exact nsE e1
  | ok ds =>
   dsimp only at e1
   split at e1
   .rename_i hlen
    cases e3:uncap ix τρ (aM cK is Z1) with
    | none=>rw[e3] at e1;exact nsE e1
    | some Z3 =>
     rw[e3] at e1
     have eo:o=.ok (.val (.lst ds) .u)/\Z'=aM gj is Z3:=by cases e1;exact #[rfl,rfl]
     obtain ⟨eo,eρ⟩:=eo
     refine wH (K:=K) (Gc:=zY (d6 G H1 g1 is) ix O) (els:=els) (M:=λ_=>False) (ys:=ys) hz (λx r=>#[FC _ (FA _ r),(k x r).1]) (λH' hk=>walk _ H' hM hk E) rfl φ (λO' H Q q=>Au (G1:=zY (d6 G H1 g1 is) ix O) rfl q) (λO' H Q q=>AA (G1:=zY (d6 G H1 g1 is) ix O) rfl q) hlen w4 V λus Y' H' g' P B w5=>?_
     obtain ⟨g6,w6⟩:=Wf.uncap w3 (λb o h=>h) A e3 P w5
     have w7:=Wf.leave (T:=Ts++T) (T':=T) (R:=us) m I (FN Ts T) (w6.sub ((List.Sublist.refl us).append (by
      rw[List.map_append]
      exact (FN (Ts.map bB) (T.map bB)).trans (FN els _))))
     have hle:us.length<=16777216:=by
      have h1:us.length=ds.length:=by rw[<- B,FJ]
      have h2:=kj V
      lia
     rw[<- eρ] at w7
     exact hZ us H' _ Ts ds eo P B hle w7
   .exact nsE e1
theorem oj {us:List It3} (w:Wf K G H O Z (us++T) g) (j:∀ x∈us,x.f=.z) (b:H p=none) :
  Wf K G (upd H p (.lst (us.map (·.v)))) O Z (#[.lst (us.map (·.d)),.ref p,p::(us.map (·.L)).flatten,.u]::T) g:=by
 have hi:∀ y∈us,Itm (us++T) g y/\y.f=.z:=λy i=>#[.inr (FA _ i),j y i]
 have np:p ∉ (us.map (·.L)).flatten:=λa=>by
  obtain ⟨y,hm,a⟩:=fc a
  obtain ⟨o,k⟩:=((w.itm (hi y hm).1).rep.inH p a).ex
  rw[b] at k;exact nsE k
 have n:New K H (upd H p (.lst (us.map (·.v)))) (cX us) ⟨.lst (us.map (·.d)),.ref p,p::(us.map (·.L)).flatten,.u⟩:=⟨bz b,.lst aF ((lc λy i=>(w.itm (hi y i).1).rep).same (bz b)),λc a=>by
  rcases FD.mp a with e | a
  .rw[e];exact .inl b
  .exact .inr (fc a),λ_=>⟨rfl,p,_,rfl,rfl,np,b⟩⟩
 exact (w.push n λc h=>w.alls hi h).sub (List.Sublist.cons_cons _ (FN us T))
theorem AC (hz:(16777216:Nat)=sizeLine) (b:Inj ix) (j:Bnd K (bq ix).pr tg bnd) (h:tE K G0 W0 (bU im bnd c elt ix) O H Q) :
  Cj (tI K G0 W0 im) tg (tT K (bq ix) noX c) (tE K (bq ix) noX elt) ix O H Q:=by
 refine h.use λG W le Z T g o Z' w e q=>?_
 refine rh hz b j le w e q.err λus H' g' Ts ds k a f n l=>?_
 subst k f
 intro p i
 have m:=oj l a i
 exact q (.ref p) _ #[[_],g',m,Ar.val (#[.lst (us.map (·.d)),.ref p,p::(us.map (·.L)).flatten,.u]:It3)]
theorem rS {i:Nat} (hz:(16777216:Nat)=sizeLine) (j:Inj ix) (y:Bnd K (bq ix).pr tg bnd) (m:G0.pr i=false) (h:tS K G0 W0 (aX i (bU im bnd c elt ix)) E O H) :
  Cm i (tI K G0 W0 im) tg (tT K (bq ix) noX c) (tE K (bq ix) noX elt) ix E O H:=by
 refine h.use λG W le Z T g r Z' w e q=>?_
 unfold aX ai at e
 cases e1:bU im bnd c elt ix Z with
 | none=>rw[e1] at e;exact nsE e
 | some pr =>
  obtain ⟨o,Z1⟩:=pr
  rw[e1] at e
  have a:∀ x,o=.error x->W x Z1:=λx n=>by subst n;cases e;exact q
  refine rh hz j y le w e1 a λus H' g' Ts ds s b l z t=>?_
  subst s l
  intro p k
  have v:=oj t b k
  have e:(if i < Z1.length then some ((.ok .nx,Z1.set i (some (D.lst (us.map (·.d)),Fl.u))):Except D Flw×Sto) else none)=some (r,Z'):=e
  split at e
  .rename_i hi
   cases e
   exact q _ _ _ (v.store (f:=.u) hi (by rw[le.pr];exact m) (.inl rfl) (by intro h;cases h))
  .exact nsE e
end
section
variable {K:FG} {G G0:Gm} {W W0:D->Sto->Prop} {H H':Hp} {O:St} {Z Z':Sto} {T T':List It3} {g:Nat->Option It3} {x y z:It3} {α β:Type}
theorem Wf.mutate {i:Nat} (w:Wf K G H O Z T g) (C:g i=some y) (hu:y.f=.u) (ev:y.v=.ref a) (hm:jI d'=true) (rep:Rep K (upd H a o') d' (.ref a) (a::B)) (na:a ∉ B) (P:∀ c∈B,dN T g c/\(G.H0 c=none\/G.src c)):Wf K G (upd H a o') O (Z.set i (some (d',.u))) T (λj=>if j=i then some #[d',.ref a,a::B,.u] else g j):=by
 have l:y.f≠.z:=by rw[hu];intro q;cases q
 have R:=w.okS i y C
 obtain ⟨_,a',L',v1,v2,v3,v4⟩:=R.own l
 rw[ev] at v1;cases v1
 have hi:i < Z.length:=by
  have:=w.sl i
  rw[C] at this
  exact fP this.symm
 have ma:MutAt H a:=R.rep.inH a (by rw[v2];exact Fv)
 have val:∀ j u,(if j=i then some (#[d',.ref a,a::B,.u]:It3) else g j)=some u->(j=i/\u=#[d',.ref a,a::B,.u])\/(j≠i/\g j=some u):=λj u h=>by
  by_cases q:j=i
  .rw[if_pos q] at h;cases h;exact .inl #[q,rfl]
  .rw[if_neg q] at h;exact .inr #[q,h]
 have keep:∀ u,ItOk K G H u->a ∉ u.L->ItOk K G (upd H a o') u:=λu ou hn=>ou.keep (M:=λb=>b=a) (λb o x n=>by rw[aw n];exact x) (λb e=>by rw[e];exact ma) λb x e=>hn (by rw[<- e];exact x)
 have V:∀ j u,j≠i->g j=some u->a ∉ u.L:=λj u n e=>w.ss i j y u (Ne.symm n) C e l a ev
 have W:∀ u∈T,a ∉ u.L:=λu s=>(w.st i y C u s).1 l a ev
 have I:∀ b o,H b=some o->∃ S,upd H a o' b=some S:=λb o x=>by
  by_cases q:b=a
  .rw[q,aF];exact #[_,rfl]
  .rw[aw q];exact #[o,x]
 refine #[by rw[List.length_set];exact w.len,λj=>?_,λj u h=>?_,λj u h=>?_,λu s=>keep u (w.okT u s) (W u s),λj k p q n N τ=>?_,λj u h t D=>?_,w.tt,λb o e n=>?_,w.pro,#[w.fx.frT,λj u h N hf b Q=>?_,λb x=>?_,λb o x=>?_,λj u h X=>?_]]
 .rw[cM hi]
  by_cases q:j=i
  .rw[if_pos q,if_pos q];rfl
  .rw[if_neg q,if_neg q];exact w.sl j
 .rcases val j u h with ⟨rfl,rfl⟩ | ⟨n,h⟩
  .rw[w.sv j y C,ev]
  .exact w.sv j u h
 .rcases val j u h with ⟨rfl,rfl⟩ | ⟨n,h⟩
  .refine #[rep,λ_=>#[hm,a,B,rfl,rfl,na,λ_=>v4 hu],λc d=>?_]
   rcases FD.mp d with e | d
   .rw[e];exact R.src a (by rw[v2];exact Fv)
   .exact (P c d).2
  .exact keep u (w.okS j u h) (V j u n h)
 .rcases val j p N with ⟨J,ep⟩ | ⟨n1,r⟩
  .rcases val k q τ with ⟨ek,eq⟩ | ⟨ρ,A⟩
   .exact absurd (J.trans ek.symm) n
   .rw[ep]
    intro _ c m
    cases m
    exact V k q ρ A
  .rcases val k q τ with ⟨ek,eq⟩ | ⟨ρ,A⟩
   .rw[eq]
    intro hf c m d
    rcases FD.mp d with e | d
    .obtain ⟨_,b,L2,F,σ,_⟩:=(w.okS j p r).own hf
     rw[m] at F;cases F
     exact V j p n1 r (by rw[<- e,σ];exact Fv)
    .exact (P c d).1.1 j p r hf m
   .exact w.ss j k p q n r A
 .rcases val j u h with ⟨J,E⟩ | ⟨n,h'⟩
  .rw[E]
   refine #[λ_ c m=>by cases m;exact W t D,λhf c m d=>?_]
   rcases FD.mp d with e | d
   .obtain ⟨_,b,L2,F,σ,_⟩:=(w.okT t D).own hf
    rw[m] at F;cases F
    exact W t D (by rw[<- e,σ];exact Fv)
   .exact (P c d).1.2 t D hf m
  .exact w.st j u h' t D
 .have:b≠a:=λz=>by
   subst z
   rcases v4 hu with h | h
   .rw[e] at h;cases h
   .exact n h
  rw[aw this];exact w.base b o e n
 .rcases val j u h with ⟨J,E⟩ | ⟨n,h'⟩
  .subst J
   rw[E] at Q
   cases Q
   exact w.fx.frS j y C N l a ev
  .exact w.fx.frS j u h' N hf b Q
 .obtain ⟨o,φ⟩:=w.fx.bin b x
  exact I b o φ
 .obtain ⟨o2,φ⟩:=w.fx.ob b o x
  exact I b o2 φ
 .rcases val j u h with ⟨J,E⟩ | ⟨n,h'⟩
  .rw[E] at X;cases X
  .exact w.fx.lvS j u h' X
def MutD (K:FG) (r:V->List V->Hp->VK->Prop) (f:D->List D->Option (D×D)):Prop:=∀ (a:Addr) (d:D) (b:List Addr) (as:List It3) (H:Hp) (Q:VK) (p:D×D),Rep K H d (.ref a) (a::b)->jI d=true->a ∉ b->(∀ x∈as,Rep K H x.d x.v x.L)->(∀ x∈as,a ∉ x.L)->f d (as.map (·.d))=some p ->
 (∀ (o':HO) (e:List Addr) (w:It3),Rep K (upd H a o') p.1 (.ref a) (a::e)->jI p.1=true->(∀ c∈e,c∈b\/cX as c)->w.f=.z->w.d=p.2->Rep K (upd H a o') w.d w.v w.L->(∀ c∈w.L,c∈b\/cX as c)->Q w.v (upd H a o'))->r (.ref a) (as.map (·.v)) H Q
def chk (ok:D->Bool) (i:Nat):M3 Unit:=λZ=>match (Z[i]?).join with
 | some (d,_)=>if ok d then some (.ok (),Z) else none
 | none=>none
theorem pZ {i:Nat} (e:ai (ad i) k Z=some (r,Z')):∃ p,(Z[i]?).join=some p/\k (.pl i) Z=some (r,Z'):=by
 unfold ai ad at e
 cases q:(Z[i]?).join with
 | none=>rw[q] at e;exact nsE e
 | some p=>rw[q] at e;exact #[p,rfl,e]
theorem zV {i:Nat} (e:ai (chk ok i) k Z=some (r,Z')):(∀ p,(Z[i]?).join=some p->ok p.1=true)/\k () Z=some (r,Z'):=by
 unfold ai chk at e
 grind
def we (ok:D->Bool) (f:D->List D->Option (D×D)) (i:Nat) (ms:M3 (List R3)):EM:=ai (ad i) λ_=>ai (chk ok i) λ_=>ai ms λrs=>ai (gives rs) λds=>λZ=>match (Z[i]?).join with
 | some (d,.u)=>match f d ds with
  | some p=>some (.ok (.val p.2 .z),Z.set i (some (p.1,.u)))
  | none=>none
 | _=>none
theorem Wf.changed {i:Nat} {as us:List It3} (φ:MutD K r f) (w:Wf K G H O Z (us++T) g) (e:(Z[i]?).join=some (d,.u)) (X:O[i]?=some (some v)) (D:∀ y∈as,Itm (us++T) g y/\y.f=.z) (ρ:f d (as.map (·.d))=some p) (q:∀ v H',Got K G O (Z.set i (some (p.1,.u))) T (.val p.2 .z) v H'->Q v H'):r v (as.map (·.v)) H Q:=by
 obtain ⟨y,B,σ,J,t⟩:=w.slot e
 rw[X] at t
 injection t with t
 injection t with t
 have n:y.f≠.z:=by rw[J];intro q;cases q
 have F:=w.okS i y B
 obtain ⟨m,a,E,v1,v2,I,_⟩:=F.own n
 have ra:=F.rep
 rw[v1,v2,σ] at ra
 rw[σ] at m
 rw[t,v1]
 have na:∀ x∈as,a ∉ x.L:=λx o b=>by
  have:=(w.kid (D x o).1 b λhf=>absurd (D x o).2 hf).1 i y B n
  exact this v1
 refine φ a d E as H Q p ra m I (λx o=>(w.itm (D x o).1).rep) na ρ λo' R u r1 S s1 N P W A=>?_
 have k:∀ c,(c∈E\/cX as c)->dN (us++T) g c/\(G.H0 c=none\/G.src c):=λc b=>by
  rcases b with b | b
  .have C:c∈y.L:=by rw[v2];exact Fw _ b
   exact #[w.kid (.inl #[i,B]) C λ_ l=>by rw[v1] at l;cases l;exact I b,F.src c C]
  .exact w.alls D b
 have M:∀ c,(c∈E\/cX as c)->c≠a:=λc b z=>(k c b).1.1 i y B n (by rw[z];exact v1)
 have V:=w.mutate (o':=o') B J v1 S r1 (λh=>M a (s1 a h) rfl) λc b=>k c (s1 c b)
 have τ:=V.pushAll (ws:=[u]) λx o=>by
  rw[F9.mp o]
  refine #[N,W,λc b=>?_]
  have s:=k c (A c b)
  refine #[#[λj z l hf hz=>?_,s.1.2],s.2]
  have l:(if j=i then some (#[p.1,.ref a,a::R,.u]:It3) else g j)=some z:=l
  by_cases q:j=i
  .rw[if_pos q] at l
   cases l
   cases hz
   exact M a (A a b) rfl
  .rw[if_neg q] at l
   exact s.1.1 j z l hf hz
 rw[<- P,<- N] at q
 exact q u.v _ #[[u],_,τ.sub ((List.Sublist.refl [u]).append (FN us T)),.val u]
theorem Dc {i:Nat} (A:MutD K r f) (hok:∀ d v L H,ok d=true->Rep K H d v L->tyV K Ty v H) (h:tE K G0 W0 (we ok f i ms) O H Q):tBM K Ty r (vA i) (tA K G0 W0 ms) O H Q:=by
 refine h.use λG W le Z T g o Z' w e q=>?_
 obtain ⟨m,j,e⟩:=pZ e
 obtain ⟨n,e⟩:=zV e
 obtain ⟨s,f0⟩:=m
 obtain ⟨y,t,F,I,k⟩:=w.slot j
 refine #[y.v,k,hok s y.v y.L H (n _ j) (by rw[<- F];exact (w.okS i y t).rep),?_]
 refine tA.seq le w e q.err λrs Z1 e1 J H1 Ts g1 C a1=>?_
 obtain ⟨ds,Z2,g2,a,_,D,_,ys,B,f1,f2⟩:=a1.gives C e1
 subst f1 f2
 cases b:(Z2[i]?).join with
 | none=>rw[b] at a;exact nsE a
 | some p3 =>
  obtain ⟨x,E⟩:=p3
  rw[b] at a
  cases E with
  | u =>
   dsimp only at a
   cases c:f x (ys.map (·.d)) with
   | none=>rw[c] at a;exact nsE a
   | some p =>
    rw[c] at a
    cases a
    exact D.changed A b k B c q
  | l=>exact nsE a
  | z=>exact nsE a
def lS (t:V->V->V->Hp->(Hp->Prop)->Prop):V->List V->Hp->VK->Prop:=λx a H Q=>∃ k v,a=[k,v]/\t x k v H λH'=>Q .non H'
def mP (f:D->List D->Option (D×D)) (i:Nat) (mk c:EM):SM:=ai c λa=>ai (ad i) λ_=>ai mk λb=>ai (gives [b,a]) λds=>λZ=>match (Z[i]?).join with
 | some (d,.u)=>match f d ds with
  | some p=>some (.ok .nx,Z.set i (some (p.1,.u)))
  | none=>none
 | _=>none
theorem CZ {i:Nat} (I:MutD K (lS t) f) (h:tS K G0 W0 (mP f i mk mv) E O H):xv (tE K G0 W0 mv) (gSub (vA i) (tE K G0 W0 mk) t) E O H:=by
 refine h.use λG W le Z T g r Z' w e q=>?_
 refine tE.seq le w e q.err λC Z1 e1 v H1 #[Ts,g1,k,a1]=>?_
 obtain ⟨n,B,e1⟩:=pZ e1
 obtain ⟨V,f0⟩:=n
 obtain ⟨y,X,y2,φ,m⟩:=k.slot B
 refine #[y.v,m,?_]
 .refine tE.seq le k e1 q.err λL Z2 J F H2 #[Us,g2,σ,a2]=>?_
  have R:Ars O [L,C] [F,v] (([]++Ts)++Us):=.cons a2 (.cons a1 .nil)
  have s:Wf K G H2 O Z2 ((([]++Ts)++Us)++T) g2:=σ.perm (by
   rw[List.nil_append,<- List.append_assoc]
   exact (List.perm_append_comm).append_right T)
  obtain ⟨ds,Z3,g3,a,_,N,_,ys,M,f1,f2⟩:=R.gives s J
  subst f1
  cases j:(Z3[i]?).join with
  | none=>rw[j] at a;exact nsE a
  | some p3 =>
   obtain ⟨D,P⟩:=p3
   rw[j] at a
   cases P with
   | u =>
    dsimp only at a
    cases b:f D (ys.map (·.d)) with
    | none=>rw[b] at a;exact nsE a
    | some p =>
     rw[b] at a
     cases a
     have:=N.changed (Q:=λ_ H'=>E.nx O H') I j m M b λx H' #[A,ρ,S,a5]=>q _ _ _ (S.sub (FN A T))
     rw[f2] at this
     obtain ⟨τ,x,c,o⟩:=this
     cases c
     exact o
   | l=>exact nsE a
   | z=>exact nsE a
end
structure RE (X:Cx) (G0:Gm) (W0:D->Sto->Prop) (e:Expr) (m:EM):Prop where
 h:PE X e (tE X.K G0 W0 m)
structure RT (X:Cx) (G0:Gm) (W0:D->Sto->Prop) (e:Expr) (m:M3 Bool):Prop where
 h:PT X e (tT X.K G0 W0 m)
structure RW (X:Cx) (G0:Gm) (W0:D->Sto->Prop) (e:Expr) (m:M3 Bool):Prop where
 h:PW X e (tT X.K G0 W0 m)
structure RA (X:Cx) (G0:Gm) (W0:D->Sto->Prop) (es:List Expr) (m:M3 (List R3)):Prop where
 h:PA X es (tA X.K G0 W0 m)
structure RS (X:Cx) (G0:Gm) (W0:D->Sto->Prop) (s:Stmt) (m:SM):Prop where
 h:PS X s (tS X.K G0 W0 m)
structure RSs (X:Cx) (G0:Gm) (W0:D->Sto->Prop) (s:List Stmt) (m:SM):Prop where
 h:PSs X s (tS X.K G0 W0 m)
structure RI (X:Cx) (G0:Gm) (W0:D->Sto->Prop) (tg iter:Expr) (m:IM):Prop where
 h:PI X tg iter (tI X.K G0 W0 m)
structure RG (X:Cx) (pr:Nat->Bool) (target:Expr) (bnd:D->Sto->Option Sto):Prop where
 h:∃ tg,PG X target tg/\Bnd X.K pr tg bnd
structure RGs (X:Cx) (pr:Nat->Bool) (targets:List Expr) (bnd:List D->Sto->Option Sto):Prop where
 h:∃ tg,PGs X targets tg/\Am X.K pr tg bnd
theorem PE.imp (h:PE X e t) (f:∀ O H Q,t' O H Q->t O H Q):PE X e t':=λpins s O H Q I q=>h pins s O H Q I (f O H Q q)
theorem PT.imp (h:PT X e t) (f:∀ O H Q,t' O H Q->t O H Q):PT X e t':=λpins s O H Q I q=>h pins s O H Q I (f O H Q q)
theorem PW.imp (h:PW X e t) (f:∀ O H Q,t' O H Q->t O H Q):PW X e t':=λa pins s O H Q I q=>h a pins s O H Q I (f O H Q q)
theorem PA.imp (h:PA X e t) (f:∀ O H Q,t' O H Q->t O H Q):PA X e t':=λpos pins s O H Q I q=>h pos pins s O H Q I (f O H Q q)
theorem PS.imp (h:PS X e t) (f:∀ D O H,t' D O H->t D O H):PS X e t':=λpins s O H D I q=>h pins s O H D I (f D O H q)
theorem PSs.imp (h:PSs X e t) (f:∀ D O H,t' D O H->t D O H):PSs X e t':=λpins s O H D I q=>h pins s O H D I (f D O H q)
theorem PI.imp (h:PI X tg e t) (f:∀ O H R,t' O H R->t O H R):PI X tg e t':=λpins s O H R I q=>h pins s O H R I (f O H R q)
theorem szl:(16777216:Nat)=sizeLine:=by rw[sizeLine_eq]
section
variable {X:Cx} {G0:Gm} {W0:D->Sto->Prop} {a b c e:Expr} {es:List Expr} {pos:Pos} {ma mb mc m:EM} {ms:M3 (List R3)} {t u:M3 Bool} {eh:List Expr}
theorem oM (i:Nat) (b:X.N[i]?=some x) (c:Vis X.env.scope x) (hd:(x == ("__debug__":Str))=false) (a:(x == ("__classdict__":Str))=false):RE X G0 W0 (.Name x pos) (ad i):=#[PE.imp (oP b c hd a) λ_ _ _ h=>C9 h]
theorem DJ:RE X G0 W0 (.Constant (.int i) j pos) (mC (.int i)):=#[PE.imp oQ λ_ _ _ h=>gp (λ_=>.int i) h]
theorem re_bl:RE X G0 W0 (.Constant (.bool i) j pos) (mC (.bl i)):=#[PE.imp pe_bl λ_ _ _ h=>gp (λ_=>.bl i) h]
theorem DH:RE X G0 W0 (.Constant .none j pos) (mC .non):=#[PE.imp Ed λ_ _ _ h=>gp (λ_=>.non) h]
theorem DE:RE X G0 W0 (.Constant (.str i) j pos) (mC (.str i)):=#[PE.imp yI λ_ _ _ h=>gp (λ_=>.str i) h]
theorem qo {i:Int} (a:Gl X x) (hm:X.mg x=some (.int i tk)) (hd:(x == ("__debug__":Str))=false):RE X G0 W0 (.Name x pos) (mC (.int i)):=#[PE.imp (uD (v:=V.int i) a hm #[_,rfl] hd) λ_ _ _ h=>gp (λ_=>.int i) h]
theorem jZ (d:OpR X (binaryOp op) r) (hd:OpD X.K r f) (c:RE X G0 W0 a ma) (e:RE X G0 W0 b mb):RE X G0 W0 (.BinOp a op b pos) (am f ma mb):=#[PE.imp (pe_op d c.h e.h) λ_ _ _ h=>oE hd h]
theorem re_un (c:UnR X (unaryOp op) r) (hd:UnD X.K r f) (b:RE X G0 W0 a ma):RE X G0 W0 (.UnaryOp op a pos) (mUn f ma):=#[PE.imp (pe_un c b.h) λ_ _ _ h=>xt hd h]
theorem lR (d:OpR X (compareOp op) r) (hd:OpD X.K r f) (c:RE X G0 W0 a ma) (e:RE X G0 W0 b mb) (hm:behindInMarks op b=false):RE X G0 W0 (.Compare a [op] [b] pos) (am f ma mb):=#[PE.imp (Bs d c.h e.h hm) λ_ _ _ h=>oE hd h]
theorem re_ix (e:IxR X r) (hd:OpD X.K r f) (c:RE X G0 W0 a ma) (g:RE X G0 W0 b mb) (d:vn b):RE X G0 W0 (.Subscript a b pos) (am f ma mb):=#[PE.imp (pe_ix e c.h g.h d) λ_ _ _ h=>oE hd h]
theorem DM (c:RE X G0 W0 a ma) (d:RE X G0 W0 (.BoolOp .And (b::eh) pos) mb):RE X G0 W0 (.BoolOp .And (a::b::eh) pos) (iS ma mb):=#[PE.imp (Ej c.h d.h) λ_ _ _ h=>De h]
theorem DF (h:RE X G0 W0 a ma):RE X G0 W0 (.BoolOp op [a] pos) ma:=#[Eb h.h]
theorem DG (b:RE X G0 W0 a ma):RE X G0 W0 (.UnaryOp .Not a pos) (qU ma):=#[PE.imp (Ec b.h) λ_ _ _ h=>Db h]
theorem re_if (f:RT X G0 W0 c t) (d:RE X G0 W0 a ma) (e:RE X G0 W0 b mb):RE X G0 W0 (.IfExp c a b pos) (mIf t ma mb):=#[PE.imp (yK f.h d.h e.h) λ_ _ _ h=>tE_if h]
def eU (f b:D->D->Option (D×Fl)) (ma mb mc:EM):EM:=ai ma λra=>ai mb λrb=>ai (der ra) λda=>ai (der rb) λdb=>ai (bh ((f da db).bind λp=>asB p.1)) λk=>if k then ai mc λrc=>ai (der rb) λdb=>ai (der rc) λa=>bh ((b db a).map λp=>R3.val p.1 p.2) else bc (.val (.bl false) .z)
theorem Dt (b:RE X G0 W0 a ma) (he:∀ whole,isTrue a X.env whole=(do let v <- whole;standAt a.pos;holding [v] (truthy v))):RT X G0 W0 a (cB ma):=#[PT.imp (DS b.h he) λ_ _ _ h=>tT_b h]
theorem rt_w (h:RW X G0 W0 a t):RT X G0 W0 a t:=#[h.h.pt]
theorem AO (b:RT X G0 W0 a t):RW X G0 W0 (.BoolOp .And [a] pos) t:=#[Be b.h]
theorem Do (b:RT X G0 W0 a t):RW X G0 W0 (.BoolOp .Or [a] pos) t:=#[DP b.h]
theorem Dp (c:RT X G0 W0 a t) (d:RW X G0 W0 (.BoolOp .And (b::eh) pos) u):RW X G0 W0 (.BoolOp .And (a::b::eh) pos) (ko t u):=#[PW.imp (DQ c.h d.h) λ_ _ _ h=>CY h]
theorem rw_or (c:RT X G0 W0 a t) (d:RW X G0 W0 (.BoolOp .Or (b::eh) pos) u):RW X G0 W0 (.BoolOp .Or (a::b::eh) pos) (cOr t u):=#[PW.imp (pw_or c.h d.h) λ_ _ _ h=>tT_or h]
theorem Du (b:RT X G0 W0 a t):RT X G0 W0 (.UnaryOp .Not a pos) (dE t):=#[PT.imp (DT b.h) λ_ _ _ h=>CW h]
theorem yq:RA X G0 W0 [] ak:=#[PA.imp lV λ_ _ _ h=>Dg h]
theorem ut (a:RE X G0 W0 e m) (b:RA X G0 W0 es ms) (c:starEach (e::es) X.env=(false,eval e X.env)::starEach es X.env):RA X G0 W0 (e::es) (aa m ms):=#[PA.imp (fL a.h b.h c) λ_ _ _ h=>AE h]
theorem DD (h:RA X G0 W0 es ms):RE X G0 W0 (.Tuple es x1 pos) (bg ms):=#[PE.imp (yH h.h) λ_ _ _ h=>Da szl h]
theorem DI (h:RA X G0 W0 es ms):RE X G0 W0 (.List es pos) (cw ms):=#[PE.imp (Ee h.h) λ_ _ _ h=>Dd szl h]
theorem dm {id:String} (j:CallR X (.builtin id) r) (hd:cS X.K r f) (g:Gl X x) (hm:X.mg x=none) (d:bootBuiltins x=some (.builtin id)) (i:RA X G0 W0 (e::es) ms) (c:x≠"__name__") (a:(x == ("__debug__":Str))=false) (he:starEach (e::es) X.env=(false,eval e X.env)::starEach es X.env) (b:(backTo pos (starEach es X.env)).any (·.1)=false):RE X G0 W0 (.Call (.Name x p) (e::es) [] pos) (aC f ms):=#[PE.imp (jB j g hm d i.h c a he b) λ_ _ _ h=>lD hd h]
theorem jY (j:CallR X (.type T) r) (hd:cS X.K r f) (g:Gl X x) (hm:X.mg x=none) (d:bootBuiltins x=some (.type T)) (i:RA X G0 W0 (e::es) ms) (c:x≠"__name__") (a:(x == ("__debug__":Str))=false) (he:starEach (e::es) X.env=(false,eval e X.env)::starEach es X.env) (b:(backTo pos (starEach es X.env)).any (·.1)=false):RE X G0 W0 (.Call (.Name x p) (e::es) [] pos) (aC f ms):=#[PE.imp (nE j g hm d i.h c a he b) λ_ _ _ h=>lD hd h]
variable {st:Stmt} {sts:List Stmt} {sm sn:SM}
theorem AY:RSs X G0 W0 [] bW:=#[PSs.imp Bi λ_ _ _ h=>C5 h]
theorem xV (h1:RS X G0 W0 st sm) (h2:RSs X G0 W0 sts sn):RSs X G0 W0 (st::sts) (aH sm sn):=#[PSs.imp (yA h1.h h2.h) λ_ _ _ h=>C2 h]
theorem AX (h1:RS X G0 W0 st sm):RSs X G0 W0 [st] sm:=#[uB h1.h]
theorem AZ (he:RE X G0 W0 e m) (a:swapsWith e none pos.line X.env=pure false):RS X G0 W0 (.Expr e pos) (f9 m):=#[PS.imp (Bj he.h a) λ_ _ _ h=>Av h]
theorem Dx (np:Nat) (a:∀ i,np<=i->G0.pr i=false) (he:RE X G0 W0 e m):RS X G0 W0 (.Return (some e) pos) (aP np m):=#[PS.imp (DW he.h) λ_ _ _ h=>C3 a h]
theorem rs_if (d:RT X G0 W0 c t) (a:RSs X G0 W0 x sm) (b:RSs X G0 W0 y sn):RS X G0 W0 (.If c x y pos) (sIf t sm sn):=#[PS.imp (ps_if d.h a.h b.h) λ_ _ _ h=>tS_if h]
theorem xY (i:Nat) (a:X.N.Nodup) (hi:X.N[i]?=some x) (c:Loc X.env.scope x) (he:RE X G0 W0 e m) (d:swapsWith e (some (.Name x pos')) pos.line X.env=pure false) (hf:X.fn x=true\/X.env.scope.names.lookup x=some .local) (b:G0.pr i=false):RS X G0 W0 (.Assign [.Name x pos'] e pos) (aX i m):=#[PS.imp (DU a hi c he.h d hf) λ_ _ _ h=>C0 b h]
theorem xX (a:PassesOwn (model X.prog X.w) X.A X.env X.xe) (d:RT X G0 W0 c t) (b:RSs X G0 W0 body sm):RS X G0 W0 (.While c body [] pos) (gz t sm):=#[PS.imp (yB a d.h b.h) λ_ _ _ h=>xo h]
theorem Dz (a:PassesOwn (model X.prog X.w) X.A X.env X.xe) (e:X.calm=true) (hi:RI X G0 W0 tg iter im) (c:RG X G0.pr tg bnd) (b:RSs X G0 W0 body sm) (d:∀ x,foldedSetIterable iter X.env x=pure x):RS X G0 W0 (.For tg iter body [] pos) (cT im bnd sm):=by
 obtain ⟨g,h1,h2⟩:=c.h
 exact #[PS.imp (DY a e hi.h h1 b.h d) λ_ _ _ h=>C6 h2 h]
theorem uj (i:Nat) (b:X.N.Nodup) (hi:X.N[i]?=some x) (a:Loc X.env.scope x) (hf:X.fn x=true\/X.env.scope.names.lookup x=some .local) (c:pr i=false):RG X pr (.Name x pos) (aA i):=#[_,jA b hi a hf,iB c]
theorem A9:RGs X pr [] jQ:=#[_,uC,rH]
theorem yh (h1:RG X pr e bn) (h2:RGs X pr es bs) (a:(assignEach (e::es) X.env).map (·.2)=assign e X.env::(assignEach es X.env).map (·.2)):RGs X pr (e::es) (cu bn bs):=by
 obtain ⟨g,a1,a2⟩:=h1.h
 obtain ⟨b,b1,b2⟩:=h2.h
 exact #[_,lU a1 b1 a,kr a2 b2]
theorem DC {k n:Nat} (c:X.calm=true) (h:RGs X pr es bs) (b:(assignEach es X.env).length=n) (a:(assignEach es X.env).findIdx? (·.1)=none):RG X pr (.Tuple es k pos) (jP n bs):=by
 obtain ⟨d,b1,b2⟩:=h.h
 exact #[_,yG c b1 b a,ve b2]
theorem Bb (NY:List Str) (ix:List (Option Nat)) (g:X.calm=true) (hi:RI X G0 W0 tg iter im) (d:∀ s H C fp,PTs (aR X NY scope s H C fp) ifs (tT X.K (bq ix) noX cm)) (he:∀ s H C fp,RE (aR X NY scope s H C fp) (bq ix) noX elt em) (e:iw scope X.N X.env.scope NY ix=true) (c:Inj ix) (f:∀ x,foldedSetIterable iter X.env x=pure x) (b:∃ a,Bnd X.K (bq ix).pr a bnd/\∀ s H C fp,PG (aR X NY scope s H C fp) tg a):RE X G0 W0 (.ListComp elt [#[tg,iter,ifs,0]] scope pos) (bU im bnd cm em ix):=by
 obtain ⟨a,b1,b2⟩:=b
 exact #[PE.imp (Br NY ix g hi.h b2 d (λs H C fp=>(he s H C fp).h) e f) λ_ _ _ h=>AC szl c b1 h]
end
noncomputable def au (F:Fn) (ms:M3 (List R3)):EM:=ai ms λrs=>λZ=>match prs (frz (d8 rs) Z) rs with
 | none=>none
 | some ps=>match F ps with
  | none=>none
  | some (.ok p,qs)=>if qs.length=ps.length then some (.ok (.val p.1 p.2),back rs ps qs (frz (d8 rs) Z)) else none
  | some (.error _,_)=>none
def rV (K:FG) (F:Fn):Sp:=λa H Q _=>∃ (ps:List It3) (p:D×Fl) (fs:List (D×Fl)),a=ps.map (·.v)/\(∀ p∈ps,Arg K H p)/\ps.Pairwise Apart3/\F (ps.map λp=>(p.d,p.f))=some (.ok p,fs) /\
 ∀ x qs H',Behind K H H' ps qs x->x.d=p.1->x.f=p.2->qs.map (λq=>(q.d,q.f))=fs->Q x.v H'
section
variable {K:FG} {G G0:Gm} {W W0:D->Sto->Prop} {H H':Hp} {O:St} {Z Z':Sto} {T T':List It3} {g:Nat->Option It3} {x y z:It3} {α β:Type}
theorem p7 (h:tE K G0 W0 (au F ms) O H Q):tA K G0 W0 ms O H λn H1=>rV K F n H1 Q E0:=by
 refine h.use λG W le Z T g o Z' w e q=>?_
 refine tA.seq le w e q.err λrs Z1 e1 n H1 Ts g1 t a1=>?_
 obtain ⟨g2,d,D⟩:=Wf.frz (is:=d8 rs) t
 cases k:prs (L3.frz (d8 rs) Z1) rs with
 | none=>rw[k] at e1;exact nsE e1
 | some pfs =>
  rw[k] at e1
  dsimp only at e1
  have hd:∀ i,2<=(pls rs).count i->∀ y,g2 i=some y->y.f=.z:=λi M y s=>by
   have hm:i∈d8 rs:=Gb.mpr #[List.count_pos_iff.mp (by lia),by simpa using M]
   have s1:=d.sl i
   rw[s] at s1
   have P:∃ y0,g1 i=some y0:=by
    cases A:g1 i with
    | some y0=>exact #[y0,rfl]
    | none =>
     exfalso
     have s2:=t.sl i
     rw[A] at s2
     have:=mw (is:=d8 rs) s2.symm
     rw[this] at s1
     cases s1
   obtain ⟨y0,l⟩:=P
   obtain ⟨S,b,_,I⟩:=D i y0 l
   rw[s] at b
   cases b
   exact I hm
  obtain ⟨ps,f1,f2,R,f4,N⟩:=Ars.args a1 d hd k
  have hit:∀ p∈ps,Itm (Ts++T) g2 p:=λp j=>by
   rcases f4 p j with ⟨i,_,J⟩ | h
   .exact .inl #[i,J]
   .exact .inr (FA _ h)
  have c:∀ p∈ps,Arg K H1 p:=λp j=>⟨(d.itm (hit p j)).rep,λhf=>by
   obtain ⟨m,a,L',v1,v2,E,_⟩:=(d.itm (hit p j)).own hf
   exact ⟨m,a,L',v1,v2,E⟩⟩
  subst f2
  cases b:F pfs with
  | none=>rw[b] at e1;exact nsE e1
  | some r =>
   obtain ⟨out,fs⟩:=r
   rw[b] at e1
   cases out with
   | ok p =>
    dsimp only at e1
    split at e1
    .cases e1
     refine #[ps,p,fs,rfl,c,R,by rw[f1];exact b,?_]
     intro x qs H' B x1 C L
     obtain ⟨g',φ,σ⟩:=Wf.after d k f1 f4 N B.toBehindX
     have u:=σ x B.rep B.own B.src B.apx
     rw[L] at u
     rw[<- x1,<- C] at q
     exact q x.v H' #[[x],g',u,.val x]
    .exact nsE e1
   | error er=>exact nsE e1
def cn (b:Bool) (p:It3):It3:=if b then df p else p
theorem j3:∀ {mask:List Bool} {ps:List It3},(List.zipWith cn mask ps).map (λp=>(p.d,p.f))=List.zipWith kU mask (ps.map λp=>(p.d,p.f))
 | [],_=>rfl
 | _::_,[]=>rfl
 | b::mask,p::ps=>by
  simp only[List.zipWith_cons_cons,FV,j3]
  cases b <;> rfl
theorem nQ {i:Nat} (h:(List.zipWith cn mask ps)[i]?=some q):∃ b p,mask[i]?=some b/\ps[i]?=some p/\q=cn b p:=by grind
theorem jF {i:Nat} (a:ps.length=mask.length) (h:ps[i]?=some p):∃ b,mask[i]?=some b/\(List.zipWith cn mask ps)[i]?=some (cn b p):=by
 have hi:i < mask.length:=by have:=(FK.mp h).1;omega
 simp_all
theorem bA (b:Bool) (p:It3):(cn b p).d=p.d/\(cn b p).v=p.v/\(cn b p).L=p.L/\((cn b p).f=p.f\/(cn b p).f=.z):=by
 cases b
 .exact #[rfl,rfl,rfl,.inl rfl]
 .exact #[rfl,rfl,rfl,.inr rfl]
theorem NoRoot.low (h:NoRoot a b) (d:a'.v=a.v) (hf:a'.f=a.f\/a'.f=.z) (g:b'.L=b.L):NoRoot a' b':=λq c e=>by
 rw[g]
 rcases hf with f | f
 .exact h (by rw[<- f];exact q) c (by rw[<- d];exact e)
 .exact absurd f q
def prM (mask:List Bool) (i:Nat):Bool:=match mask[i]? with
 | some b=>!b
 | none=>false
theorem uK {f:α->β} {l:List α} {i:Nat} {a:α} (h:l[i]?=some a):(l.map f)[i]?=some (f a):=by rw[FP,h];rfl
theorem pq {n:Nat} (hn:mask.length<=n) (h:rV K (fnM mask n m) vs H Q E) :
  ∃ G:Gm,G.pr=prM mask/\tS K G noX m { nx:=λ_ H'=>Q .non H',rt:=Q } (vs.map some++List.replicate (n - vs.length) none) H:=by
 obtain ⟨ps,p,fs,rfl,T,hp,l,q⟩:=h
 unfold fnM at l
 rw[FJ] at l
 split at l
 .rename_i hl
  rw[<- j3] at l
  generalize w:List.zipWith cn mask ps=g at l
  have ar:g.length=ps.length:=by rw[<- w,List.length_zipWith];lia
  have R:g.map (·.v)=ps.map (·.v):=by
   refine List.ext_getElem? λi=>?_
   rw[FP,FP]
   cases e:ps[i]? with
   | none=>rw[List.getElem?_eq_none (by have:=List.getElem?_eq_none_iff.mp e;lia)]
   | some u =>
    obtain ⟨b,_,t⟩:=jF (mask:=mask) hl e
    rw[w] at t
    rw[t]
    show some (cn b u).v=some u.v
    rw[(bA b u).2.1]
  have up:∀ (i:Nat) (u:It3),g[i]?=some u->∃ b s,mask[i]?=some b/\ps[i]?=some s/\u=cn b s:=λi u e=>by rw[<- w] at e;exact nQ e
  have A:∀ u∈g,∃ b s,s∈ps/\u=cn b s:=λu hu=>by
   obtain ⟨i,hi,e⟩:=List.mem_iff_getElem.mp hu
   obtain ⟨b,s,_,t,y⟩:=up i u (by rw[FE hi,e])
   exact #[b,s,FL t,y]
  have P:∀ u∈g,Arg K H u:=λu hu=>by
   obtain ⟨b,s,h0,rfl⟩:=A u hu
   obtain ⟨e1,t,y,W⟩:=bA b s
   refine #[by rw[e1,t,y];exact (T s h0).rep,λhf=>?_]
   rw[e1,t,y]
   refine (T s h0).own λz=>hf ?_
   rcases W with f | f
   .rw[f];exact z
   .exact f
  have J:g.Pairwise Apart3:=by
   rw[List.pairwise_iff_getElem]
   intro i j hi hj lt
   obtain ⟨b,s,_,t,y⟩:=up i _ (FE hi)
   obtain ⟨F,V,_,ρ,ae⟩:=up j _ (FE hj)
   have ap:=cj hp (λ_ _=>Apart3.symm) (FT lt) t ρ
   rw[y,ae]
   obtain ⟨_,a2,φ,S⟩:=bA b s
   obtain ⟨_,b2,b3,b4⟩:=bA F V
   exact #[ap.1.low a2 S b3,ap.2.low b2 b4 φ]
  have I:∀ (i:Nat) (u:It3),g[i]?=some u->u.f≠.z->prM mask i=true:=λi u e hf=>by
   obtain ⟨b,s,e1,t,y⟩:=up i u e
   unfold prM
   rw[e1]
   cases b with
   | false=>rfl
   | true=>rw[y] at hf;exact absurd rfl hf
  have alls:∀ c,cX g c->cX ps c:=λc #[u,hu,M]=>by
   obtain ⟨b,s,h0,rfl⟩:=A u hu
   exact #[s,h0,by rw[<- (bA b s).2.2.1];exact M]
  have lift:∀ {H':Hp} {qs:List It3},BehindX K H H' g qs->BehindX K H H' ps qs:=λ{H' qs} B=>by
   refine #[λb o hb hn=>B.frame b o hb λu hu hf R=>?_,Paired.ofGet ?_ λk u v eu ev=>?_,B.apart]
   .obtain ⟨F,s,h0,rfl⟩:=A u hu
    obtain ⟨_,t,_,W⟩:=bA F s
    rcases W with f | f
    .exact hn s h0 (by rw[<- f];exact hf) (by rw[<- t];exact R)
    .rw[f] at hf;cases hf
   .rw[<- ar];exact Paired.length B.back
   .obtain ⟨b,_,t⟩:=jF (mask:=mask) hl eu
    rw[w] at t
    have b1:=Paired.at B.back t ev
    obtain ⟨a1,a2,φ,S⟩:=bA b u
    refine #[λhz=>?_,by rw[b1.v,a2],?_,b1.arg,λc M=>(b1.src c M).imp id (alls c),λhf F N=>?_]
    .have:cn b u=u:=by
      cases b
      .rfl
      .obtain ⟨d,v,L,f⟩:=u
       have hz:f=.z:=hz
       subst hz;rfl
     rw[<- this]
     exact b1.z (by rw[this];exact hz)
    .rcases b1.f with h | h
     .rcases S with f | f
      .exact .inl (h.trans f)
      .exact .inr (h.trans f)
     .exact .inr h
    .rcases S with f | f
     .exact b1.there (by rw[f];exact hf) F (by rw[a2];exact N)
     .-- lowered: as it was
      obtain ⟨_,a,L',v1,v2,_⟩:=(T u (FL eu)).own (by rw[hf];intro q;cases q)
      rw[N] at v1;cases v1
      have τ:=b1.z f
      have r:=b1.arg.rep
      rw[τ,a1,a2,φ] at r
      exact (r.inH F (by rw[v2];exact Fv)).ex
  have av:g.length<=n:=by lia
  have wf:=pX (K:=K) (H:=H) (n:=n) (pr:=prM mask) av P J I
  rw[R] at wf
  refine #[gOf H (prM mask) ((ps.map (·.v)).map some++List.replicate (n - (ps.map (·.v)).length) none) g,rfl,?_]
  have h0:∀ (i:Nat) (u:It3),g[i]?=some u->((ps.map (·.v)).map some++List.replicate (n - (ps.map (·.v)).length) none)[i]?=some (some u.v):=λi u e=>jT (by rw[<- R];exact uK e)
  unfold fn0 at l
  cases e:m (d7 n (g.map λp=>(p.d,p.f))) with
  | none=>rw[e] at l;exact nsE l
  | some rr =>
   obtain ⟨r,Z2⟩:=rr
   rw[e] at l
   refine tS.mk (r:=r) (Le.refl K _ _) wf e ?_
   have fin:∀ {x:It3} {O':St} {H':Hp} {g':Nat->Option It3} {d:D} {f:Fl},Wf K (gOf H (prM mask) ((ps.map (·.v)).map some++List.replicate (n - (ps.map (·.v)).length) none) g) H' O' Z2 [x] g'->x.d=d->x.f=f ->
     ((dC Z2 0 (g.map λp=>(p.d,p.f))).map λfs=>((.ok (d,f),fs):Except D (D×Fl)×List (D×Fl)))=some (.ok p,fs)->Q x.v H':=λ{x O' H' g' d f} σ xd xf l=>by
    cases C:dC Z2 0 (g.map λp=>(p.d,p.f)) with
    | none=>rw[C] at l;exact nsE l
    | some fs' =>
     rw[C] at l
     cases l
     obtain ⟨qs,B,τ⟩:=mK (n:=n) P J I h0 σ C
     have BX:=lift B.toBehindX
     exact q x qs H' #[BX,B.rep,B.own,λc M=>(B.src c M).imp id (alls c),B.apx] xd xf τ
   cases r with
   | error er=>
    dsimp only at l
    cases C:dC Z2 0 (g.map λp=>(p.d,p.f)) with
    | none=>rw[C] at l;exact nsE l
    | some fs'=>rw[C] at l;cases l
   | ok fl =>
    cases fl with
    | nx =>
     intro O' H' g' σ
     obtain ⟨Ts,g2,w2,a2⟩:=σ.const .non
     obtain ⟨x,rfl,x1,X,x3⟩:=a2.val_inv
     have:=fin w2 x1 X l
     rw[x3] at this
     exact this
    | br=>exact nsE l
    | ct=>exact nsE l
    | rt d f =>
     intro x O' H' g' σ x1 X
     exact fin σ x1 X l
 .exact nsE l
end
abbrev aT (P:Program) (w:World) (K:FG) (mg:Str->Option Value) (base:Heap) (x:Str) (k:Nat) (ps:List Str) (F:Fn):Prop:=Callee P w K mg base x k ps (rV K F)
theorem bo {k:Nat} {nn:Nat} (D:Def K mg x st) (S:FnScope N ps (ag st)) (c:mask.length=ps.length) (b:N.length=nn) (e:∀ (kV doc pm:Value) (an:Option Addr) (a ct:Value) (us:List Value),us.length=ps.length->bindArgs (PySem.W.fnOf x x (aQ st) (aI st) (ag st) .none kV doc pm an a ct) #[us,[]]=pure (ps.zip us)) (body:∀ (a:Value) (A:Around) (outer:List Env) (s:Shared) (H:Hp) (E:XK) (f:Addr) (G:Gm),Room k (A.deeper (PyProof.Rows.envOfC x (ag st) s.heap.objs.size f a))->G.pr=prM mask->RSs (dD CX0 P w K mg base N x (ag st) f a A outer s H E).nox G noX (aI st) m) :
  aT P w K mg base x (k+1) ps (fnM mask nn m):=by
 refine D.callee e λf fd F=>F.ok S (λi H Q E h=>?_) λa A outer s H i Q E j h=>?_
 .obtain ⟨l,p,fs,rfl,_,_,n,_⟩:=h
  unfold fnM at n
  grind
 .have hle:mask.length<=nn:=by
   rw[c,<- b]
   have:=congrArg List.length S.pre
   rw[F6] at this
   omega
  obtain ⟨G,g,d⟩:=pq hle h
  subst b
  exact #[_,(body a A outer s H E f G j g).h,d]
theorem Bc {k:Nat} (c:aT X.prog X.w X.K X.mg X.base x k ps F) (f:Room k X.A) (d:RA X G0 W0 (e::es) ms) (g:Gl X x) (a:(x == ("__debug__":Str))=false) (he:starEach (e::es) X.env=(false,eval e X.env)::starEach es X.env) (b:(backTo pos (starEach es X.env)).any (·.1)=false):RE X G0 W0 (.Call (.Name x p) (e::es) [] pos) (au F ms) :=
 #[PE.imp (pe_fn c f d.h g a he b) λ_ _ _ h=>p7 h]
def orD (f g:D->D->Option (D×Fl)) (a b:D):Option (D×Fl):=match f a b with
 | some p=>some p
 | none=>g a b
section
variable {K:FG} {H:Hp} {Ks:Addr->Prop} {d:D} {v:V} {L:List Addr} {X:Cx}
theorem dn (r:Rep K H d v []):New K H H Ks #[d,v,[],.z]:=#[Same.refl _,r,λ_ h=>(by cases h),λh=>absurd rfl h]
theorem qE (r:Rep K H d v L) (h:∀ c∈L,Ks c):New K H H Ks #[d,v,L,.z]:=#[Same.refl _,r,λc a=>.inr (h c a),λh=>absurd rfl h]
theorem sH (a:H p=none) (r:Reps (Rep K H) ds vs L) (h:∀ c∈L,Ks c):New K H (upd H p (.lst vs)) Ks #[.lst ds,.ref p,p::L,.u]:=by
 have np:p ∉ L:=λd=>by obtain ⟨o,b⟩:=(r.inH p d).ex;rw[a] at b;exact nsE b
 refine #[bz a,.lst aF (r.same (bz a)),λc d=>?_,λ_=>#[rfl,p,L,rfl,rfl,np,a]]
 grind
theorem yY (a:H p=none) (r:Reps (Rep K H) ds vs L) (h:∀ c∈L,Ks c):New K H (upd H p (.tup vs)) Ks #[.tup ds,.ref p,L,.z] :=
 #[bz a,.tup aF (r.same (bz a)),λc b=>.inr (h c b),λh=>absurd rfl h]
theorem j7 (b:y∈ys) (h:Arg K H y) (hm:jI y.d=false):∀ c∈y.L,dg ys c:=λc a=>⟨y,b,a,λhf=>by
 have:=(h.own hf).1
 rw[hm] at this;cases this⟩
theorem o6 (i:y∈ys) (h:Arg K H y) (b:y.v=.ref a) (d:y.L=a::L):∀ c∈L,dg ys c:=λc f=>⟨y,i,by rw[d];exact Fw _ f,λhf e=>by
 obtain ⟨_,j,L',v1,v2,g⟩:=h.own hf
 rw[b] at v1;cases v1
 rw[d] at v2;cases v2
 rw[b] at e;cases e
 exact g f⟩
theorem OpD.or (h:OpD K r f) (h':OpD K r' g):OpD K (λx y H Q=>r x y H Q\/r' x y H Q) (orD f g):=λa b H Q p ra rb e q=>by
 unfold orD at e
 cases c:f a.d b.d with
 | some p'=>rw[c] at e;cases e;exact .inl (h a b H Q _ ra rb c q)
 | none=>rw[c] at e;exact .inr (h' a b H Q p ra rb e q)
def cO (C:Int->Int->Bool) (g:Int->Int->D):D->D->Option (D×Fl)
 | .int i,.int j=>if C i j then #v[g i j] else none
 | _,_=>none
theorem jK (d:∀ i j,Cb i j=true->C i j) (f:∀ i j H,Rep K H (gd i j) (g i j) []):OpD K (rI C g) (cO Cb gd):=λa b H Q p ra rb e q=>by
 obtain ⟨da,n,o,m⟩:=a
 obtain ⟨db,h,k,r⟩:=b
 obtain ⟨ra,l⟩:=ra
 obtain ⟨rb,ob⟩:=rb
 dsimp only at ra rb
 cases da <;> try (exact nsE e)
 rename_i i
 obtain ⟨rfl,rfl⟩:=ra.view
 cases db <;> try (exact nsE e)
 rename_i j
 obtain ⟨rfl,rfl⟩:=rb.view
 have e:(if Cb i j then some (gd i j,Fl.z) else none)=some p:=e
 split at e
 .rename_i c
  cases e
  exact #[i,j,rfl,rfl,d i j c,q #[gd i j,g i j,[],.z] H (dn (f i j H)) rfl rfl]
 .exact nsE e
theorem rI_of:rI0 g=rI (λ_ _=>True) g:=by
 funext x y H Q
 unfold rI0 rI
 grind
theorem ff (a:∀ i j H,Rep K H (gd i j) (g i j) []):OpD K (rI0 g) (cO (λ_ _=>true) gd):=by
 rw[rI_of]
 exact jK (λ_ _ _=>trivial) a
abbrev pW:Int->Int->Bool:=λ_ _=>true
abbrev addI:=cO pW λi j=>.int (i+j)
abbrev fA:=cO pW λi j=>.int (i - j)
abbrev dY:=cO (λi j=>decide ((-(2 ^ 64) < i/\i < 2 ^ 64)\/(-(2 ^ 64) < j/\j < 2 ^ 64))) λi j=>.int (i * j)
abbrev sI:=cO (λ_ j=>decide (0 < j)) λi j=>.int (i % j)
abbrev sA:=cO (λi j=>decide (0<=j/\j<=1000000/\i.natAbs < 2 ^ 64)) λi j=>.int (i ^ j.toNat)
abbrev ltI:=cO pW λi j=>.bl (decide (i < j))
abbrev leI:=cO pW λi j=>.bl (decide (i<=j))
abbrev gtI:=cO pW λi j=>.bl (decide (j < i))
abbrev geI:=cO pW λi j=>.bl (decide (j<=i))
theorem od_addI:OpD K (rI0 λi j=>.int (i+j)) addI:=ff λi j _=>.int _
theorem By:OpD K (rI0 λi j=>.int (i - j)) fA:=ff λi j _=>.int _
theorem BA:OpD K (rI CMul λi j=>.int (i * j)) dY:=jK (λi j h=>by simpa[CMul,wX,Ak] using h) λi j _=>.int _
theorem BB:OpD K (rI (λ_ j=>0 < j) λi j=>.int (i % j)) sI:=jK (λi j h=>by simpa[CMul,wX,Ak] using h) λi j _=>.int _
theorem Bz:OpD K (rI Ak λi j=>.int (i ^ j.toNat)) sA:=jK (λi j h=>by simpa[CMul,wX,Ak] using h) λi j _=>.int _
theorem yU:OpD K (rI0 λi j=>.bl (decide (i < j))) ltI:=ff λi j _=>.bl _
theorem yV:OpD K (rI0 λi j=>.bl (decide (i<=j))) leI:=ff λi j _=>.bl _
theorem Cu:OpD K (rI0 λi j=>.bl (decide (j < i))) gtI:=ff λi j _=>.bl _
theorem od_ge:OpD K (rI0 λi j=>.bl (decide (j<=i))) geI:=ff λi j _=>.bl _
def tv:D->D->Option (D×Fl)
 | .tup xs,.tup ys=>if xs.length+ys.length<=16777216 then #v[.tup (xs++ys)] else none
 | _,_=>none
def tz:D->D->Option (D×Fl)
 | .lst xs,.lst ys=>if xs.length+ys.length<=16777216 then some (.lst (xs++ys),.u) else none
 | _,_=>none
def tw:D->D->Option (D×Fl)
 | .str xs,.str ys=>if xs.length+ys.length<=16777216 then #v[.str (xs++ys)] else none
 | _,_=>none
theorem Reps.len (r:Reps (Rep K H) ds vs L):ds.length=vs.length:=by
 induction r with
 | nil=>rfl
 | cons _ _ ih=>simp[ih]
theorem Reps.append (r:Reps (Rep K H) ds vs L) (b:Reps (Rep K H) ds' vs' L'):Reps (Rep K H) (ds++ds') (vs++vs') (L++L'):=by
 induction r with
 | nil=>exact b
 | cons a _ ih=>rw[List.append_assoc];exact .cons a ih
theorem Reps.nil_iff (r:Reps (Rep K H) ds vs L):ds=[] ↔ vs=[]:=by cases r <;> simp
def oN (K:FG):R2:=λx y H Q=>∃ a b ys,x=.ref a/\y=.ref b/\SqT K H a []/\SqT K H b ys/\Q (.ref b) H
theorem yS:OpR X (binaryOp .Add) (oN X.K):=by
 intro pins s O H x y v u Q I m t h
 obtain ⟨a,b,ys,rfl,rfl,o,z,q⟩:=h
 cases m
 cases t
 obtain ⟨its,w,p,_⟩:=I.tuple o
 obtain ⟨l,A,p2,_⟩:=I.tuple z
 have e:its=[]:=w.nil_iff.mpr rfl
 subst e
 obtain ⟨⟨cls,dd,data,sl⟩,k,i,n,hd⟩:=id p
 obtain ⟨⟨j,g,data2,f⟩,c,d,r,hd2⟩:=id p2
 simp only at i hd d hd2
 subst i hd d hd2
 exact concat_meets #[_,k,rfl] #[_,c,rfl] noFill_tuple_add seq_tuple_add PySem.F.slot_tuple_add PySem.F.entry_tuple_add (PySem.F.args_tuple_add_2 _ _)
   (PyProof.Rows.tuple_addW0 a b _ _ n r dd g sl f (by simp)) #[k,c,#[.ref b,H,I,rfl,q]]
theorem od_catT:OpD K (λx y H Q=>uz K x y H Q\/oN K x y H Q) tv:=λa b H Q p ra rb e q=>by
 obtain ⟨da,C,l,s⟩:=a
 obtain ⟨db,B,k,u⟩:=b
 obtain ⟨ra,r⟩:=ra
 obtain ⟨rb,ob⟩:=rb
 dsimp only at ra rb
 cases da <;> try (exact nsE e)
 rename_i xs
 obtain ⟨i,t,rfl,g,rs⟩:=ra.view
 cases db <;> try (exact nsE e)
 rename_i ys
 obtain ⟨j,ws,rfl,f,d⟩:=rb.view
 have e:(if xs.length+ys.length<=16777216 then some (D.tup (xs++ys),Fl.z) else none)=some p:=e
 split at e
 .rename_i A
  cases e
  by_cases n:t=[]
  .have o:=rs.nil_iff.mpr n
   subst n o
   refine .inr #[i,j,ws,rfl,rfl,SqT.of g,SqT.of f,?_]
   exact q #[.tup ys,.ref j,k,.z] H (qE (.tup f d) (j7 (y:=#[.tup ys,.ref j,k,u]) (Fw _ (F9.mpr rfl)) #[.tup f d,ob] rfl)) rfl rfl
  .refine .inl #[i,j,t,ws,rfl,rfl,SqT.of g,SqT.of f,n,by rw[<- rs.len,<- d.len,<- szl];exact A,λhw=>?_,λhw p w=>?_]
   .have m:=d.nil_iff.mpr hw
    subst m
    refine q #[.tup (xs++[]),.ref i,l,.z] H (qE (by rw[List.append_nil];exact .tup g rs) (j7 (y:=#[.tup xs,.ref i,l,s]) Fv #[.tup g rs,r] rfl)) rfl rfl
   .refine q #[.tup (xs++ys),.ref p,l++k,.z] _ (yY w (rs.append d) λc v=>?_) rfl rfl
    rcases FH.mp v with h | h
    .exact j7 (y:=#[.tup xs,.ref i,l,s]) Fv #[.tup g rs,r] rfl c h
    .exact j7 (y:=#[.tup ys,.ref j,k,u]) (Fw _ (F9.mpr rfl)) #[.tup f d,ob] rfl c h
 .exact nsE e
theorem BE:OpD K Bd tz:=λa b H Q p ra rb e q=>by
 obtain ⟨da,x,j,s⟩:=a
 obtain ⟨db,w,f,t⟩:=b
 obtain ⟨ra,r⟩:=ra
 obtain ⟨rb,ob⟩:=rb
 dsimp only at ra rb
 cases da <;> try (exact nsE e)
 rename_i xs
 obtain ⟨g,o,j,rfl,rfl,k,rs⟩:=ra.view
 cases db <;> try (exact nsE e)
 rename_i ys
 obtain ⟨i,ws,f,rfl,rfl,l,d⟩:=rb.view
 have e:(if xs.length+ys.length<=16777216 then some (D.lst (xs++ys),Fl.u) else none)=some p:=e
 split at e
 .rename_i m
  cases e
  refine #[g,i,o,ws,rfl,rfl,k,l,by rw[<- rs.len,<- d.len,<- szl];exact m,λp n=>?_]
  refine q #[.lst (xs++ys),.ref p,p::(j++f),.u] _ (sH n (rs.append d) λc v=>?_) rfl rfl
  rcases FH.mp v with h | h
  .exact o6 (y:=#[.lst xs,.ref g,g::j,s]) Fv #[.lst k rs,r] rfl rfl c h
  .exact o6 (y:=#[.lst ys,.ref i,i::f,t]) (Fw _ (F9.mpr rfl)) #[.lst l d,ob] rfl rfl c h
 .exact nsE e
theorem od_catS:OpD K (λx y H Q=>∃ i j,x=.str i/\y=.str j/\i.length+j.length<=sizeLine/\Q (.str (i++j)) H) tw:=λa b H Q p ra rb e q=>by
 obtain ⟨da,k,l,h⟩:=a
 obtain ⟨db,d,f,m⟩:=b
 obtain ⟨ra,g⟩:=ra
 obtain ⟨rb,ob⟩:=rb
 dsimp only at ra rb
 cases da <;> try (exact nsE e)
 rename_i i
 obtain ⟨rfl,rfl⟩:=ra.view
 cases db <;> try (exact nsE e)
 rename_i j
 obtain ⟨rfl,rfl⟩:=rb.view
 have e:(if i.length+j.length<=16777216 then some (D.str (i++j),Fl.z) else none)=some p:=e
 split at e
 .rename_i c
  cases e
  exact #[i,j,rfl,rfl,by rw[<- szl];exact c,q #[.str (i++j),.str (i++j),[],.z] H (dn (.str _)) rfl rfl]
 .exact nsE e
abbrev bF:=orD addI (orD tw (orD tv tz))
theorem Et:OpD K (λx y H Q=>rI0 (λi j=>.int (i+j)) x y H Q\/((∃ i j,x=.str i/\y=.str j/\i.length+j.length<=sizeLine/\Q (.str (i++j)) H)\/((uz K x y H Q\/oN K x y H Q)\/Bd x y H Q))) bF:=od_addI.or (od_catS.or (od_catT.or BE))
theorem Bu:OpR X (binaryOp .Add) (λx y H Q=>rI0 (λi j=>.int (i+j)) x y H Q\/((∃ i j,x=.str i/\y=.str j/\i.length+j.length<=sizeLine/\Q (.str (i++j)) H)\/((uz X.K x y H Q\/oN X.K x y H Q)\/Bd x y H Q))):=op_add.or (op_add_str.or ((op_catT.or yS).or Ep))
def eqS:D->D->Option Bool
 | .non,.non=>some true | .non,.int _=>some false | .int _,.non=>some false | .non,.bl _=>some false | .bl _,.non=>some false | .non,.str _=>some false | .str _,.non=>some false
 | .int i,.int j=>some (decide (i=j)) | .bl i,.bl j=>some (decide (i=j)) | .str i,.str j=>some (decide (i=j))
 | .int _,.str _=>some false | .str _,.int _=>some false | .bl _,.str _=>some false | .str _,.bl _=>some false
 | _,_=>none
theorem zM (ra:Rep K H a u L) (rb:Rep K H b v L') (e:eqS a b=some k):Dl u v=true/\k=decide (u=v):=by
 cases a <;> cases b <;> first | exact nsE e | (obtain ⟨rfl,rfl⟩:=ra.view;obtain ⟨rfl,rfl⟩:=rb.view;cases e;exact #[rfl,by simp])
def kM:D->Bool
 | .non=>true
 | _=>false
def isN:D->D->Option (D×Fl)
 | a,.non=>#v[.bl (kM a)]
 | _,_=>none
def BF:D->D->Option (D×Fl)
 | a,.non=>#v[.bl (!kM a)]
 | _,_=>none
theorem Rep.non_iff (ra:Rep K H a u L):kM a=decide (u=.non):=by cases ra <;> simp[kM]
theorem Es:OpD K (λx y H Q=>y=.non/\Q (.bl (decide (x=.non))) H) isN:=λa b H Q p ra rb e q=>by
 obtain ⟨db,c,d,f⟩:=b
 obtain ⟨rb,ob⟩:=rb
 dsimp only at rb
 cases db <;> try (exact nsE e)
 obtain ⟨rfl,rfl⟩:=rb.view
 unfold isN at e
 cases e
 refine #[rfl,?_]
 rw[<- ra.rep.non_iff]
 exact q #[_,_,[],.z] H (dn (.bl _)) rfl rfl
def cV:D->Option (D×Fl)
 | .int i=>#v[.int (-i)]
 | _=>none
theorem CT:UnD K (rU λi=>.int (-i)) cV:=λa H Q p ra e q=>by
 obtain ⟨da,b,c,f⟩:=a
 obtain ⟨ra,d⟩:=ra
 dsimp only at ra
 cases da <;> try (exact nsE e)
 obtain ⟨rfl,rfl⟩:=ra.view
 cases e
 exact #[_,rfl,q #[_,_,[],.z] H (dn (.int _)) rfl rfl]
theorem Reps.at:∀ {ds:List D} {b:List V} {L:List Addr} {i:Nat} {d:D},Reps (Rep K H) ds b L->ds[i]?=some d->∃ v L',b[i]?=some v/\Rep K H d v L'/\∀ c∈L',c∈L
 | _,_,_,_,_,.nil,h=>by simp at h
 | _,_,_,0,_,.cons r _,h=>by simp at h;subst h;exact #[_,_,rfl,r,λc a=>FA _ a]
 | _,_,_,i+1,_,.cons _ t,h=>by
  obtain ⟨v,L',h1,h2,h3⟩:=Reps.at (i:=i) t (by simpa using h)
  exact #[v,L',by simpa using h1,h2,λc a=>FC _ (h3 c a)]
theorem Reps.atI {i:Int} (r:Reps (Rep K H) ds vs L) (h:atI ds i=some d):∃ v L',atI vs i=some v/\Rep K H d v L'/\∀ c∈L',c∈L:=by
 unfold L2.atI at h ⊢
 rw[<- r.len]
 cases e:ixN ds.length i with
 | none=>rw[e] at h;exact nsE h
 | some j=>rw[e] at h;exact r.at h
def ixD:D->D->Option (D×Fl)
 | .lst xs,.int i=>(atI xs i).map λd=>(d,.z)
 | .fls xs,.int i=>(atI xs i).map λd=>(d,.z)
 | .tup xs,.int i=>(atI xs i).map λd=>(d,.z)
 | _,_=>none
theorem od_ix:OpD K (λx y H Q=>yy K x y H Q\/yx K x y H Q) ixD:=λa b H Q p ra rb e q=>by
 obtain ⟨da,s,l,m⟩:=a
 obtain ⟨db,n,o,t⟩:=b
 obtain ⟨rb,ob⟩:=rb
 have g:=ra
 obtain ⟨ra,r⟩:=ra
 dsimp only at ra rb
 cases da <;> try (exact nsE e)
 all_goals (cases db <;> try (exact nsE e))
 all_goals (rename_i xs i;obtain ⟨rfl,rfl⟩:=rb.view)
 .obtain ⟨f,k,rfl,h,rs⟩:=ra.view
  obtain ⟨d,h1,h2⟩:=Fz.mp (show (atI xs i).map (λd=>(d,Fl.z))=some p from e)
  subst h2
  obtain ⟨v,L',g1,g2,g3⟩:=rs.atI h1
  refine .inr #[f,k,i,v,rfl,rfl,SqT.of h,g1,q #[d,v,L',.z] H (qE g2 λc j=>?_) rfl rfl]
  exact j7 (y:=#[.tup xs,.ref f,l,m]) Fv g rfl c (g3 c j)
 .obtain ⟨f,k,l,rfl,rfl,h,rs⟩:=ra.view
  obtain ⟨d,h1,h2⟩:=Fz.mp (show (atI xs i).map (λd=>(d,Fl.z))=some p from e)
  subst h2
  obtain ⟨v,L',g1,g2,g3⟩:=rs.atI h1
  refine .inl #[f,k,i,v,rfl,rfl,SqL.of h,g1,q #[d,v,L',.z] H (qE g2 λc j=>?_) rfl rfl]
  exact o6 (y:=#[.lst xs,.ref f,f::l,m]) Fv g rfl rfl c (g3 c j)
 .obtain ⟨f,k,rfl,h,rs⟩:=ra.view
  obtain ⟨d,h1,h2⟩:=Fz.mp (show (atI xs i).map (λd=>(d,Fl.z))=some p from e)
  subst h2
  obtain ⟨v,L',g1,g2,g3⟩:=rs.atI h1
  refine .inl #[f,k,i,v,rfl,rfl,h.sq,g1,q #[d,v,L',.z] H (qE g2 λc j=>?_) rfl rfl]
  exact j7 (y:=#[.fls xs,.ref f,l,m]) Fv g rfl c (g3 c j)
theorem ix_ok:IxR X (λx y H Q=>yy X.K x y H Q\/yx X.K x y H Q):=ix_list.or EQ
end
def orC (f g:List D->Option (D×Fl)) (a:List D):Option (D×Fl):=match f a with
 | some p=>some p
 | none=>g a
section
variable {K:FG} {H:Hp} {Ks:Addr->Prop} {d:D} {v:V} {L:List Addr} {X:Cx}
def c1 (f:D->Option (D×Fl)):List D->Option (D×Fl)
 | [d]=>f d
 | _=>none
def c2 (f:D->D->Option (D×Fl)):List D->Option (D×Fl)
 | [d,d']=>f d d'
 | _=>none
theorem fQ {ys:List It3} (e:c1 f (ys.map (·.d))=some p):∃ y,ys=[y]/\f y.d=some p:=by
 match ys,e with
 | [],e=>exact nsE e
 | [y],e=>exact #[y,rfl,e]
 | _::_::_,e=>exact nsE e
theorem mI {ys:List It3} (e:c2 f (ys.map (·.d))=some p):∃ y z,ys=[y,z]/\f y.d z.d=some p:=by
 match ys,e with
 | [],e=>exact nsE e
 | [_],e=>exact nsE e
 | [y,z],e=>exact #[y,z,rfl,e]
 | _::_::_::_,e=>exact nsE e
def mU:D->Option (D×Fl)
 | .lst xs=>#v[.int xs.length]
 | .fls xs=>#v[.int xs.length]
 | .tup xs=>#v[.int xs.length]
 | _=>none
abbrev cL:=c1 mU
theorem Fb:cS K (λxs H Q=>∃ p ys,xs=[.ref p]/\(SqL K H p ys\/SqT K H p ys)/\Q (.int ys.length) H) cL:=λys H Q p ra e q=>by
 obtain ⟨y,rfl,f⟩:=fQ e
 clear e
 have e:=f
 clear f
 have d:=(ra y Fv).rep
 obtain ⟨da,i,g,h⟩:=y
 dsimp only at d e
 cases da <;> try (exact nsE e)
 .rename_i xs
  obtain ⟨b,a,rfl,c,rs⟩:=d.view
  cases e
  exact #[b,a,rfl,.inr (SqT.of c),by rw[<- rs.len];exact q #[_,_,[],.z] H (dn (.int _)) rfl rfl]
 .rename_i xs
  obtain ⟨b,a,g,rfl,rfl,c,rs⟩:=d.view
  cases e
  exact #[b,a,rfl,.inl (SqL.of c),by rw[<- rs.len];exact q #[_,_,[],.z] H (dn (.int _)) rfl rfl]
 .rename_i xs
  obtain ⟨b,a,rfl,c,rs⟩:=d.view
  cases e
  exact #[b,a,rfl,.inl c.sq,by rw[<- rs.len];exact q #[_,_,[],.z] H (dn (.int _)) rfl rfl]
def xg:D->Option (D×Fl)
 | .lst xs=>#v[.tup xs]
 | .tup xs=>#v[.tup xs]
 | _=>none
abbrev At:=c1 xg
theorem E9:cS K (λxs H Q=>∃ p ys,xs=[.ref p]/\((SqL K H p ys/\∀ l,H l=none->Q (.ref l) (upd H l (.tup ys)))\/(SqT K H p ys/\Q (.ref p) H))) At:=λys H Q p ra e q=>by
 obtain ⟨y,rfl,h⟩:=fQ e
 clear e
 have e:=h
 clear h
 have d:=ra y Fv
 have g:=d.rep
 obtain ⟨da,k,b,i⟩:=y
 dsimp only at g e
 cases da <;> try (exact nsE e)
 .rename_i xs
  obtain ⟨a,f,rfl,c,rs⟩:=g.view
  cases e
  exact #[a,f,rfl,.inr #[SqT.of c,q #[.tup xs,.ref a,b,.z] H (qE (.tup c rs) (j7 (y:=#[.tup xs,.ref a,b,i]) Fv d rfl)) rfl rfl]]
 .rename_i xs
  obtain ⟨a,f,b,rfl,rfl,c,rs⟩:=g.view
  cases e
  exact #[a,f,rfl,.inl #[SqL.of c,λl j=>q #[.tup xs,.ref l,b,.z] _ (yY j rs (o6 (y:=#[.lst xs,.ref a,a::b,i]) Fv d rfl rfl)) rfl rfl]]
def zk:D->Option (D×Fl)
 | .lst xs=>some (.lst xs,.u)
 | .tup xs=>some (.lst xs,.u)
 | _=>none
abbrev ED:=c1 zk
theorem Fa:cS K (λxs H Q=>∃ p ys,xs=[.ref p]/\(SqL K H p ys\/SqT K H p ys)/\∀ l,H l=none->Q (.ref l) (upd H l (.lst ys))) ED:=λys H Q p ra e q=>by
 obtain ⟨y,rfl,i⟩:=fQ e
 clear e
 have e:=i
 clear i
 have c:=ra y Fv
 have f:=c.rep
 obtain ⟨da,k,b,j⟩:=y
 dsimp only at f e
 cases da <;> try (exact nsE e)
 .rename_i xs
  obtain ⟨a,d,rfl,g,rs⟩:=f.view
  cases e
  exact #[a,d,rfl,.inr (SqT.of g),λl h=>q #[.lst xs,.ref l,l::b,.u] _ (sH h rs (j7 (y:=#[.tup xs,.ref a,b,j]) Fv c rfl)) rfl rfl]
 .rename_i xs
  obtain ⟨a,d,b,rfl,rfl,g,rs⟩:=f.view
  cases e
  exact #[a,d,rfl,.inl (SqL.of g),λl h=>q #[.lst xs,.ref l,l::b,.u] _ (sH h rs (o6 (y:=#[.lst xs,.ref a,a::b,j]) Fv c rfl rfl)) rfl rfl]
def Ad:D->Option (D×Fl)
 | .int i=>#v[.int (if i < 0 then -i else i)]
 | _=>none
abbrev absD:=c1 Ad
theorem Rep.int_inv {i:Int} (r:Rep K H (.int i) v L):v=.int i:=by cases r;rfl
theorem Fd:cS K (λxs H Q=>∃ i,xs=[.int i]/\Q (.int (if i < 0 then -i else i)) H) absD:=λys H Q p ra e q=>by
 obtain ⟨y,rfl,b⟩:=fQ e
 clear e
 have e:=b
 clear b
 have a:=(ra y Fv).rep
 obtain ⟨da,c,d,f⟩:=y
 dsimp only at a e
 cases a <;> try (exact nsE e)
 cases e
 exact #[_,rfl,q #[_,_,[],.z] H (dn (.int _)) rfl rfl]
def jJ (C:Int->Int->Bool) (g:Int->Int->D):D->D->Option (D×Fl)
 | .int i,.int j=>if C i j then #v[g i j] else none
 | _,_=>none
theorem kb (e:jJ C g a b=some p):∃ i j,a=.int i/\b=.int j/\C i j=true/\p=(g i j,.z):=by
 cases a <;> cases b <;> try (exact nsE e)
 rename_i i j
 have e:(if C i j then some (g i j,Fl.z) else none)=some p:=e
 split at e
 .rename_i h;cases e;exact #[i,j,rfl,rfl,h,rfl]
 .exact nsE e
abbrev Cy:=c2 (jJ pW λi j=>.int (if j > i then j else i))
abbrev Cw:=c2 (jJ pW λi j=>.int (if j < i then j else i))
abbrev zP:=c2 (jJ (λ_ j=>decide (0 < j/\j < 1073741824)) λi j=>.tup [.int (i / j),.int (i % j)])
theorem B6:cS K (λxs H Q=>∃ i j,xs=[.int i,.int j]/\Q (.int (if j > i then j else i)) H) Cy:=λys H Q p ra e q=>by
 obtain ⟨y,z,rfl,b⟩:=mI e
 clear e
 have e:=b
 clear b
 obtain ⟨i,j,d,f,_,rfl⟩:=kb e
 have c:=(ra y Fv).rep
 have a:=(ra z (Fw _ Fv)).rep
 rw[d] at c
 rw[f] at a
 refine #[i,j,?_,q #[_,_,[],.z] H (dn (.int _)) rfl rfl]
 show [y.v,z.v]=_
 rw[c.int_inv,a.int_inv]
theorem B5:cS K (λxs H Q=>∃ i j,xs=[.int i,.int j]/\Q (.int (if j < i then j else i)) H) Cw:=λys H Q p ra e q=>by
 obtain ⟨y,z,rfl,b⟩:=mI e
 clear e
 have e:=b
 clear b
 obtain ⟨i,j,d,f,_,rfl⟩:=kb e
 have c:=(ra y Fv).rep
 have a:=(ra z (Fw _ Fv)).rep
 rw[d] at c
 rw[f] at a
 refine #[i,j,?_,q #[_,_,[],.z] H (dn (.int _)) rfl rfl]
 show [y.v,z.v]=_
 rw[c.int_inv,a.int_inv]
theorem wI:cS K (λxs H Q=>∃ i j,xs=[.int i,.int j]/\wX i j/\∀ p,H p=none->Q (.ref p) (upd H p (.tup [.int (i / j),.int (i % j)]))) zP:=λys H Q p ra e q=>by
 obtain ⟨y,z,rfl,d⟩:=mI e
 clear e
 have e:=d
 clear d
 obtain ⟨i,j,h,k,a,rfl⟩:=kb e
 have f:=(ra y Fv).rep
 have b:=(ra z (Fw _ Fv)).rep
 rw[h] at f
 rw[k] at b
 refine #[i,j,?_,by simpa[wX] using a,λp g=>q #[_,.ref p,[],.z] _ (yY g (L:=[]) (.cons (L:=[]) (.int _) (.cons (L:=[]) (.int _) .nil)) λc a=>by cases a) rfl rfl]
 show [y.v,z.v]=_
 rw[f.int_inv,b.int_inv]
def eM:List D->Option (List Bool)
 | []=>some []
 | .bl b::ds=>(eM ds).map (b::·)
 | _=>none
theorem jN:∀ {ds:List D} {bs:List Bool},eM ds=some bs->ds=bs.map D.bl
 | [],bs,e=>by cases e;rfl
 | d::ds,bs,e=>by
  cases d <;> try (exact nsE e)
  rename_i b
  obtain ⟨r,h1,h2⟩:=Fz.mp (show (eM ds).map (b::·)=some bs from e)
  subst h2
  rw[jN h1];rfl
theorem Reps.bls:∀ {bs:List Bool} {a:List V} {L:List Addr},Reps (Rep K H) (bs.map D.bl) a L->a=bs.map V.bl
 | [],_,_,.nil=>rfl
 | b::bs,_,_,.cons r rs=>by
  rw[Reps.bls rs]
  cases r;rfl
def Fp:D->Option (D×Fl)
 | .lst xs=>(eM xs).map λbs=>(.bl (bs.all id),.z)
 | _=>none
abbrev rL:=c1 Fp
theorem Fc:cS K (λxs H Q=>∃ (a:Addr) (bs:List Bool),xs=[.ref a]/\SqL K H a (bs.map V.bl)/\Q (.bl (bs.all id)) H) rL:=λys H Q p ra e q=>by
 obtain ⟨y,rfl,b⟩:=fQ e
 clear e
 have e:=b
 clear b
 have c:=(ra y Fv).rep
 obtain ⟨da,j,f,i⟩:=y
 dsimp only at c e
 cases da <;> try (exact nsE e)
 rename_i xs
 obtain ⟨d,h,f,rfl,rfl,g,rs⟩:=c.view
 obtain ⟨bs,h1,h2⟩:=Fz.mp (show (eM xs).map (λbs=>(D.bl (bs.all id),Fl.z))=some p from e)
 subst h2
 have:=jN h1
 subst this
 have:=rs.bls
 subst this
 exact #[d,bs,rfl,SqL.of g,q #[_,_,[],.z] H (dn (.bl _)) rfl rfl]
def kY (xs:List D) (lo hi:Option Int):List D:=(xs.drop (HT.sIx xs.length 0 lo)).take (HT.sIx xs.length xs.length hi - HT.sIx xs.length 0 lo)
end
def uc:D->Option (List D)
 | .lst xs=>some xs
 | .fls xs=>some xs
 | .tup xs=>some xs
 | _=>none
def cq (m:EM):IM:=ai m λr=>ai (der r) λd=>bh ((uc d).map λds=>([r],ds))
def iSeq (K:FG) (tl:TE):TI:=λO H R=>tl O H λx H1=>(∃ a,x=.ref a/\(∃ xs,SqL K H1 a xs)/\R (Itl K a) H1)\/∃ a,x=.ref a/\(∃ xs,SqT K H1 a xs)/\R (Itt K a) H1
theorem DZ (i:PE X l tl):PI X tg l (iSeq X.K tl):=by
 intro pins s O H R I h
 exact thn (i pins s O H _ I h) λv s1 #[x,H1,c,g,k]=>by
   rcases k with ⟨a,e,⟨xs,f⟩,q⟩ | ⟨a,e,⟨xs,f⟩,q⟩
   .subst e
    cases g
    obtain ⟨its,j,p,hz⟩:=c.list f
    refine wpAny_pyIter_list p.isList ?_
    refine #[s1.heap.objs.size,[s1.heap.objs.size],_,_,H1,rfl,c.kept (t':=s1.toks) λb o e=>Fy _ e,vt a _,#[_,FI _ rfl,rfl,rfl],λb d=>?_,q]
    have e:b=s1.heap.objs.size:=by simpa using d
    subst e
    exact c.fpOk (FQ _) (c.hok.fresh (FQ _))
   .subst e
    cases g
    obtain ⟨its,j,p,hz⟩:=c.tuple f
    refine wpAny_pyIter_tuple (show s1.heap.IsTuple a its.toArray from p) ?_
    refine #[s1.heap.objs.size,[s1.heap.objs.size],_,_,H1,rfl,c.kept (t':=s1.toks) λb o e=>Fy _ e,rN a _,#[_,FI _ rfl,rfl,rfl],λb d=>?_,q]
    have e:b=s1.heap.objs.size:=by simpa using d
    subst e
    exact c.fpOk (FQ _) (c.hok.fresh (FQ _))
section
variable {K:FG} {G G0:Gm} {W W0:D->Sto->Prop} {H H':Hp} {O:St} {Z Z':Sto} {T T':List It3} {g:Nat->Option It3} {x y z:It3} {α β:Type} {X:Cx}
theorem Ar.item2 (w:Wf K G H O Z (Ts++T) g) (a:Ar O r v Ts) (e:der r Z=some (.ok d,Z)):∃ y,y.d=d/\y.v=v/\((∃ i,i∈pls [r]/\g i=some y)\/y∈Ts):=by
 cases a with
 | @pl i v h =>
  have j:der (.pl i) Z=((Z[i]?).join).map λp=>(.ok p.1,Z):=rfl
  rw[j] at e
  cases q:(Z[i]?).join with
  | none=>rw[q] at e;exact nsE e
  | some p =>
   rw[q] at e
   obtain ⟨y,e1,k,l,b⟩:=w.slot (d:=p.1) (f:=p.2) q
   have c:p.1=d:=by cases e;rfl
   rw[h] at b
   injection b with b
   injection b with b
   exact #[y,k.trans c,b.symm,.inl #[i,Fv,e1]]
 | val x=>cases e;exact #[x,rfl,rfl,.inr (by simp)]
theorem oD (l:Reps (Rep K H1) ds vs j) (p:∀ c∈j,dg [y] c) (q:∀ c∈j,c∈y.L) (g:∀ (M:Addr->Prop) (H':Hp),(∀ b,M b->MutAt H1 b)->(∀ b o,H1 b=some o->¬ M b->H' b=some o)->(∀ b∈y.L,¬ M b)->(∀ (i:Nat) (v:V),vs[i]?=some v->J.go i H'/\∀ x a,J.yld i H' x a->a=H'/\x=v)/\J.stop vs.length H'):Walk K J H1 [y] ds:=by
 obtain ⟨ws,h1,h2,h3⟩:=Reps.split l
 refine #[ws,λx f=>#[(h3 x f).1,(h3 x f).2.1,λc h=>p c ((h3 x f).2.2 c h)],λM H' hm e m=>?_]
 obtain ⟨go,stop⟩:=g M H' hm e (m y Fv)
 refine #[λi d hd=>?_,by rw[l.len];exact stop]
 have hi:∃ u,ws[i]?=some u/\u.d=d:=by
  grind
 obtain ⟨u,k,n⟩:=hi
 have t:vs[i]?=some u.v:=by rw[<- h2,FP,k];rfl
 obtain ⟨g1,g2⟩:=go i u.v t
 refine #[g1,λx a s=>?_]
 obtain ⟨e1,r⟩:=g2 x a s
 subst e1 r
 have hu:=FL k
 refine #[u,#[Same.refl _,(h3 u hu).2.1.keep e hm λb w=>m y Fv b (q b ((h3 u hu).2.2 b w)),λc h=>.inr #[u,hu,h],λhf=>absurd (h3 u hu).1 hf],n,(h3 u hu).1,rfl]
theorem m4 {y:It3} {a:Addr} {ds:List D} {c:List V} (k:∀ H',SqL K H' a c->True) (f:∀ (M:Addr->Prop) (H':Hp),(∀ b,M b->MutAt H b)->(∀ b o,H b=some o->¬ M b->H' b=some o)->(∀ b∈y.L,¬ M b)->SqL K H' a c) :
  ∀ (M:Addr->Prop) (H':Hp),(∀ b,M b->MutAt H b)->(∀ b o,H b=some o->¬ M b->H' b=some o)->(∀ b∈y.L,¬ M b)->(∀ (i:Nat) (v:V),c[i]?=some v->(Itl K a).go i H'/\∀ x d,(Itl K a).yld i H' x d->d=H'/\x=v)/\(Itl K a).stop c.length H':=λM H' hm j h=>by
 have sq:SqL K H' a c:=f M H' hm j h
 refine #[λi v e=>#[#[c,v,sq,e],λx d #[e1,g]=>#[e1,?_]],#[c,sq,FQ _]]
 have:=g c sq
 rw[e] at this
 injection this with this
 exact this.symm
theorem C8 (h:tI K G0 W0 (cq m) O H R):iSeq K (tE K G0 W0 m) O H R:=by
 obtain ⟨G,W,le,Z,T,g,o,Z',w,e,q⟩:=h
 have n:∀ x,o=.error x->W x Z':=λx σ=>by subst σ;exact q
 refine tE.seq le w e n λra Z1 e1 v H1 #[Ts,g1,C,a1]=>?_
 obtain ⟨d,N,t⟩:=aY e1
 obtain ⟨p,L,rfl,rfl⟩:=bV t
 obtain ⟨ds,r,Q⟩:=Fz.mp L
 subst Q
 obtain ⟨y,S,X,E⟩:=a1.item2 C N
 have V:Itm (Ts++T) g1 y:=by
  rcases E with ⟨i,_,P⟩ | h
  .exact .inl #[i,P]
  .exact .inr (FA _ h)
 have F:=(C.itm V).arg
 have A:∀ J,Walk K J H1 [y] ds->R J H1:=λJ hw=>q J H1 [v] Ts g1 [y] C (by simpa using Ars.cons a1 .nil) (λz hz=>by rw[F9.mp hz];exact E) hw
 clear e1 t L q
 subst S X
 have f:=F
 obtain ⟨da,ρ,s,B⟩:=y
 obtain ⟨u,τ⟩:=F
 dsimp only at u r
 cases da with
 | tup xs =>
  obtain ⟨a,j,rfl,b,rs⟩:=u.view
  cases r
  refine .inr #[a,rfl,#[_,SqT.of b],A _ (oD rs (j7 (y:=#[.tup ds,.ref a,s,B]) Fv f rfl) (λc l=>l) λM H' hm k D=>?_)]
  have sq:SqT K H' a j:=SqT.of (k a _ b λz=>(hm a z).notup b)
  refine #[λi v I=>#[#[j,v,sq,I],λx φ #[e1,t]=>#[e1,?_]],#[j,sq,FQ _]]
  have:=t j sq
  rw[I] at this
  injection this with this
  exact this.symm
 | lst xs =>
  obtain ⟨a,j,s,rfl,rfl,b,rs⟩:=u.view
  cases r
  refine .inl #[a,rfl,#[_,SqL.of b],A _ (oD rs (o6 (y:=#[.lst ds,.ref a,a::s,B]) Fv f rfl rfl) (λc l=>Fw _ l) (m4 (ds:=ds) (λ_ _=>trivial) λM H' hm k D=>SqL.of (k a _ b (D a Fv))))]
 | fls xs =>
  obtain ⟨a,j,rfl,b,rs⟩:=u.view
  cases r
  refine .inl #[a,rfl,#[_,b.sq],A _ (oD rs (j7 (y:=#[.fls ds,.ref a,s,B]) Fv f rfl) (λc l=>l) (m4 (ds:=ds) (λ_ _=>trivial) λM H' hm k D=>(b.keep k hm).sq))]
 | _=>exact nsE r
theorem DB (h:RE X G0 W0 l m):RI X G0 W0 tg l (cq m):=#[PI.imp (DZ h.h) λ_ _ _ h=>C8 h]
def bE (lo:Int) (n:Nat):List D:=(List.range n).map λ(k:Nat)=>D.int (lo+(k:Int))
theorem pY {lo:Int} {n:Nat}:Walk K (Itr lo n) H1 ys (bE lo n):=by
 refine #[[],λx f=>(by cases f),λM H' _ _ _=>#[λi d hd=>?_,?_]]
 .unfold bE at hd
  rw[FP] at hd
  obtain ⟨k,a,b⟩:=Fz.mp hd
  obtain ⟨c,e⟩:=FK.mp a
  rw[List.getElem_range] at e
  subst e
  rw[List.length_range] at c
  refine #[c,λx h #[e1,g]=>?_]
  subst e1
  exact #[#[d,x,[],.z],dn (by rw[<- b,g];exact .int _),rfl,rfl,rfl]
 .show n<=(bE lo n).length
  unfold bE
  simp
def gg (j:Int):Bool:=decide (-(2 ^ 62)<=j/\j < 2 ^ 62)
def cU:List D->Option (List D)
 | [.int j]=>if gg j then some (bE 0 j.toNat) else none
 | _=>none
def lP:List D->Option (List D)
 | [.int i,.int j]=>if gg i && gg j then some (bE i (j - i).toNat) else none
 | _=>none
def bI (f:List D->Option (List D)) (ms:M3 (List R3)):IM:=ai ms λrs=>ai (cW rs) λds=>bh ((f ds).map λxs=>([],xs))
theorem Ay (h:tI K G0 W0 (bI cU ms) O H R):CD (tA K G0 W0 ms) O H R:=by
 obtain ⟨G,W,le,Z,T,g,o,Z',w,e,q⟩:=h
 have b:∀ x,o=.error x->W x Z':=λx f=>by subst f;exact q
 refine tA.seq le w e b λrs Z1 e1 u H1 Ts g1 k a1=>?_
 obtain ⟨ds,m,s⟩:=bR e1
 obtain ⟨p,t,rfl,rfl⟩:=bV s
 obtain ⟨xs,a,n⟩:=Fz.mp t
 subst n
 obtain ⟨ys,i,f1,f2⟩:=a1.items k (λx f=>FA _ f) m
 subst f1 f2
 match ys,a,i,a1 with
 | [],a,_,_=>exact nsE a
 | y::z::r,a,_,_=>cases hd:y.d <;> (rw[FV,FV,hd] at a;exact nsE a)
 | [y],a,i,a1 =>
  have l:=(k.itm (i y Fv)).rep
  cases hd:y.d <;> (rw[FV,hd] at a;try (exact nsE a))
  rename_i j
  rw[hd] at l
  have a:(if gg j then some (bE 0 j.toNat) else none)=some xs:=a
  split at a
  .rename_i c
   cases a
   have c:=of_decide_eq_true c
   refine #[j,by show [y.v]=_;rw[l.int_inv],c.1,c.2,?_]
   exact q _ H1 [] [] g1 [] (k.sub (FN Ts T)) .nil (λ_ h=>by cases h) pY
  .exact nsE a
theorem Ax (h:tI K G0 W0 (bI lP ms) O H R):CC (tA K G0 W0 ms) O H R:=by
 obtain ⟨G,W,le,Z,T,g,o,Z',w,e,q⟩:=h
 have b:∀ x,o=.error x->W x Z':=λx l=>by subst l;exact q
 refine tA.seq le w e b λrs Z1 e1 F H1 Ts g1 k a1=>?_
 obtain ⟨ds,t,B⟩:=bR e1
 obtain ⟨p,C,rfl,rfl⟩:=bV B
 obtain ⟨xs,E,A⟩:=Fz.mp C
 subst A
 obtain ⟨ys,f,f1,f2⟩:=a1.items k (λx l=>FA _ l) t
 subst f1 f2
 have inv:∀ {ds:List D},lP ds=some xs->∃ i j,ds=[.int i,.int j]/\gg i=true/\gg j=true/\xs=bE i (j - i).toNat:=λ{ds} h=>by
  unfold lP at h
  split at h
  .rename_i i j
   split at h
   .rename_i m
    cases h
    simp only[Bool.and_eq_true] at m
    exact #[i,j,rfl,m.1,m.2,rfl]
   .exact nsE h
  .exact nsE h
 obtain ⟨i,j,a,hi,c,rfl⟩:=inv E
 match ys,a,f,a1 with
 | [],a,_,_=>cases a
 | [y],a,_,_=>exact absurd (congrArg List.length a) (by simp)
 | y::z::u::r,a,_,_=>exact absurd (congrArg List.length a) (by simp)
 | [y,z],a,f,a1 =>
  have s:=(k.itm (f y Fv)).rep
  have n:=(k.itm (f z (Fw _ Fv))).rep
  have h1:y.d=.int i:=by injection a
  have h2:z.d=.int j:=by injection a with _ h;injection h
  rw[h1] at s
  rw[h2] at n
  have hi:=of_decide_eq_true hi
  have c:=of_decide_eq_true c
  refine #[i,j,by show [y.v,z.v]=_;rw[s.int_inv,n.int_inv],#[hi.1,hi.2,c.1,c.2],?_]
  exact q _ H1 [] [] g1 [] (k.sub (FN Ts T)) .nil (λ_ h=>by cases h) pY
theorem A7 (d:Gl X "range") (hm:X.mg "range"=none) (b:RA X G0 W0 [a] ms) (c:starEach [a] X.env=[(false,eval a X.env)]):RI X G0 W0 tg (.Call (.Name "range" p) [a] [] pos) (bI cU ms):=#[PI.imp (vR d hm b.h c) λ_ _ _ h=>Ay h]
theorem A6 (f:Gl X "range") (hm:X.mg "range"=none) (d:RA X G0 W0 [a,b] ms) (e:starEach [a,b] X.env=[(false,eval a X.env),(false,eval b X.env)]) (c:starEach [b] X.env=[(false,eval b X.env)]):RI X G0 W0 tg (.Call (.Name "range" p) [a,b] [] pos) (bI lP ms):=#[PI.imp (vQ f hm d.h e c) λ_ _ _ h=>Ax h]
end
section
variable {K:FG} {G G0:Gm} {W W0:D->Sto->Prop} {H H':Hp} {O:St} {Z Z':Sto} {T T':List It3} {g:Nat->Option It3} {x y z:It3} {α β:Type} {X:Cx} {L:List Addr}
def mQ (bnd:D->Sto->Option Sto) (m:EM):SM:=ai m λr=>ai (dF r) λp=>λZ=>(bnd p.1 Z).map λZ1=>(.ok .nx,Z1)
theorem C7 (a:Bnd K G0.pr tg bnd) (h:tS K G0 W0 (mQ bnd m) E O H):xv (tE K G0 W0 m) tg E O H:=by
 refine h.use λG W le Z T g r Z' w e q=>?_
 refine tE.seq le w e q.err λra Z1 e1 v H1 #[Ts,g1,f,a1]=>?_
 obtain ⟨p,Z2,g2,x,c,j,f1,_,_,k⟩:=a1.take f e1
 have b:=Wf.lowT (Ts:=[x]) j
 obtain ⟨Z3,l,n⟩:=Fz.mp c
 cases n
 rw[<- k]
 exact a G H1 O Z2 _ T g2 (df x) _ le.pr rfl b (by show bnd x.d Z2=_;rw[f1];exact l) λO2 g3 i=>q _ _ _ i
theorem DA (d:RG X G0.pr tg bnd) (he:RE X G0 W0 e m) (c:swapsWithSole [tg] e pos.line X.env=pure false) (hw:swappedStores [tg] e X.env=pure none) (h1:(assignEach [tg] X.env).map (·.2)=[assign tg X.env]):RS X G0 W0 (.Assign [tg] e pos) (mQ bnd m):=by
 obtain ⟨g,a,b⟩:=d.h
 exact #[PS.imp (yD he.h a c hw h1) λ_ _ _ h=>C7 b h]
theorem sh {i:Nat} {y:Str} (m:X.N.Nodup) (l:X.N[i]?=some y) (j:Loc X.env.scope y) (NY:List Str) (ix:List (Option Nat)) (n:X.calm=true) (hi:RI X G0 W0 tg iter im) (e:∀ s H C fp,PTs (aR X NY scope s H C fp) ifs (tT X.K (bq ix) noX cm)) (he:∀ s H C fp,RE (aR X NY scope s H C fp) (bq ix) noX elt em) (f:iw scope X.N X.env.scope NY ix=true) (c:Inj ix) (d:swapsWith (.ListComp elt [#[tg,iter,ifs,0]] scope pos) (some (.Name y py)) spos.line X.env=pure true) (hf:X.fn y=true\/X.env.scope.names.lookup y=some .local) (k:∀ x,foldedSetIterable iter X.env x=pure x) (g:G0.pr i=false) (b:∃ a,Bnd X.K (bq ix).pr a bnd/\∀ s H C fp,PG (aR X NY scope s H C fp) tg a):RS X G0 W0 (.Assign [.Name y py] (.ListComp elt [#[tg,iter,ifs,0]] scope pos) spos) (aX i (bU im bnd cm em ix)):=by
 obtain ⟨a,b1,b2⟩:=b
 exact #[PS.imp (su m l j NY ix n hi.h b2 e (λs H C fp=>(he s H C fp).h) f d hf k) λ_ _ _ h=>rS szl c b1 g h]
def isL:D->Bool
 | .lst _=>true
 | _=>false
theorem o9:∀ d v L H,isL d=true->Rep K H d v L->tyV K "list" v H:=λd v L H h r=>by
 cases r with
 | lst ha _=>exact .inl #[rfl,_,SqL.of ha]
 | _=>cases h
def B9:D->List D->Option (D×D)
 | .lst xs,[d]=>if xs.length < 16777216 then some (.lst (xs++[d]),.non) else none
 | _,_=>none
theorem Ey:MutD K uA B9:=λa d k as H Q p r m na ra i e q=>by
 cases d with
 | lst xs =>
  obtain ⟨_,g,_,e1,u,l,rs⟩:=r.view
  cases e1
  cases u
  match as,e,ra,i with
  | [],e,_,_=>exact nsE e
  | _::_::_,e,_,_=>exact nsE e
  | [y],e,ra,i =>
   have e:(if xs.length < 16777216 then some (D.lst (xs++[y.d]),D.non) else none)=some p:=e
   split at e
   .rename_i s
    cases e
    refine #[a,g,y.v,rfl,rfl,l,by rw[<- rs.len,<- szl];exact s,?_]
    have w:=ra y Fv
    have t:=i y Fv
    have ma:MutAt H a:=.inl #[_,l]
    have keep:∀ {d v L},Rep K H d v L->a ∉ L->Rep K (upd H a (.lst (g++[y.v]))) d v L:=λ{d v L} r n=>r.keep (M:=λb=>b=a) (λb o f h=>by rw[aw h];exact f) (λb e=>by rw[e];exact ma) λb f e=>n (by rw[<- e];exact f)
    have keeps:Reps (Rep K (upd H a (.lst (g++[y.v])))) xs g k:=rs.keep (M:=λb=>b=a) (λb o f h=>by rw[aw h];exact f) (λb e=>by rw[e];exact ma) λb f e=>na (by rw[<- e];exact f)
    exact q (.lst (g++[y.v])) (k++(y.L++[])) #[.non,.non,[],.z] (.lst aF (keeps.append (.cons (keep w t) .nil))) rfl (λc j=>by
     rcases FH.mp j with h | h
     .exact .inl h
     .rw[List.append_nil] at h;exact .inr #[y,Fv,h]) rfl rfl .non λc j=>by cases j
   .exact nsE e
 | _=>exact nsE e
def zK:D->List D->Option (D×D)
 | .lst xs,[.lst ys]=>if xs.length+ys.length<=16777216 then some (.lst (xs++ys),.non) else none
 | _,_=>none
theorem ext2 (a:D):zK (.lst xs) (a::b::r)=none:=by cases a <;> rfl
theorem Ex:MutD K ux zK:=λa d v as H Q p r m na ra l e q=>by
 cases d with
 | lst xs =>
  obtain ⟨_,k,_,e1,x,t,rs⟩:=r.view
  cases e1
  cases x
  match as,e,ra,l with
  | [],e,_,_=>exact nsE e
  | y::_::_,e,_,_=>exact nsE ((ext2 y.d).symm.trans e)
  | [y],e,ra,l =>
   have u:=ra y Fv
   have s:=l y Fv
   obtain ⟨A,F,E,C⟩:=y
   dsimp only at u s e
   cases A with
   | lst ys =>
    obtain ⟨b,ws,w,rfl,rfl,i,g⟩:=u.view
    have e:(if xs.length+ys.length<=16777216 then some (D.lst (xs++ys),D.non) else none)=some p:=e
    split at e
    .rename_i B
     cases e
     refine #[a,b,k,ws,rfl,rfl,t,i,by rw[<- rs.len,<- g.len,<- szl];exact B,?_]
     have ma:MutAt H a:=.inl #[_,t]
     have keeps:∀ {ds f L},Reps (Rep K H) ds f L->a ∉ L->Reps (Rep K (upd H a (.lst (k++ws)))) ds f L:=λ{ds f L} r n=>r.keep (M:=λb=>b=a) (λb o i h=>by rw[aw h];exact i) (λb e=>by rw[e];exact ma) λb i e=>n (by rw[<- e];exact i)
     exact q (.lst (k++ws)) (v++w) #[.non,.non,[],.z] (.lst aF ((keeps rs na).append (keeps g λh=>s (Fw _ h)))) rfl (λc j=>by
      rcases FH.mp j with h | h
      .exact .inl h
      .exact .inr #[_,Fv,Fw _ h]) rfl rfl .non λc j=>by cases j
    .exact nsE e
   | _=>exact nsE e
 | _=>exact nsE e
def qf:D->List D->Option (D×D)
 | .lst xs,[.int i,d]=>(ixN xs.length i).map λj=>(.lst (xs.set j d),.non)
 | _,_=>none
theorem Reps.set:∀ {ds:List D} {b:List V} {L L':List Addr} {d:D} {v:V} (j:Nat),Reps (Rep K H) ds b L->Rep K H d v L'->∃ L2,Reps (Rep K H) (ds.set j d) (b.set j v) L2/\∀ c∈L2,c∈L\/c∈L'
 | _,_,_,_,_,_,j,.nil,_=>#[[],.nil,λc a=>by cases a]
 | _,_,_,L',_,_,0,.cons (L:=L1) (L':=L1') r rs,r'=>⟨L'++L1',.cons r' rs,λc a=>by
  rcases FH.mp a with h | h
  .exact .inr h
  .exact .inl (FC _ h)⟩
 | _,_,_,L',_,_,j+1,.cons (L:=L1) (L':=L1') r rs,r'=>by
  obtain ⟨L2,h1,h2⟩:=Reps.set j rs r'
  refine #[L1++L2,.cons r h1,λc a=>?_]
  rcases FH.mp a with h | h
  .exact .inl (FA _ h)
  .rcases h2 c h with h | h
   .exact .inl (FC _ h)
   .exact .inr h
theorem set1 (a:D):qf (.lst xs) [a]=none:=by cases a <;> rfl
theorem set3' (a:D):qf (.lst xs) (a::b::c::r)=none:=by cases a <;> rfl
theorem BI:MutD K (lS uu) qf:=λa d x as H Q p r m na ra s e q=>by
 cases d with
 | lst xs =>
  obtain ⟨_,g,_,e1,C,t,rs⟩:=r.view
  cases e1
  cases C
  match as,e,ra,s with
  | [],e,_,_=>exact nsE e
  | [y],e,_,_=>exact nsE ((set1 y.d).symm.trans e)
  | y::_::_::_,e,_,_=>exact nsE ((set3' y.d).symm.trans e)
  | [k,y],e,ra,s =>
   have u:=ra k Fv
   have B:=ra y (Fw _ Fv)
   have w:=s y (Fw _ Fv)
   obtain ⟨kd,E,F,G⟩:=k
   dsimp only at u
   cases kd with
   | int i =>
    obtain ⟨rfl,rfl⟩:=u.view
    obtain ⟨j,h1,h2⟩:=Fz.mp (show (ixN xs.length i).map (λj=>(D.lst (xs.set j y.d),D.non))=some p from e)
    subst h2
    refine #[.int i,y.v,rfl,a,g,i,j,rfl,rfl,t,by rw[<- rs.len];exact h1,?_]
    have ma:MutAt H a:=.inl #[_,t]
    have n:Rep K (upd H a (.lst (g.set j y.v))) y.d y.v y.L:=B.keep (M:=λb=>b=a) (λb o f h=>by rw[aw h];exact f) (λb e=>by rw[e];exact ma) λb f e=>w (by rw[<- e];exact f)
    have keeps:Reps (Rep K (upd H a (.lst (g.set j y.v)))) xs g x:=rs.keep (M:=λb=>b=a) (λb o f h=>by rw[aw h];exact f) (λb e=>by rw[e];exact ma) λb f e=>na (by rw[<- e];exact f)
    obtain ⟨L2,h3,A⟩:=keeps.set j n
    exact q (.lst (g.set j y.v)) L2 #[.non,.non,[],.z] (.lst aF h3) rfl (λc l=>(A c l).imp id λh=>#[y,Fw _ Fv,h]) rfl rfl .non λc l=>by cases l
   | _=>exact nsE e
 | _=>exact nsE e
theorem um {i:Nat} {x:Str} {id:String} (m:PlainAttrs Ty) (slot:Slot Ty nm id) (j:typeOf (.builtin id)=pure (.type "method_descriptor")) (hm:MtR X id r) (k:MutD X.K r f) (hok:∀ d v L H,ok d=true->Rep X.K H d v L->tyV X.K Ty v H) (n:PE X (.Name x pn) (vA i)) (o:RA X G0 W0 (e::es) ms) (b:attributeBase (.Name x pn) nm X.env (eval (.Name x pn) X.env)=eval (.Name x pn) X.env) (g:((backTo cpos (starEach (e::es) X.env)).all (λx=>!x.1) && (backToKw cpos (keywordEach [] X.env)).all (λx=>x.1.isSome) && decide ((e::es).length+([]:List Keyword).length+(if ([]:List Keyword).isEmpty then 0 else 1) < 30))=true) (c:(apos.endLine == cpos.line)=true) (l:starEach (e::es) X.env=(false,eval e X.env)::starEach es X.env) (a:(backTo cpos (starEach es X.env)).any (·.1)=false):RE X G0 W0 (.Call (.Attribute (.Name x pn) nm apos) (e::es) [] cpos) (we ok f i ms) :=
 #[PE.imp (Cs m slot j hm n o.h b g c l a) λ_ _ _ h=>Dc k hok h]
theorem Dw {i:Nat} {x:Str} (l:Ag X t) (j:MutD X.K (lS t) f) (d:PE X (.Name x pn) (vA i)) (b:RE X G0 W0 k mk) (c:RE X G0 W0 e mv) (g:∀ v,assign (.Subscript (.Name x pn) k p2) X.env v=(do
   let ov <- holding [v] (eval (.Name x pn) X.env)
   let a <- holding [v,ov] (eval k X.env)
   standAt p2
   holding [v,ov,a] (setItem ov a v)
   release [v,ov,a] [])) (h1:swapsWithSole [.Subscript (.Name x pn) k p2] e pos.line X.env=pure false) (h2:swappedStores [.Subscript (.Name x pn) k p2] e X.env=pure none) (h3:(assignEach [.Subscript (.Name x pn) k p2] X.env).map (·.2)=[assign (.Subscript (.Name x pn) k p2) X.env]):RS X G0 W0 (.Assign [.Subscript (.Name x pn) k p2] e pos) (mP f i mk mv) :=
 #[PS.imp (yD c.h (Ea d b.h l g) h1 h2 h3) λ_ _ _ h=>CZ j h]
end
section
variable {K:FG} {G G0:Gm} {W W0:D->Sto->Prop} {H H':Hp} {O:St} {Z Z':Sto} {T T':List It3} {g:Nat->Option It3} {x y z:It3} {α β:Type} {X:Cx} {L:List Addr}
theorem x6:PTs τ [] (tT K (bq ix) noX en):=λpins s O H Q I h=>Bg pins s O H Q I (CV h)
theorem x5 (h:RT τ (bq ix) noX c m):PTs τ [c] (tT τ.K (bq ix) noX m):=Bf h.h
theorem sX (h:(ix.filterMap id).Nodup):Inj ix:=by
 intro j k i a b
 induction ix generalizing j k with
 | nil=>simp at a
 | cons o ix ih =>
  grind
theorem xu (ho:OpD K r f) (z:OpD K r' f') (h:tE K G0 W0 (eU f f' ma mb mc) O H Q):rT r r' (tE K G0 W0 ma) (tE K G0 W0 mb) (tE K G0 W0 mc) O H Q:=by
 refine h.use λG W le Z T g o Z' w e q=>?_
 refine tE.seq le w e q.err λra Z1 e1 va H1 #[Ts,g1,w1,a1]=>?_
 refine tE.seq le w1 e1 q.err λrb Z2 e2 vb H2 #[Us,g2,j,a2]=>?_
 obtain ⟨da,τ,e3⟩:=aY e2
 obtain ⟨db,d2,e4⟩:=aY e3
 obtain ⟨k,ρ,t⟩:=j5 e4
 obtain ⟨E,M,f1,f2⟩:=a1.item j (λx b=>FC _ (FA _ b)) τ
 obtain ⟨S,φ,f3,f4⟩:=a2.item j (λx b=>FA _ b) d2
 obtain ⟨p,N,e8⟩:=F8.mp ρ
 have hp:=Ab e8
 subst f1 f2 f4
 rw[<- f3] at N
 refine ho E S H2 _ p (j.itm M).arg (j.itm φ).arg N λu H3 L X uf=>?_
 have w3:=j.push L λc h=>j.kids (ys:=[E,S]) (λy i=>by
  rcases FD.mp i with h | i
  .rw[h];exact M
  .rw[F9.mp i];exact φ) h
 have R:=L.rep
 rw[X,hp] at R
 refine #[k,R.bl_eq.1,?_]
 have σ:=w3.sub (List.sublist_cons_self u _)
 cases k with
 | false =>
  cases t
  have d:=σ.sub (T':=T) ((FN Ts T).trans (FN Us _))
  exact q _ _ (d.const (.bl false))
 | true =>
  simp only[if_true] at t ⊢
  refine tE.seq le σ t q.err λrc Z5 e9 vc H5 #[m,P,d,a5]=>?_
  obtain ⟨n,d3,A⟩:=aY e9
  obtain ⟨dc,d4,C⟩:=aY A
  obtain ⟨p',a,rfl,rfl⟩:=bV C
  obtain ⟨l,J,f5,f6⟩:=a2.item d (λx b=>FC _ (FA _ b)) d3
  obtain ⟨I,V,f7,f8⟩:=a5.item d (λx b=>FA _ b) d4
  cases v:f' n dc with
  | none=>rw[v] at a;exact nsE a
  | some s =>
   rw[v] at a
   cases a
   have F:=d
   rw[show m++(Us++(Ts++T))=(m++(Us++Ts))++T by simp] at F
   have D:Itm ((m++(Us++Ts))++T) P l:=by simpa using J
   have B:Itm ((m++(Us++Ts))++T) P I:=by simpa using V
   rw[<- f6,<- f8]
   refine z l I H5 Q s (d.itm J).arg (d.itm V).arg (by rw[f5,f7];exact v) (og F (λy i=>?_) q)
   rcases FD.mp i with h | i
   .rw[h];exact D
   .rw[F9.mp i];exact B
theorem qp (k:OpR X (compareOp op) r) (hd:OpD X.K r f) (e:OpR X (compareOp op') r') (d:OpD X.K r' f') (i:RE X G0 W0 a ma) (g:RE X G0 W0 b mb) (j:RE X G0 W0 c mc) (h:PE X a (tE X.K G0 W0 ma)->PE X b (tE X.K G0 W0 mb)->PE X c (tE X.K G0 W0 mc)->PE X (.Compare a [op,op'] [b,c] pos) (rT r r' (tE X.K G0 W0 ma) (tE X.K G0 W0 mb) (tE X.K G0 W0 mc))):RE X G0 W0 (.Compare a [op,op'] [b,c] pos) (eU f f' ma mb mc):=#[PE.imp (h i.h g.h j.h) λ_ _ _ h=>xu hd d h]
theorem lO (d:OpR X (compareOp op) r) (hd:OpD X.K r f) (c:RE X G0 W0 a ma) (e:RE X G0 W0 b mb) (hm:behindInMarks op b=false):RT X G0 W0 (.Compare a [op] [b] pos) (cB (am f ma mb)):=#[PT.imp (Bh d c.h e.h hm) λ_ _ _ h=>oE hd (tT_b h)]
def ir (n:Nat):List D->List D
 | []=>[]
 | d::ds=>.tup [.int n,d]::ir (n+1) ds
theorem kh:∀ {ds:List D} {n i:Nat},(ir n ds)[i]?=(ds[i]?).map λd=>.tup [.int ((n+i:Nat):Int),d]
 | [],n,i=>by simp[ir]
 | d::ds,n,0=>by simp[ir]
 | d::ds,n,i+1=>by
  show (ir (n+1) ds)[i]?=_
  rw[kh]
  simp only[List.getElem?_cons_succ]
  rw[show n+1+i=n+(i+1) by lia]
theorem kg:∀ {ds:List D} {n:Nat},(ir n ds).length=ds.length
 | [],_=>rfl
 | d::ds,n=>by simp[ir,kg]
def mm (ms:M3 (List R3)):IM:=ai ms λrs=>ai (cW rs) λds=>bh (match ds with
 | [.lst xs]=>some (rs,ir 0 xs)
 | _=>none)
theorem Az (h:tI K G0 W0 (mm ms) O H R):CF K (tA K G0 W0 ms) O H R:=by
 obtain ⟨G,W,le,Z,T,g,o,Z',w,e,q⟩:=h
 have t:∀ x,o=.error x->W x Z':=λx m=>by subst m;exact q
 refine tA.seq le w e t λrs Z1 e1 l H1 Ts g1 C a1=>?_
 obtain ⟨ds,j,B⟩:=bR e1
 obtain ⟨p,n,rfl,rfl⟩:=bV B
 have inv:∃ xs,ds=[.lst xs]/\p=(rs,ir 0 xs):=by
  split at n
  .cases n;exact #[_,rfl,rfl]
  .exact nsE n
 obtain ⟨xs,rfl,rfl⟩:=inv
 match rs,j,a1,q with
 | [],j,_,_=>cases j
 | r::r'::rs,j,_,_ =>
  obtain ⟨_,_,f⟩:=aY (k:=λd=>ai (cW (r'::rs)) λds=>bc (d::ds)) j
  obtain ⟨ax,e6,e7⟩:=bR f
  obtain ⟨_,_,e8⟩:=aY (k:=λd=>ai (cW rs) λds=>bc (d::ds)) e6
  obtain ⟨ae,_,e9⟩:=bR e8
  cases e9
  cases e7
 | [r],j,a1,q =>
  obtain ⟨d,E,f⟩:=aY (k:=λd=>ai (cW []) λds=>bc (d::ds)) j
  have hd:d=.lst xs:=by
   have f:some ((.ok [d],Z'):Except D (List D)×Sto)=some (.ok [.lst xs],Z'):=f
   cases f;rfl
  subst hd
  cases a1 with
  | @cons _ v Ts1 _ vs1 Us1 a as =>
   cases as with
   | nil =>
    obtain ⟨y,P,y2,S⟩:=Ar.item2 (T:=T) (by simpa using C) a E
    have hy:Itm (([]++Ts1)++T) g1 y:=by
     rcases S with ⟨i,_,ei⟩ | h
     .exact .inl #[i,ei]
     .exact .inr (by simpa using FA T h)
    have σ:=(C.itm hy).arg
    have qq:∀ J,Walk K J H1 [y] (ir 0 xs)->R J H1:=λJ hw=>q J H1 [v] ([]++Ts1) g1 [y] C (.cons a .nil) (λz hz=>by
     rw[F9.mp hz]
     rcases S with h | h
     .exact .inl h
     .exact .inr (by simpa using h)) hw
    clear q
    subst y2
    have F:=σ
    obtain ⟨yd,yv,yL,yf⟩:=y
    obtain ⟨V,oo⟩:=σ
    dsimp only at V P
    subst P
    cases V with
    | @lst _ pa l La ha rs =>
     refine #[pa,rfl,#[_,SqL.of ha],qq _ ?_]
     obtain ⟨ws,h1,h2,h3⟩:=Reps.split rs
     refine #[ws,λx m=>#[(h3 x m).1,(h3 x m).2.1,λc A=>o6 (y:=#[.lst xs,.ref pa,pa::La,yf]) Fv F rfl rfl c ((h3 x m).2.2 c A)],λM H' hm I X=>?_]
     have sq:SqL K H' pa l:=SqL.of (I pa _ ha (X _ Fv pa Fv))
     refine #[λi d hd=>?_,by rw[kg];exact #[l,sq,by rw[<- rs.len];exact FQ _]]
     rw[kh] at hd
     obtain ⟨N,s,rfl⟩:=Fz.mp hd
     have hw:∃ u,ws[i]?=some u/\u.d=N:=by
      rw[<- h1,FP] at s
      obtain ⟨u,a,b⟩:=Fz.mp s
      exact #[u,a,b]
     obtain ⟨u,φ,τ⟩:=hw
     have Q:l[i]?=some u.v:=by rw[<- h2,FP,φ];rfl
     have hu:=FL φ
     refine #[#[l,u.v,sq,Q],λx av #[Tt,yv,e1,B,n,E]=>?_]
     have f:=E l sq
     rw[Q] at f
     cases f
     subst e1 n
     have ru:Rep K H' u.d u.v u.L:=(h3 u hu).2.1.keep I hm λb ρ=>X _ Fv b (Fw _ ((h3 u hu).2.2 b ρ))
     refine #[#[.tup [.int ((0+i:Nat):Int),N],.ref Tt,[]++(u.L++[]),.z],yY B (.cons (L:=[]) (by rw[FZ];exact .int _) (.cons (by rw[<- τ];exact ru) .nil)) (λc A=>#[u,hu,by simpa using A]),rfl,rfl,rfl]
theorem A8 {k:Nat} (d:Gl X "enumerate") (hm:X.mg "enumerate"=none) (b:RA X G0 W0 [a] ms) (c:starEach [a] X.env=[(false,eval a X.env)]):RI X G0 W0 (.Tuple elts k tp) (.Call (.Name "enumerate" p) [a] [] pos) (mm ms):=#[PI.imp (Bq d hm b.h c) λ_ _ _ h=>Az h]
end
end L3
namespace L3
theorem Bk {i:Nat} (h:mask.length<=i):prM mask i=false:=by
 unfold prM
 rw[List.getElem?_eq_none h]
end L3
end
section
namespace L3
open PySem L2
structure Bl (mg:Str->Option Value):Prop where
 len:mg "len"=none
 range:mg "range"=none
 abs:mg "abs"=none
 divmod:mg "divmod"=none
 enumerate:mg "enumerate"=none
 tuple:mg "tuple"=none
 isinstance:mg "isinstance"=none
 int:mg "int"=none
 bool:mg "bool"=none
 all:mg "all"=none
 str:mg "str"=none
 max:mg "max"=none
 min:mg "min"=none
 list:mg "list"=none
 dict:mg "dict"=none
 repr:mg "repr"=none
 sorted:mg "sorted"=none
 set:mg "set"=none
 zip:mg "zip"=none
 reversed:mg "reversed"=none
theorem b_len:bootBuiltins "len"=some (.builtin "len"):=by decide +kernel
theorem b_abs:bootBuiltins "abs"=some (.builtin "abs"):=by decide +kernel
theorem z9:bootBuiltins "divmod"=some (.builtin "divmod"):=by decide +kernel
theorem vg:bootBuiltins "tuple"=some (.type "tuple"):=by decide +kernel
theorem jO:bootBuiltins "isinstance"=some (.builtin "isinstance"):=by decide +kernel
theorem CL:bootBuiltins "int"=some (.type "int"):=by decide +kernel
theorem Fj:bootBuiltins "bool"=some (.type "bool"):=by decide +kernel
theorem b_all:bootBuiltins "all"=some (.builtin "all"):=by decide +kernel
theorem b_max:bootBuiltins "max"=some (.builtin "max"):=by decide +kernel
theorem b_min:bootBuiltins "min"=some (.builtin "min"):=by decide +kernel
theorem Fi:bootBuiltins "list"=some (.type "list"):=by decide +kernel
theorem Fh:bootBuiltins "repr"=some (.builtin "repr"):=by decide +kernel
theorem rJ:bootBuiltins "sorted"=some (.builtin "sorted"):=by decide +kernel
theorem b_set:bootBuiltins "set"=some (.type "set"):=by decide +kernel
section
variable {K:FG} {G G0:Gm} {W W0:D->Sto->Prop} {H H':Hp} {O:St} {Z Z':Sto} {T T':List It3} {g:Nat->Option It3} {x y z:It3} {α β:Type} {X:Cx} {L:List Addr}
theorem t5 (h:tE K G0 W0 m O H Q) (f:∀ v H,Q v H->Q' v H):tE K G0 W0 m O H Q':=by
 refine h.use λG W le Z T g o Z' w e q=>?_
 refine tE.mk le w e ?_
 cases o with
 | ok r=>exact λv H' g=>f v H' (q v H' g)
 | error x=>exact q
def nR:D->Option String
 | .non=>some "NoneType" | .bl _=>some "bool" | .int _=>some "int" | .str _=>some "str"
 | .tup _=>some "tuple" | .lst _=>some "list" | .fls _=>some "list" | .dk _=>some "dict" | .dt _=>some "dict" | .exc _ _=>none
def jG (t:String) (d:D):Option (D×Fl):=(nR d).map λk=>(.bl (kW k t),.z)
theorem Rep.kind (r:Rep K H d v L) (e:nR d=some k):KindOf K H v k:=by
 cases r with
 | non=>cases e;exact .non
 | bl b=>cases e;exact .bool b
 | int i=>cases e;exact .int i
 | str s=>cases e;exact .str s
 | tup h _=>cases e;exact .tuple (SqT.of h)
 | lst h _=>cases e;exact .list (SqL.of h)
 | lstF h _=>cases e;exact .list h.sq
 | dK h _ _=>cases e;exact .dK h
 | dT h _ _=>cases e;exact .dT h
 | exc _ _=>cases e
 | excV _ _ _ _ _ _ _ _=>cases e
theorem so (l:CallR X (.builtin "isinstance") (λxs H Q=>∃ x k,xs=[x,.ty t]/\KindOf X.K H x k/\Q (.bl (kW k t)) H)) (g:Gl X "isinstance") (hm:X.mg "isinstance"=none) (f:PE X (.Name tn pT) (tC (.ty t))) (j:RE X G0 W0 a ma) (b:starEach [a,.Name tn pT] X.env=(false,eval a X.env)::starEach [.Name tn pT] X.env) (c:starEach [.Name tn pT] X.env=(false,eval (.Name tn pT) X.env)::starEach [] X.env) (d:(backTo pos (starEach [.Name tn pT] X.env)).any (·.1)=false):RE X G0 W0 (.Call (.Name "isinstance" p) [a,.Name tn pT] [] pos) (mUn (jG t) ma) :=
 ⟨PE.imp (jB l g hm jO (fL j.h (fL f lV c) b) (by decide) (by decide) b d) λO H Q h=>by
  have h:=xt (r:=λx H Q=>∃ k,KindOf X.K H x k/\Q (.bl (kW k t)) H) (λa H Q p ra e q=>by
   obtain ⟨k,h1,h2⟩:=Fz.mp e
   subst h2
   exact #[k,ra.rep.kind h1,q #[.bl (kW k t),.bl (kW k t),[],.z] H (dn (.bl _)) rfl rfl]) h
  refine t5 h λx H1 #[k,i,q]=>?_
  exact ⟨x,k,rfl,i,q⟩⟩
def zu:D->Option Key
 | .int i=>some (.inl i)
 | .str s=>some (.inr s)
 | _=>none
def eV:List D->Option (List Key)
 | []=>some []
 | d::ds=>match zu d,eV ds with
  | some k,some ks=>some (k::ks)
  | _,_=>none
theorem wk (r:Rep K H d v L) (e:zu d=some k):v=kV k:=by
 cases r <;> cases e <;> rfl
theorem il:∀ {ds:List D} {a:List V} {L:List Addr} {ks:List Key},Reps (Rep K H) ds a L->eV ds=some ks->a=ks.map kV
 | _,_,_,ks,.nil,e=>by cases e;rfl
 | _,_,_,ks,.cons (d:=d) (ds:=ds) r rs,e=>by
  unfold eV at e
  cases h1:zu d with
  | none=>rw[h1] at e;exact nsE e
  | some k =>
   cases h2:eV ds with
   | none=>rw[h1,h2] at e;exact nsE e
   | some ks' =>
    rw[h1,h2] at e
    cases e
    rw[wk r h1,il rs h2];rfl
def mq (kvs:List (List Key×D)) (k:List Key):Option D:=(kvs.find? λa=>decide (a.1=k)).map (·.2)
def qu (kvs:List (List Key×D)) (k:List Key) (v:D):List (List Key×D) :=
 if (kvs.any λa=>decide (a.1=k))=true then kvs.map (λa=>if a.1=k then (a.1,v) else a) else kvs++[(k,v)]
theorem qY:∀ {kvs:List (List Key×D)} {ps:List (List Key×V)} {L:List Addr} {k:List Key} {d:D},kvs.map (·.1)=ps.map (·.1)->Reps (Rep K H) (kvs.map (·.2)) (ps.map (·.2)) L->mq kvs k=some d->∃ v L',kR ps k=some v/\Rep K H d v L'/\∀ c∈L',c∈L
 | [],ps,L,k,d,hk,r,e=>by cases e
 | f::kvs,[],L,k,d,hk,r,e=>by cases hk
 | f::kvs,p::ps,L,k,d,hk,r,e=>by
  have b:f.1=p.1/\kvs.map (·.1)=ps.map (·.1):=by simpa using hk
  generalize i:(f::kvs).map (·.2)=xs at r
  generalize j:(p::ps).map (·.2)=ys at r
  cases r with
  | nil=>cases i
  | cons a as =>
   cases i
   cases j
   unfold mq at e
   rw[List.find?_cons] at e
   by_cases h:f.1=k
   .rw[FW h] at e
    cases e
    exact #[_,_,jj (b.1.symm.trans h),a,λc g=>FA _ g]
   .rw[FX h] at e
    obtain ⟨v,L',h1,h2,h3⟩:=qY b.2 as e
    exact #[v,L',by rw[jl (λz=>h (b.1.trans z))];exact h1,h2,λc g=>FC _ (h3 c g)]
def kO:D->D->Option (D×Fl)
 | .dt kvs,.tup ks=>match eV ks with
  | some k=>(mq kvs k).map λd=>(d,.z)
  | none=>none
 | _,_=>none
def uy:R2:=λx y H Q=>∃ a v,x=.ref a/\DGet H a y (some v)/\Q v H
theorem BC:OpD K uy kO:=λa b H Q p ra rb e q=>by
 obtain ⟨da,x,w,j⟩:=a
 obtain ⟨db,r,s,B⟩:=b
 have h:=ra
 obtain ⟨ra,u⟩:=ra
 obtain ⟨rb,ob⟩:=rb
 dsimp only at ra rb e
 cases da with
 | dt kvs =>
  obtain ⟨g,ps,i,rfl,rfl,m,l,rs⟩:=ra.view
  cases db with
  | tup ks =>
   obtain ⟨A,ws,rfl,o,f⟩:=rb.view
   have e:(match eV ks with | some k=>(mq kvs k).map λd=>(d,Fl.z) | none=>none)=some p:=e
   cases h1:eV ks with
   | none=>rw[h1] at e;exact nsE e
   | some k =>
    rw[h1] at e
    obtain ⟨d,h2,h3⟩:=Fz.mp (show (mq kvs k).map (λd=>(d,Fl.z))=some p from e)
    subst h3
    have hw:=il f h1
    subst hw
    obtain ⟨v,L',g1,g2,g3⟩:=qY l rs h2
    refine #[g,v,rfl,by rw[<- g1];exact DGet.t m o,q #[d,v,L',.z] H (qE g2 λc n=>?_) rfl rfl]
    exact o6 (y:=#[.dt kvs,.ref g,g::i,j]) Fv h rfl rfl c (g3 c n)
  | _=>exact nsE e
 | _=>exact nsE e
open PySem.Spec PyProof.Rows in
theorem BR (hu:X.A.units+1 < cLine):IxR X uy:=by
 intro value slice pins s O H x y v u Q I d e h f
 obtain ⟨a,w,rfl,g,q⟩:=h
 cases d
 have c:=re I g
 unfold subscriptTail
 refine Fs ?_
 rw[getitemInPython_of_ne c.not_modules]
 refine Fs (wpAny_specialOf c PySem.F.slot_dict_getitem.lookup ?_)
 have fin:wpAny (model X.prog X.w) X.A (subscripted slice false (.ref a) u) (λr j=>wpAny (model X.prog X.w) X.A (letTemporaryGo value (.ref a) r >>= λ_=>pure r) (EP X pins O Q) X.xe j) X.xe s:=by
  rw[f]
  exact wpAny_operating (wG hu I g e λk s3 i b=>Fs (wpAny_letTemporaryGo (Ft #[w,H,i,b,q])))
 first
  | exact Ft (Fs fin)
  | exact Fs (Ft (Fs fin))
  | exact Fs fin
abbrev aB:=orD ixD kO
theorem Er:OpD K (λx y H Q=>(yy K x y H Q\/yx K x y H Q)\/uy x y H Q) aB:=od_ix.or BC
theorem ER (hu:X.A.units+1 < cLine):IxR X (λx y H Q=>(yy X.K x y H Q\/yx X.K x y H Q)\/uy x y H Q):=ix_ok.or (BR hu)
def zh:EM:=bc (.val (.dt []) .u)
theorem yj:RE X G0 W0 (.Dict [] [] pos) zh:=⟨PE.imp yM λO H Q h=>by
 refine h.use λG W le Z T g o Z' w e q=>?_
 cases e
 intro p a
 refine q _ _ (Wf.done (Us:=[]) (ys:=[]) (x:=#[.dt [],.ref p,[p],.u]) w (λ_ h=>(by cases h)) #[bz a,.dT aF rfl .nil,λc b=>?_,λ_=>#[rfl,p,[],rfl,rfl,(by simp),a]])
 rw[F9.mp b];exact .inl a⟩
def kD:D->List D->Option (D×D)
 | .dt kvs,[.tup ks,v]=>match eV ks with
  | some k=>if kvs.length < 16777216 then some (.dt (qu kvs k v),.non) else none
  | none=>none
 | _,_=>none
def uw:Fq:=λo i v H Q=>∃ a H',o=.ref a/\DPut H a i v H'/\Q H'
theorem xK (hu:X.A.units+1 < cLine):Ag X uw:=by
 intro pins s O H o i v ov f u Q I c b d h
 obtain ⟨a,H',rfl,g,q⟩:=h
 cases c
 exact wF hu I g b d λs' e=>#[H',e,q]
theorem qt:∀ {kvs:List (List Key×D)} {ps:List (List Key×V)} {L L':List Addr} {k:List Key} {d:D} {v:V},kvs.map (·.1)=ps.map (·.1)->Reps (Rep K H) (kvs.map (·.2)) (ps.map (·.2)) L->Rep K H d v L' ->
  ∃ L2,Reps (Rep K H) ((kvs.map λb=>if b.1=k then (b.1,d) else b).map (·.2)) ((ps.map λb=>if b.1=k then (b.1,v) else b).map (·.2)) L2/\(∀ c∈L2,c∈L\/c∈L')
 | [],[],L,L',k,d,v,hk,r,rd=>#[[],.nil,λc f=>by cases f]
 | [],_::_,_,_,_,_,_,hk,_,_=>by cases hk
 | _::_,[],_,_,_,_,_,hk,_,_=>by cases hk
 | b::kvs,p::ps,L,L',k,d,v,hk,r,rd=>by
  have e:b.1=p.1/\kvs.map (·.1)=ps.map (·.1):=by simpa using hk
  generalize g:(b::kvs).map (·.2)=xs at r
  generalize i:(p::ps).map (·.2)=ys at r
  cases r with
  | nil=>cases g
  | @cons _ _ L1 _ _ L1' a as =>
   cases g
   cases i
   obtain ⟨L2,h1,h2⟩:=qt (k:=k) e.2 as rd
   by_cases h:b.1=k
   .refine #[L'++L2,?_,λc f=>?_]
    .simp only[FV,if_pos h,if_pos (e.1.symm.trans h)]
     exact .cons rd h1
    .rcases FH.mp f with z | z
     .exact .inr z
     .rcases h2 c z with y | y
      .exact .inl (FC _ y)
      .exact .inr y
   .refine #[L1++L2,?_,λc f=>?_]
    .simp only[FV,if_neg h,if_neg (λz=>h (e.1.trans z))]
     exact .cons a h1
    .rcases FH.mp f with z | z
     .exact .inl (FA _ z)
     .rcases h2 c z with y | y
      .exact .inl (FC _ y)
      .exact .inr y
theorem Ac {kvs:List (List Key×D)} {ps:List (List Key×V)} (b:kvs.map (·.1)=ps.map (·.1)):(kvs.any λa=>decide (a.1=k))=ps.any λa=>decide (a.1=k):=by
 have h1:(kvs.any λa=>decide (a.1=k))=(kvs.map (·.1)).any λx=>decide (x=k):=by rw[List.any_map];rfl
 have h2:(ps.any λa=>decide (a.1=k))=(ps.map (·.1)).any λx=>decide (x=k):=by rw[List.any_map];rfl
 rw[h1,h2,b]
theorem qN {kvs:List (List Key×α)} {d:α}:(kvs.map λa=>if a.1=k then (a.1,d) else a).map (·.1)=kvs.map (·.1):=by
 rw[Gk]
 refine List.map_congr_left λa _=>?_
 show (if a.1=k then (a.1,d) else a).1=a.1
 split <;> rfl
theorem put1 (a:D):kD (.dt kvs) [a]=none:=by cases a <;> rfl
theorem put3' (a:D):kD (.dt kvs) (a::b::c::r)=none:=by cases a <;> rfl
theorem BJ:MutD K (lS uw) kD:=λa d n as H Q p r m na ra u e q=>by
 cases d with
 | dt kvs =>
  obtain ⟨_,ps,_,e1,C,w,i,rs⟩:=r.view
  cases e1
  cases C
  match as,e,ra,u with
  | [],e,_,_=>exact nsE e
  | [y],e,_,_=>exact nsE ((put1 y.d).symm.trans e)
  | y::_::_::_,e,_,_=>exact nsE ((put3' y.d).symm.trans e)
  | [k,y],e,ra,u =>
   have x:=ra k Fv
   have B:=ra y (Fw _ Fv)
   have A:=u y (Fw _ Fv)
   obtain ⟨kd,G,I,J⟩:=k
   dsimp only at x
   cases kd with
   | tup ks =>
    obtain ⟨E,ws,rfl,f,s⟩:=x.view
    have e:(match eV ks with | some k=>if kvs.length < 16777216 then some (D.dt (qu kvs k y.d),D.non) else none | none=>none)=some p:=e
    cases h1:eV ks with
    | none=>rw[h1] at e;exact nsE e
    | some key =>
     rw[h1] at e
     dsimp only at e
     split at e
     .rename_i F
      cases e
      have hw:=il s h1
      subst hw
      have hlen:kvs.length=ps.length:=by have:=congrArg List.length i;simpa using this
      refine #[.ref E,y.v,rfl,a,_,rfl,DPut.t w f (by rw[<- hlen,<- szl];exact F),?_]
      have ma:MutAt H a:=.inr (.inr #[_,w])
      have g:Rep K (upd H a (.dT (fK ps key y.v))) y.d y.v y.L:=B.keep (M:=λb=>b=a) (λb o f h=>by rw[aw h];exact f) (λb e=>by rw[e];exact ma) λb f e=>A (by rw[<- e];exact f)
      have keeps:Reps (Rep K (upd H a (.dT (fK ps key y.v)))) (kvs.map (·.2)) (ps.map (·.2)) n:=rs.keep (M:=λb=>b=a) (λb o f h=>by rw[aw h];exact f) (λb e=>by rw[e];exact ma) λb f e=>na (by rw[<- e];exact f)
      have fin:∃ l,Reps (Rep K (upd H a (.dT (fK ps key y.v)))) ((qu kvs key y.d).map (·.2)) ((fK ps key y.v).map (·.2)) l/\(∀ c∈l,c∈n\/c∈y.L)/\(qu kvs key y.d).map (·.1)=(fK ps key y.v).map (·.1):=by
       generalize upd H a (HO.dT (fK ps key y.v))=H2 at keeps g ⊢
       unfold qu fK
       rw[Ac i]
       split
       .obtain ⟨L2,g1,g2⟩:=qt (k:=key) i keeps g
        exact #[L2,g1,g2,by rw[qN,qN];exact i]
       .refine #[n++(y.L++[]),?_,λc j=>?_,by rw[List.map_append,List.map_append,i];rfl]
        .rw[List.map_append,List.map_append]
         exact keeps.append (.cons g .nil)
        .rcases FH.mp j with z | z
         .exact .inl z
         .rw[List.append_nil] at z;exact .inr z
      obtain ⟨l,g1,g2,g3⟩:=fin
      exact q (.dT (fK ps key y.v)) l #[.non,.non,[],.z] (.dT aF g3 g1) rfl (λc j=>(g2 c j).imp id λh=>#[y,Fw _ Fv,h]) rfl rfl .non λc j=>by cases j
     .exact nsE e
   | _=>exact nsE e
 | _=>exact nsE e
def sD (f g:D->List D->Option (D×D)) (a:D) (b:List D):Option (D×D):=match f a b with
 | some p=>some p
 | none=>g a b
theorem MutD.or {f g:D->List D->Option (D×D)} (h:MutD K r f) (h':MutD K r' g):MutD K (λx y H Q=>r x y H Q\/r' x y H Q) (sD f g):=λa d c as H Q p r m na ra i e q=>by
 unfold sD at e
 cases b:f d (as.map (·.d)) with
 | some p'=>rw[b] at e;cases e;exact .inl (h a d c as H Q _ r m na ra i b q)
 | none=>rw[b] at e;exact .inr (h' a d c as H Q p r m na ra i e q)
abbrev AM:=sD qf kD
theorem Ew:MutD K (lS λo i v H Q=>uu o i v H Q\/uw o i v H Q) AM:=λa d b as H Q p r m na ra c e q=>by
 rcases MutD.or BI BJ a d b as H Q p r m na ra c e q with ⟨k,v,h1,h2⟩ | ⟨k,v,h1,h2⟩
 .exact #[k,v,h1,.inl h2]
 .exact #[k,v,h1,.inr h2]
theorem AK (hu:X.A.units+1 < cLine):Ag X (λo i v H Q=>uu o i v H Q\/uw o i v H Q):=by
 intro pins s O H o i v ov a u Q I c b d h
 rcases h with h | h
 .exact xI pins s O H o i v ov a u Q I c b d h
 .exact xK hu pins s O H o i v ov a u Q I c b d h
end
section
open PySem.Spec PyProof.Rows HT
variable {prog:Program} {w:World} {A:Around} {E:Value->Shared->Prop} {s:Shared}
theorem iT {lo hi:Option Int} (a:IsTup s.heap t items) (e:s.heap.IsSliceOf sl vl vu .none) (pl:IsPart vl lo) (pu:IsPart vu hi) (hw:sIx items.size 0 lo=0/\sIx items.size items.size hi=items.size) (h:Q (.ref t) s) (hsz:items.size<=sizeLine):wpAny (model prog w) A (getItem (.ref t) (.ref sl)) Q E s:=by
 obtain ⟨os,b,d,f⟩:=id e
 have c:s.TypeIs (.ref sl) "slice":=#[os,b,d]
 unfold getItem
 try with_reducible refine Fu ?_
 first | refine Fs (Ft ?_) | skip
 refine Fs (wpAny_sequenceKey a.typeIs (by decide) ?_)
 refine Fs (wpAny_callSpecial?_slot (name:=Str.ofString "__getitem__") a.typeIs PyProof.Rows.slot_tuple_getitem
  (wpAny_call_entry PyProof.Rows.slot_tuple_getitem a.typeIs entry_tuple_getitem ?_ (args_tuple_getitem _ _)))
 show wpAny _ _ (Builtin.Tuple.tupleItemsOf (.ref t) >>= _) _ _ s
 refine Fs (tupleItemsOf_ a ?_)
 refine Fs (wpAny_typeOf c ?_)
 rw[if_pos (by decide)]
 refine Fs (eX e pl pu ?_)
 show wpAny _ _ (if (((sIx items.size 0 lo:Nat):Int) == 0 && (1:Int) == 1 && (sIx items.size items.size hi - sIx items.size 0 lo) == items.size)=true then _ else _) _ _ s
 rw[if_pos (by simp[hw.1,hw.2])]
 refine Fs ?_
 unfold Builtin.Tuple.tupleIsExact
 refine Fs (wpAny_typeOf a.typeIs ?_)
 refine Ft ?_
 rw[if_pos (by decide)]
 exact Fs (wpAny_rule (Ft #[_,rfl,Ft h]))
end
section
variable {K:FG} {G G0:Gm} {W W0:D->Sto->Prop} {H H':Hp} {O:St} {Z Z':Sto} {T T':List It3} {g:Nat->Option It3} {x y z:It3} {α β:Type} {X:Cx} {L:List Addr}
def yw (K:FG):V->Option Int->Option Int->Hp->VK->Prop:=λx lo hi H Q=>∃ a xs,x=.ref a/\SqT K H a xs/\(HT.sIx xs.length 0 lo=0/\HT.sIx xs.length xs.length hi=xs.length)/\Q (.ref a) H
theorem AF:SlR X (yw X.K):=by
 intro pins s O H x v g f lo hi sl Q I c e pl pu h
 obtain ⟨a,xs,rfl,d,hw,q⟩:=h
 cases c
 obtain ⟨its,r,b,hz⟩:=I.tuple d
 have hlen:its.toArray.size=xs.length:=by rw[FU];exact r.length.symm
 refine #["tuple",_,PyProof.Rows.slot_tuple_getitem.lookup,b.typeIs,?_]
 exact iT b e pl pu (by rw[hlen];exact hw) #[.ref a,H,I,rfl,q] (by rw[hlen];exact hz)
def asI:D->Option Int
 | .int i=>some i
 | _=>none
def nG:M3 (Option Int):=bc none
def iV (m:EM):M3 (Option Int):=ai m λr=>ai (der r) λd=>bh ((asI d).map some)
def EndP (K:FG) (G:Gm) (W:D->Sto->Prop) (O:St) (T:List It3) (Z':Sto) (Q:Option Int->Hp->Prop):Except D (Option Int)->Prop
 | .ok b=>∀ H' g',Wf K G H' O Z' T g'->Q b H'
 | .error e=>W e Z'
def tP (K:FG) (G0:Gm) (W0:D->Sto->Prop) (m:M3 (Option Int)):TO:=λO H Q=>∃ G W,Le K G W G0 W0/\∃ Z T g r Z',Wf K G H O Z T g/\m Z=some (r,Z')/\EndP K G W O T Z' Q r
structure RP (X:Cx) (G0:Gm) (W0:D->Sto->Prop) (e:Option Expr) (m:M3 (Option Int)):Prop where
 h:PO X e (tP X.K G0 W0 m)
theorem PO.imp (h:PO X e t) (f:∀ O H Q,t' O H Q->t O H Q):PO X e t':=λpins s O H Q I q=>h pins s O H Q I (f O H Q q)
theorem A2:RP X G0 W0 none nG:=⟨PO.imp Bo λO H Q h=>by
 obtain ⟨G,W,le,Z,T,g,r,Z',w,e,q⟩:=h
 cases e
 exact q _ _ w⟩
theorem A0 (h:RE X G0 W0 e m):RP X G0 W0 (some e) (iV m):=⟨PO.imp (Bm h.h) λO H Q h=>by
 obtain ⟨G,W,le,Z,T,g,r,Z',w,e,q⟩:=h
 have a:∀ x,r=.error x->W x Z':=λx b=>by subst b;exact q
 refine tE.seq le w e a λra Z1 e1 v H1 #[Ts,g1,f,a1]=>?_
 obtain ⟨d,j,n⟩:=aY e1
 obtain ⟨o,p,rfl,rfl⟩:=bV n
 obtain ⟨i,s,k⟩:=Fz.mp p
 subst k
 obtain ⟨y,l,f1,f2⟩:=a1.item f (λx b=>FA _ b) j
 have c:=(f.itm l).rep
 rw[f1] at c
 have hd:d=.int i:=by cases d <;> cases s;rfl
 rw[hd] at c
 refine ⟨i,by rw[<- f2];exact c.int_inv,q _ _ (f.sub (FN Ts T))⟩⟩
def mSl (f:D->Option Int->Option Int->Option (D×Fl)) (ma:EM) (pl pu:M3 (Option Int)):EM:=ai ma λra=>ai pl λlo=>ai pu λhi=>ai (der ra) λd=>bh ((f d lo hi).map λp=>R3.val p.1 p.2)
def SlD (K:FG) (r:V->Option Int->Option Int->Hp->VK->Prop) (f:D->Option Int->Option Int->Option (D×Fl)):Prop:=∀ (a:It3) (lo hi:Option Int) (H:Hp) (Q:VK) (p:D×Fl),Arg K H a->f a.d lo hi=some p ->
 (∀ w H',New K H H' (dg [a]) w->w.d=p.1->w.f=p.2->Q w.v H')->r a.v lo hi H Q
theorem tP.seq (le:Le K G W G0 W0) (w:Wf K G H O Z T g) (e:ai ma k Z=some (r,Z')) (he:∀ x,r=.error x->W x Z') (h:∀ b Z1,k b Z1=some (r,Z')->∀ H1 g1,Wf K G H1 O Z1 T g1->P b H1):tP K G0 W0 ma O H P:=by
 unfold ai at e
 cases q:ma Z with
 | none=>rw[q] at e;exact nsE e
 | some p =>
  obtain ⟨o,Z1⟩:=p
  rw[q] at e
  cases o with
  | error x=>cases e;exact #[G,W,le,Z,T,g,.error x,Z',w,q,he x rfl]
  | ok ra=>exact #[G,W,le,Z,T,g,.ok ra,Z1,w,q,h ra Z1 e]
theorem tE_sl (hd:SlD K r f) (h:tE K G0 W0 (mSl f ma pl pu) O H Q):tSl r (tE K G0 W0 ma) (tP K G0 W0 pl) (tP K G0 W0 pu) O H Q:=by
 refine h.use λG W le Z T g o Z' w e q=>?_
 refine tE.seq le w e q.err λra Z1 e1 A H1 #[Ts,g1,n,a1]=>?_
 refine tP.seq le n e1 q.err λlo Z2 m H2 g2 t=>?_
 refine tP.seq le t m q.err λhi Z3 u l g3 b=>?_
 obtain ⟨d,j,v⟩:=aY u
 obtain ⟨p,a,rfl,rfl⟩:=bV v
 obtain ⟨y,i,f1,f2⟩:=a1.item b (λx k=>FA _ k) j
 subst f1 f2
 cases c:f y.d lo hi with
 | none=>rw[c] at a;exact nsE a
 | some s =>
  rw[c] at a
  cases a
  exact hd y lo hi l Q s (b.itm i).arg c (og b (λz hz=>by rw[F9.mp hz];exact i) q)
theorem Reps.take:∀ {ds:List D} {b:List V} {L:List Addr} (n:Nat),Reps (Rep K H) ds b L->∃ L',Reps (Rep K H) (ds.take n) (b.take n) L'/\∀ c∈L',c∈L
 | _,_,_,0,_=>#[[],by simpa using Reps.nil,λc a=>by cases a]
 | _,_,_,n+1,.nil=>#[[],by simpa using Reps.nil,λc a=>by cases a]
 | _,_,_,n+1,.cons (L:=L1) r rs=>by
  obtain ⟨L',h1,h2⟩:=Reps.take n rs
  exact ⟨L1++L',by simpa using Reps.cons r h1,λc a=>by
   rcases FH.mp a with h | h
   .exact FA _ h
   .exact FC _ (h2 c h)⟩
theorem Reps.drop:∀ {ds:List D} {b:List V} {L:List Addr} (n:Nat),Reps (Rep K H) ds b L->∃ L',Reps (Rep K H) (ds.drop n) (b.drop n) L'/\∀ c∈L',c∈L
 | _,_,L,0,r=>#[L,by simpa using r,λc a=>a]
 | _,_,_,n+1,.nil=>#[[],by simpa using Reps.nil,λc a=>by cases a]
 | _,_,_,n+1,.cons r rs=>by
  obtain ⟨L',h1,h2⟩:=Reps.drop n rs
  exact #[L',by simpa using h1,λc a=>FC _ (h2 c a)]
theorem Reps.cut (lo hi:Option Int) (r:Reps (Rep K H) ds vs L):∃ L',Reps (Rep K H) (kY ds lo hi) (rf vs lo hi) L'/\∀ c∈L',c∈L:=by
 unfold kY rf
 rw[<- r.len]
 obtain ⟨d,h1,h2⟩:=r.drop (HT.sIx ds.length 0 lo)
 obtain ⟨L2,h3,a⟩:=h1.take (HT.sIx ds.length ds.length hi - HT.sIx ds.length 0 lo)
 exact #[L2,h3,λc b=>h2 c (a c b)]
def slD:D->Option Int->Option Int->Option (D×Fl)
 | .lst xs,lo,hi=>some (.lst (kY xs lo hi),.u)
 | .fls xs,lo,hi=>some (.lst (kY xs lo hi),.u)
 | .tup xs,lo,hi=>#v[.tup (kY xs lo hi)]
 | _,_,_=>none
theorem sd_sl:SlD K (λx lo hi H Q=>DO K x lo hi H Q\/(DN K x lo hi H Q\/yw K x lo hi H Q)) slD:=λa lo hi H Q p ra e q=>by
 obtain ⟨da,n,k,j⟩:=a
 have f:=ra
 obtain ⟨ra,m⟩:=ra
 dsimp only at ra e
 cases da with
 | lst xs =>
  obtain ⟨b,d,l,rfl,rfl,g,rs⟩:=ra.view
  cases e
  obtain ⟨L',h1,h2⟩:=rs.cut lo hi
  exact .inl #[b,d,rfl,SqL.of g,λp i=>q #[_,.ref p,p::L',.u] _ (sH i h1 λc h=>o6 (y:=#[.lst xs,.ref b,b::l,j]) Fv f rfl rfl c (h2 c h)) rfl rfl]
 | fls xs =>
  obtain ⟨b,d,rfl,g,rs⟩:=ra.view
  cases e
  obtain ⟨L',h1,h2⟩:=rs.cut lo hi
  exact .inl #[b,d,rfl,g.sq,λp i=>q #[_,.ref p,p::L',.u] _ (sH i h1 λc h=>j7 (y:=#[.fls xs,.ref b,k,j]) Fv f rfl c (h2 c h)) rfl rfl]
 | tup xs =>
  obtain ⟨b,d,rfl,g,rs⟩:=ra.view
  cases e
  by_cases hw:HT.sIx d.length 0 lo=0/\HT.sIx d.length d.length hi=d.length
  .have h:kY xs lo hi=xs:=by
    unfold kY
    rw[rs.len,hw.1,hw.2,<- rs.len]
    simp
   rw[h] at q
   exact .inr (.inr #[b,d,rfl,SqT.of g,hw,q #[.tup xs,.ref b,k,.z] H (qE (.tup g rs) (j7 (y:=#[.tup xs,.ref b,k,j]) Fv f rfl)) rfl rfl])
  .obtain ⟨L',h1,h2⟩:=rs.cut lo hi
   exact .inr (.inl #[b,d,rfl,SqT.of g,hw,λp i=>q #[_,.ref p,L',.z] _ (yY i h1 λc h=>j7 (y:=#[.tup xs,.ref b,k,j]) Fv f rfl c (h2 c h)) rfl rfl])
 | _=>exact nsE e
theorem Di:SlR X (λx lo hi H Q=>DO X.K x lo hi H Q\/(DN X.K x lo hi H Q\/yw X.K x lo hi H Q)):=sl_list.or (sl_tup.or AF)
theorem yi (he:RE X G0 W0 e m) (a:RP X G0 W0 lo pl) (hu:RP X G0 W0 hi pu):RE X G0 W0 (.Subscript e (.Slice lo hi none p2) pos) (mSl slD m pl pu):=#[PE.imp (yJ Di he.h a.h hu.h) λ_ _ _ h=>tE_sl sd_sl h]
end
mutual
def pyD:D->Option PyData
 | .non=>some .none
 | .bl b=>some (.bool b)
 | .int i=>some (.int i)
 | .str x=>some (.str x)
 | .tup xs=>(eZ xs).map .tuple
 | .lst xs=>(eZ xs).map .list
 | .fls xs=>(eZ xs).map .list
 | .dk _=>none
 | .dt _=>none
 | .exc _ _=>none
def eZ:List D->Option (List PyData)
 | []=>some []
 | d::ds=>match pyD d,eZ ds with
  | some p,some ps=>some (p::ps)
  | _,_=>none
end
section
variable {K:FG} {H:Hp} {Ks:Addr->Prop} {d:D} {v:V} {L:List Addr} {X:Cx}
theorem Rep.dv (r:Rep K H d v L):∀ p,pyD d=some p->DV K H v p:=by
 refine Rep.rec (motive_1:=λd v _ _=>∀ p,pyD d=some p->DV K H v p) (motive_2:=λds b _ _=>∀ ps,eZ ds=some ps->DVs K H b ps) ?_ ?_ ?_ ?_ ?_ ?_ ?_ ?_ ?_ ?_ ?_ ?_ ?_ r
 .intro p e;unfold pyD at e;cases e;exact .non
 .intro _ p e;unfold pyD at e;cases e;exact .bl _
 .intro _ p e;unfold pyD at e;cases e;exact .int _
 .intro _ p e;unfold pyD at e;cases e;exact .str _
 .intro xs a b L h _ c p e
  unfold pyD at e
  obtain ⟨ps,e1,rfl⟩:=Fz.mp e
  exact .tup (SqT.of h) (c ps e1)
 .intro xs a b L h _ c p e
  unfold pyD at e
  obtain ⟨ps,e1,rfl⟩:=Fz.mp e
  exact .lst (SqL.of h) (c ps e1)
 .intro xs a b L h _ c p e
  unfold pyD at e
  obtain ⟨ps,e1,rfl⟩:=Fz.mp e
  exact .lst h.sq (c ps e1)
 .intro _ _ _ _ _ _ _ _ p e;unfold pyD at e;exact nsE e
 .intro _ _ _ _ _ _ _ _ p e;unfold pyD at e;exact nsE e
 .intros;rename_i e;unfold pyD at e;exact nsE e
 .intros;rename_i e;unfold pyD at e;exact nsE e
 .intro ps e;unfold eZ at e;cases e;exact .nil
 .intro d v L ds b L' _ _ f g ps e
  unfold eZ at e
  cases h1:pyD d with
  | none=>rw[h1] at e;exact nsE e
  | some p =>
   cases h2:eZ ds with
   | none=>rw[h1,h2] at e;exact nsE e
   | some qs=>rw[h1,h2] at e;cases e;exact .cons (f p h1) (g qs h2)
def eqP (a b:D):Option Bool:=match pyD a,pyD b with
 | some p,some q=>if p.canLay0 && q.canLay0 && decide (min p.depth q.depth<=30) then some (PyData.eqv p q) else none
 | _,_=>none
def eqA (a b:D):Option Bool:=match eqS a b with
 | some k=>some k
 | none=>eqP a b
abbrev eqX (a b:D):Option (D×Fl):=(eqA a b).map λk=>(.bl k,.z)
abbrev neX (a b:D):Option (D×Fl):=(eqA a b).map λk=>(.bl (!k),.z)
def rEqP:R2:=λx y H Q=>∃ p q,DV X.K H x p/\DV X.K H y q/\p.canLay0=true/\q.canLay0=true/\min p.depth q.depth<=30/\Q (.bl (PyData.eqv p q)) H
def rNeP:R2:=λx y H Q=>∃ p q,DV X.K H x p/\DV X.K H y q/\p.canLay0=true/\q.canLay0=true/\min p.depth q.depth<=30/\Q (.bl (!PyData.eqv p q)) H
theorem yR (hu:X.A.units+64 < cLine):OpR X (compareOp .Eq) (λx y H Q=>rEq x y H Q\/rEqP (X:=X) x y H Q):=by
 intro pins s O H x y v u Q I a b h
 rcases h with h | ⟨p,q,h1,h2,h3,c,e,d⟩
 .exact op_eq pins s O H x y v u Q I a b h
 .obtain ⟨as,ra⟩:=DV.reads I h1 a
  obtain ⟨bs,rb⟩:=DV.reads I h2 b
  exact PySem.SeqAt.compareEq_reads ra rb h3 c (by lia) #[.bl _,H,I,rfl,d]
theorem yP (hu:X.A.units+64 < cLine):OpR X (compareOp .NotEq) (λx y H Q=>rNe x y H Q\/rNeP (X:=X) x y H Q):=by
 intro pins s O H x y v u Q I a b h
 rcases h with h | ⟨p,q,h1,h2,h3,c,e,d⟩
 .exact op_ne pins s O H x y v u Q I a b h
 .obtain ⟨as,ra⟩:=DV.reads I h1 a
  obtain ⟨bs,rb⟩:=DV.reads I h2 b
  exact PySem.SeqAt.compareNe_reads ra rb h3 c (by lia) #[.bl _,H,I,rfl,d]
theorem uZ (e:eqP a b=some k):∃ p q,pyD a=some p/\pyD b=some q/\p.canLay0=true/\q.canLay0=true/\min p.depth q.depth<=30/\k=PyData.eqv p q:=by
 unfold eqP at e
 cases h1:pyD a with
 | none=>rw[h1] at e;exact nsE e
 | some p =>
  cases h2:pyD b with
  | none=>rw[h1,h2] at e;exact nsE e
  | some q =>
   rw[h1,h2] at e
   dsimp only at e
   split at e
   .rename_i h
    cases e
    simp only[Bool.and_eq_true,decide_eq_true_eq] at h
    exact #[p,q,rfl,rfl,h.1.1,h.1.2,h.2,rfl]
   .exact nsE e
theorem yW:OpD X.K (λx y H Q=>rEq x y H Q\/rEqP (X:=X) x y H Q) eqX:=λa b H Q p ra rb e q=>by
 obtain ⟨k,h1,h2⟩:=Fz.mp e
 subst h2
 unfold eqA at h1
 cases c:eqS a.d b.d with
 | some k' =>
  rw[c] at h1
  cases h1
  obtain ⟨s,i⟩:=zM ra.rep rb.rep c
  exact .inl #[s,by rw[<- i];exact q #[.bl k,.bl k,[],.z] H (dn (.bl k)) rfl rfl]
 | none =>
  rw[c] at h1
  obtain ⟨p,f,e1,g,j,l,h,rfl⟩:=uZ h1
  exact .inr #[p,f,ra.rep.dv p e1,rb.rep.dv f g,j,l,h,q #[.bl _,.bl _,[],.z] H (dn (.bl _)) rfl rfl]
theorem yT:OpD X.K (λx y H Q=>rNe x y H Q\/rNeP (X:=X) x y H Q) neX:=λa b H Q p ra rb e q=>by
 obtain ⟨k,h1,h2⟩:=Fz.mp e
 subst h2
 unfold eqA at h1
 cases c:eqS a.d b.d with
 | some k' =>
  rw[c] at h1
  cases h1
  obtain ⟨s,i⟩:=zM ra.rep rb.rep c
  exact .inl #[s,by rw[<- i];exact q #[.bl (!k),.bl (!k),[],.z] H (dn (.bl _)) rfl rfl]
 | none =>
  rw[c] at h1
  obtain ⟨p,f,e1,g,j,l,h,rfl⟩:=uZ h1
  exact .inr #[p,f,ra.rep.dv p e1,rb.rep.dv f g,j,l,h,q #[.bl _,.bl _,[],.z] H (dn (.bl _)) rfl rfl]
theorem zN (h:pyD a=some p) (b:p.canLay0=true) (hd:p.depth<=30):eqP a a=some true:=by
 unfold eqP
 rw[h]
 simp[b,hd,PySem.SeqAt.eqv_refl p b]
def intQ1:D->Option (D×Fl)
 | .int i=>#v[.int i]
 | .bl k=>#v[.int (if k then 1 else 0)]
 | _=>none
abbrev zx:=c1 intQ1
theorem B7:cS K (λxs H Q=>(∃ i,xs=[.int i]/\Q (.int i) H)\/∃ k,xs=[.bl k]/\Q (.int (if k then 1 else 0)) H) zx:=λys H Q p ra e q=>by
 obtain ⟨y,rfl,a⟩:=fQ e
 clear e
 have e:=a
 clear a
 have c:=(ra y Fv).rep
 obtain ⟨da,f,g,d⟩:=y
 dsimp only at c e
 cases c <;> try (exact nsE e)
 .rename_i b
  cases e
  exact .inr #[b,rfl,q #[_,_,[],.z] H (dn (.int _)) rfl rfl]
 .rename_i i
  cases e
  exact .inl #[i,rfl,q #[_,_,[],.z] H (dn (.int _)) rfl rfl]
end
theorem E4 {k:Nat} {nn:Nat} (F:Fun K x x st f fd) (S:FnScope N ps (ag st)) (c:mask.length=ps.length) (b:N.length=nn) (body:∀ (a:Value) (A:Around) (outer:List Env) (s:Shared) (H:Hp) (E:XK) (f:Addr) (G:Gm),Room k (A.deeper (PyProof.Rows.envOfC x (ag st) s.heap.objs.size f a))->G.pr=prM mask->RSs (dD CX0 P w K mg base N x (ag st) f a A outer s H E).nox G noX (aI st) m) :
  FnOk P w K mg base CX0 (k+1) f fd ps (rV K (fnM mask nn m)):=by
 refine F.ok S (λe H Q E h=>?_) λa A outer s H e Q E g h=>?_
 .obtain ⟨j,p,fs,rfl,_,_,l,_⟩:=h
  unfold fnM at l
  grind
 .have hle:mask.length<=nn:=by
   rw[c,<- b]
   have:=congrArg List.length S.pre
   rw[F6] at this
   omega
  obtain ⟨G,i,d⟩:=pq hle h
  subst b
  exact #[_,(body a A outer s H E f G g i).h,d]
def xx (K:FG):Sp:=λb H Q _=>∃ (a:Addr) (ns:List Int),b=[.ref a]/\SqL K H a (ns.map V.int)/\Cd H/\ns.length<=63/\∀ H',Q (.bl true) H'
theorem nD:∀ ns:List Int,Reps (Rep K H) (ns.map D.int) (ns.map V.int) []
 | []=>.nil
 | n::ns=>.cons (L:=[]) (.int n) (nD ns)
theorem BN (i:∀ ns:List Int,ns.length<=63->∃ fs,F [(.fls (ns.map .int),.z)]=some (.ok (.bl true,.z),fs)) (h:xx K vs H Q E):rV K F vs H Q E:=by
 obtain ⟨a,ns,rfl,g,c,f,q⟩:=h
 obtain ⟨fs,e⟩:=i ns f
 have d:FzL K H a (ns.map V.int):=by
  rcases g with (h | h) | h
  .rcases c a with z | ⟨o,xs,z⟩
   .rw[h] at z;cases z
   .rw[h] at z;cases z
  .exact .inl h
  .exact .inr h
 refine #[[#[.fls (ns.map .int),.ref a,[],.z]],(.bl true,.z),fs,rfl,λp b=>?_,.cons (λ_ h=>by cases h) .nil,e,λx qs H' B x1 j _=>?_]
 .rw[F9.mp b]
  exact #[.lstF d (nD ns),λh=>absurd rfl h]
 .have r:=B.rep
  rw[x1] at r
  have inv:∀ {v:V} {L:List Addr},Rep K H' (.bl true) v L->v=.bl true:=λr=>by cases r;rfl
  rw[inv r]
  exact q H'
def uM (ok:D->Bool) (f:List D->Option (D×Fl)) (b:EM) (ms:M3 (List R3)):EM:=ai b λa=>ai (der a) λc=>if ok c then ai ms λrs=>ai (cW (a::rs)) λds=>bh ((f ds).map λp=>R3.val p.1 p.2) else λ_=>none
section
variable {K:FG} {G G0:Gm} {W W0:D->Sto->Prop} {H H':Hp} {O:St} {Z Z':Sto} {T T':List It3} {g:Nat->Option It3} {x y z:It3} {α β:Type} {X:Cx} {v:V} {d:D} {L:List Addr}
theorem AB (B:cS K (λxs H Q=>∃ x k,xs=x::k/\r x k H Q) f) (hok:∀ d v L H,ok d=true->Rep K H d v L->tyV K Ty v H) (h:tE K G0 W0 (uM ok f mo ms) O H Q) :
  tBM K Ty r (tE K G0 W0 mo) (tA K G0 W0 ms) O H Q:=by
 refine h.use λG W le Z T g o Z' w e q=>?_
 refine tE.seq le w e q.err λM Z1 e1 z H1 #[Ts,g1,l,a1]=>?_
 obtain ⟨n,u,b⟩:=aY e1
 cases j:ok n with
 | false=>rw[j] at b;exact nsE b
 | true =>
  rw[j] at b
  obtain ⟨y0,D,f0,f1⟩:=a1.item l (λx i=>FA _ i) u
  refine #[hok n z _ H1 j (by rw[<- f0,<- f1];exact (l.itm D).rep),?_]
  refine tA.seq le l b q.err λrs Z2 E k H2 Us g2 c a2=>?_
  obtain ⟨ds,A,J⟩:=bR E
  obtain ⟨p,a,rfl,rfl⟩:=bV J
  rw[<- List.append_assoc] at c
  obtain ⟨ys,t,f2,F⟩:=(Ars.cons a1 a2).items c (λx i=>FA _ i) A
  subst f2
  cases m:f (ys.map (·.d)) with
  | none=>rw[m] at a;exact nsE a
  | some s =>
   rw[m] at a
   cases a
   obtain ⟨N,I,h1,h2⟩:=B ys H2 Q s (λy C=>(c.itm (t y C)).arg) m (og c t q)
   rw[F] at h1
   cases h1
   exact h2
theorem uo {id:String} (m:PlainAttrs Ty) (slot:Slot Ty nm id) (i:typeOf (.builtin id)=pure (.type "method_descriptor")) (hm:MtR X id r) (k:cS X.K (λxs H Q=>∃ x j,xs=x::j/\r x j H Q) f) (hok:∀ d v L H,ok d=true->Rep X.K H d v L->tyV X.K Ty v H) (n:RE X G0 W0 o mo) (p:RA X G0 W0 (e::es) ms) (b:attributeBase o nm X.env (eval o X.env)=eval o X.env) (g:((backTo cpos (starEach (e::es) X.env)).all (λx=>!x.1) && (backToKw cpos (keywordEach [] X.env)).all (λx=>x.1.isSome) && decide ((e::es).length+([]:List Keyword).length+(if ([]:List Keyword).isEmpty then 0 else 1) < 30))=true) (c:(apos.endLine == cpos.line)=true) (l:starEach (e::es) X.env=(false,eval e X.env)::starEach es X.env) (a:(backTo cpos (starEach es X.env)).any (·.1)=false):RE X G0 W0 (.Call (.Attribute o nm apos) (e::es) [] cpos) (uM ok f mo ms) :=
 #[PE.imp (Cs m slot i hm n.h p.h b g c l a) λ_ _ _ h=>AB k hok h]
def cN:List D->Option (List Int)
 | []=>some []
 | .int i::ds=>(cN ds).map (i::·)
 | _=>none
theorem j9:∀ {ds:List D} {ns:List Int},cN ds=some ns->ds=ns.map D.int
 | [],ns,e=>by cases e;rfl
 | d::ds,ns,e=>by
  cases d <;> try (exact nsE e)
  rename_i b
  obtain ⟨r,h1,h2⟩:=Fz.mp (show (cN ds).map (b::·)=some ns from e)
  subst h2
  rw[j9 h1];rfl
theorem Reps.ints:∀ {ns:List Int} {a:List V} {L:List Addr},Reps (Rep K H) (ns.map D.int) a L->a=ns.map V.int
 | [],_,_,.nil=>rfl
 | b::bs,_,_,.cons r rs=>by
  rw[Reps.ints rs]
  cases r;rfl
end
section
variable {K:FG} {G G0:Gm} {W W0:D->Sto->Prop} {H H':Hp} {O:St} {Z Z':Sto} {T T':List It3} {g:Nat->Option It3} {x y z:It3} {α β:Type} {X:Cx} {v:V} {d:D} {L:List Addr}
theorem Reps.rep (r:Reps (Rep K H) ds vs L):∀ n:Nat,∃ L',Reps (Rep K H) (List.replicate n ds).flatten (List.replicate n vs).flatten L'/\∀ c∈L',c∈L
 | 0=>#[[],.nil,λ_ h=>by cases h]
 | n+1=>by
  obtain ⟨L',h1,h2⟩:=Reps.rep r n
  refine #[L++L',?_,λc a=>?_]
  .rw[List.replicate_succ,List.replicate_succ,List.flatten_cons,List.flatten_cons];exact r.append h1
  .rcases FH.mp a with h | h
   .exact h
   .exact h2 c h
def Al (i j:Int):Prop:=0 < j/\j < 1267650600228229401496703205376
theorem yQ:OpR X (binaryOp .FloorDiv) (rI Al λi j=>.int (i / j)):=opI λi j _ _ _ _ _ a q=>by
 have h1:(0:Int) < j:=a.1
 have h2:j < 1267650600228229401496703205376:=a.2
 refine PyProof.Rows.floordiv_int (by lia) (by rw[Int.fdiv_eq_ediv_of_nonneg i (by lia)];exact q) (.inl (PyProof.noPylong_of_log2 ?_))
 have h3:j.natAbs < 2 ^ 100:=by lia
 exact Nat.lt_trans ((Nat.log2_lt (by lia)).mpr h3) (by decide)
abbrev wE:=cO (λ_ j=>decide (0 < j/\j < 1267650600228229401496703205376)) λi j=>.int (i / j)
theorem BD:OpD K (rI Al λi j=>.int (i / j)) wE:=jK (λi j h=>by simpa[Al] using h) λi j _=>.int _
end
section
variable {K:FG} {G G0:Gm} {W W0:D->Sto->Prop} {H H':Hp} {O:St} {Z Z':Sto} {T T':List It3} {g:Nat->Option It3} {x y z:It3} {α β:Type} {X:Cx} {v:V} {d:D} {L:List Addr}
def xN (i j:Nat) (ms:M3 (List R3)):SM:=ai ms λrs=>ai (gives rs) λds=>λZ=>match ds with
 | [a,b]=>if i < Z.length/\j < Z.length then some (.ok .nx,(Z.set i #v[a]).set j #v[b]) else none
 | _=>none
theorem Wf.again (w:Wf K G H O Z T g) (a:Itm T g y) (hz:y.f=.z):Wf K G H O Z (y::T) g :=
 w.push (Ks:=dg [y]) #[Same.refl _,(w.itm a).rep,λc b=>.inr #[y,Fv,b,λh=>absurd hz h],λh=>absurd hz h] λc h=>w.kids (λu hu=>by rw[F9.mp hu];exact a) h
theorem C4 {i j:Nat} (hi:G0.pr i=false) (A:G0.pr j=false) (h:tS K G0 W0 (xN i j ms) E O H):tPar i j (tA K G0 W0 ms) E O H:=by
 refine h.use λG W le Z T g r Z' w e q=>?_
 refine tA.seq le w e q.err λrs Z1 e1 L H1 Ts g1 C a1=>?_
 obtain ⟨ds,Z2,g2,c,_,F,_,ys,l,f1,f2⟩:=a1.gives C e1
 match ds,c,ys,f1,l,f2 with
 | [],c,_,_,_,_=>exact nsE c
 | [_],c,_,_,_,_=>exact nsE c
 | _::_::_::_,c,_,_,_,_=>exact nsE c
 | [a,b],c,[],f1,_,_=>cases f1
 | [a,b],c,[_],f1,_,_=>cases f1
 | [a,b],c,_::_::_::_,f1,_,_=>cases f1
 | [a,b],c,[y1,m],f1,l,f2 =>
  have c:(if i < Z2.length/\j < Z2.length then some (Except.ok Flw.nx,(Z2.set i (some (a,Fl.z))).set j (some (b,Fl.z))) else none)=some (r,Z'):=c
  split at c
  .rename_i s
   cases c
   obtain ⟨B,t⟩:=l y1 Fv
   obtain ⟨I,y⟩:=l m (Fw _ Fv)
   have x:=F.again I y
   have n:Itm (m::(Ts.map df++T)) g2 y1:=B.imp id λh=>Fw _ h
   have D:=x.again n t
   have J:=D.store (f:=.z) s.1 (by rw[le.pr];exact hi) (.inr rfl) (by intro h;cases h)
   have u:=J.store (f:=.z) (i:=j) (by rw[List.length_set];exact s.2) (by rw[le.pr];exact A) (.inr rfl) (by intro h;cases h)
   have o:=u.sub (FN (Ts.map df) T)
   have k:y1.d=a/\m.d=b:=by injection f1 with p q;injection q with q _;exact #[p,q]
   rw[k.1,k.2] at o
   exact #[y1.v,m.v,f2.symm,q _ _ _ o]
  .exact nsE c
theorem Dy (i j:Nat) {x y:Str} (n:X.calm=true) (e:X.N.Nodup) (hi:X.N[i]?=some x) (d:X.N[j]?=some y) (c:i≠j) (g:X.env.scope.names.lookup x=some .local) (m:X.env.scope.names.lookup y=some .local) (k:RA X G0 W0 [a,b] ms) (hw:swappedStores [.Tuple [.Name x px,.Name y py] kt pt] (.Tuple [a,b] k2 pt2) X.env=pure (some [x,y])) (l:swapsWithSole [.Tuple [.Name x px,.Name y py] kt pt] (.Tuple [a,b] k2 pt2) pos.line X.env=pure false) (pi:G0.pr i=false) (f:G0.pr j=false) :
  RS X G0 W0 (.Assign [.Tuple [.Name x px,.Name y py] kt pt] (.Tuple [a,b] k2 pt2) pos) (xN i j ms):=#[PS.imp (DX n e hi d c g m k.h hw l) λ_ _ _ h=>C4 pi f h]
end
end L3
theorem L2.Room.hu {k:Nat} (a:L2.Room k A):A.units+1 < PySem.cLine:=L2.hu_of a
end
section
namespace L3
open PySem L2
section
variable {K:FG} {G G0:Gm} {W W0:D->Sto->Prop} {H H':Hp} {O:St} {Z Z':Sto} {T T':List It3} {g:Nat->Option It3} {x y z:It3} {α β:Type} {X:Cx} {v:V} {d:D} {L:List Addr}
def popF:D->List D->Option (D×D)
 | .lst xs,[]=>match xs.getLast? with
  | some (.int i)=>some (.lst xs.dropLast,.int i)
  | _=>none
 | _,_=>none
def idxQ:D->D->Option (D×Fl)
 | .lst xs,.bl true=>(eM xs).bind λbs=>if bs.findIdx id < bs.length then #v[.int (bs.findIdx id:Nat)] else none
 | _,_=>none
abbrev idxD:=c2 idxQ
theorem zX:cS K (λxs H Q=>∃ x d,xs=x::d/\∃ (a:Addr) (xs:List V) (k:V) (j:Nat),x=.ref a/\d=[k]/\SqL K H a xs/\gi k=true/\xs.all gi=true/\(∃ y,xs[j]?=some y/\eqV y k=true)/\(∀ (i:Nat) (y:V),i < j->xs[i]?=some y->eqV y k=false)/\Q (.int j) H) idxD:=λys H Q p ra e q=>by
 obtain ⟨y,z,rfl,c⟩:=mI e
 clear e
 have g:=(ra y Fv).rep
 have h:=(ra z (Fw _ Fv)).rep
 obtain ⟨da,C,B,A⟩:=y
 obtain ⟨db,t,u,E⟩:=z
 dsimp only at g h c
 cases da with
 | lst xs =>
  obtain ⟨l,d,v,rfl,rfl,o,rs⟩:=g.view
  cases h with
  | bl b =>
   cases b with
   | false=>exact nsE c
   | true =>
    obtain ⟨bs,h1,h2⟩:=F8.mp (show ((eM xs).bind λbs=>if bs.findIdx id < bs.length then some ((.int (bs.findIdx id:Nat),.z):D×Fl) else none)=some p from c)
    split at h2
    .rename_i n
     cases h2
     have r:=jN h1
     subst r
     have s:=rs.bls
     subst s
     refine #[.ref l,[.bl true],rfl,l,bs.map V.bl,.bl true,bs.findIdx id,rfl,rfl,SqL.of o,rfl,by simp[gi],#[.bl (bs[bs.findIdx id]),by rw[FP,FE n];rfl,?_],λi w hi hw=>?_,q #[.int _,.int _,[],.z] H (dn (.int _)) rfl rfl]
     .have:=List.findIdx_getElem (p:=id) (w:=n)
      show (bs[bs.findIdx id] == true)=true
      simpa using this
     .rw[FP] at hw
      obtain ⟨b,m,rfl⟩:=Fz.mp hw
      have f:i < bs.length:=by lia
      have:=List.not_of_lt_findIdx (p:=id) hi
      rw[FE f] at m
      cases m
      show (bs[i] == true)=false
      simpa using this
    .exact nsE h2
  | _=>exact nsE c
 | _=>exact nsE c
def sW (x:Int):List Int->List Int
 | []=>[x]
 | y::ys=>if x<=y then x::y::ys else y::sW x ys
def srt:List Int->List Int
 | []=>[]
 | x::xs=>sW x (srt xs)
theorem kc (x:Int):∀ l:List Int,(sW x l).Perm (x::l)
 | []=>.refl _
 | y::ys=>by
  unfold sW
  split
  .exact .refl _
  .exact ((kc x ys).cons y).trans (.swap x y ys)
theorem lE:∀ l:List Int,(srt l).Perm l
 | []=>.refl _
 | x::xs=>(kc x (srt xs)).trans ((lE xs).cons x)
theorem kN (x:Int):∀ {l:List Int},l.Pairwise (·<=·)->(sW x l).Pairwise (·<=·)
 | [],_=>by simp[sW]
 | y::ys,h=>by
  unfold sW
  have h1:=List.pairwise_cons.mp h
  split
  .rename_i a
   refine List.pairwise_cons.mpr #[λz hz=>?_,h]
   rcases FD.mp hz with rfl | hz
   .exact a
   .have:=h1.1 z hz
    lia
  .rename_i a
   refine List.pairwise_cons.mpr #[λz hz=>?_,kN x h1.2]
   rcases FD.mp ((kc x ys).subset hz) with rfl | hz
   .lia
   .exact h1.1 z hz
theorem i7:∀ l:List Int,(srt l).Pairwise (·<=·)
 | []=>.nil
 | x::xs=>kN x (i7 xs)
theorem gr:∀ {l c:List Int},l.Perm c->l.Pairwise (·<=·)->c.Pairwise (·<=·)->l=c
 | [],c,p,_,_=>by rw[List.nil_perm.mp p]
 | a::l,[],p,_,_=>by cases p.length_eq
 | a::l,b::c,p,h,h'=>by
  have h1:=List.pairwise_cons.mp h
  have h2:=List.pairwise_cons.mp h'
  have e:a=b:=by
   have f:=p.subset (Fv (a:=a) (l:=l))
   have d:=p.symm.subset (Fv (a:=b) (l:=c))
   rcases FD.mp f with e | f
   .exact e
   .rcases FD.mp d with e | d
    .exact e.symm
    .have:=h2.1 a f
     have:=h1.1 b d
     lia
  subst e
  rw[gr (List.Perm.cons_inv p) h1.2 h2.2]
theorem kC:∀ ns:List Int,Reps (Rep K H) (ns.map D.int) (ns.map V.int) []
 | []=>.nil
 | n::ns=>.cons (L:=[]) (.int n) (kC ns)
end
def XA (K:FG):D->Value->Option Addr->Hp->Prop:=λe cls da H=>∃ c C fs,e=.exc c fs/\cls=.ref C/\XName K c C/\PayX K H da fs
abbrev iU (P:Program) (w:World) (K:FG) (mg:Str->Option Value) (base:Heap) (x:Str) (k:Nat) (ps:List Str) (F:Fn):Prop:=CalleeX P w K mg base x k ps (spF (XA K) K F)
abbrev Ce (P:Program) (w:World) (K:FG) (mg:Str->Option Value) (base:Heap) (x:Str) (k:Nat) (ps:List Str) (F:Fn):Prop:=CalleeN P w K mg base x k ps (rV K F)
structure Pas (X:Cx) (G0:Gm) (W0:D->Sto->Prop):Prop where
 fly:∀ (pins:List (Addr×Obj)) (O:St) (H:Hp) (s:Shared) (e:Value) (s':Shared),Inv X pins O H s->CXe X.prog X.w X.stack H s (EX (XA X.K) X.K G0 W0 O) e s'->X.xe e s'
structure Mak (X:Cx) (G0:Gm) (W0:D->Sto->Prop):Prop where
 made:∀ (pins:List (Addr×Obj)) (O:St) (H:Hp) (s s':Shared) (a C:Addr) (vs:List Value),Inv X pins O H s->EX (XA X.K) X.K G0 W0 O (.ref C) none H->Heap.MadeExcOf s.heap s'.heap a (.ref C) vs->s'.os=s.os->s'.gens=s.gens->X.xe (.ref a) s'
 madeV:∀ (pins:List (Addr×Obj)) (O:St) (H:Hp) (s:Shared) (a t d C:Addr),Inv X pins O H s->EX (XA X.K) X.K G0 W0 O (.ref C) (some d) H->s.heap.get? a=some (excA C t (some d))->X.s₀.heap.get? a=none->H a=none->X.xe (.ref a) s
section
variable {X:Cx} {G G0:Gm} {W W0:D->Sto->Prop} {K:FG} {H H':Hp} {O:St} {Z Z':Sto} {T T':List It3} {g:Nat->Option It3} {m:SM} {ms:M3 (List R3)} {st:Stmt} {sts:List Stmt} {x:Str} {p pos:Pos} {e:Expr} {es:List Expr} {k:Nat} {ps:List Str} {F:Fn}
theorem yo (c:iU X.prog X.w X.K X.mg X.base x k ps F) (f:Room k X.A) (g:Pas X G0 W0) (d:RA X G0 W0 (e::es) ms) (i:Gl X x) (a:(x == ("__debug__":Str))=false)
  (he:starEach (e::es) X.env=(false,eval e X.env)::starEach es X.env) (b:(backTo pos (starEach es X.env)).any (·.1)=false):RE X G0 W0 (.Call (.Name x p) (e::es) [] pos) (dG F ms) :=
 #[PE.imp (Ef c f g.fly d.h i a he b) λ_ _ _ h=>AD h]
theorem yp (c:Ce X.prog X.w X.K X.mg X.base x k ps F) (g:RoomN k X.A) (d:Hd X) (f:RA X G0 W0 (e::es) ms) (i:Gl X x) (a:(x == ("__debug__":Str))=false)
  (he:starEach (e::es) X.env=(false,eval e X.env)::starEach es X.env) (b:(backTo pos (starEach es X.env)).any (·.1)=false):RE X G0 W0 (.Call (.Name x p) (e::es) [] pos) (au F ms) :=
 #[PE.imp (Eg c g d f.h i a he b) λ_ _ _ h=>p7 h]
def quiet (m:SM):SM:=λZ=>match m Z with
 | some (.ok f,Z')=>some (.ok f,Z')
 | _=>none
theorem Le.no (le:Le K G W G0 W0):Le K G noX G0 noX:=#[le.pr,λ_ _ _ _ _ _ _ h=>h.elim]
theorem xq (h:tS K G0 W0 (quiet m) E O H):tS K G0 noX m E O H:=by
 refine h.use λG W le Z T g r Z' w e q=>?_
 unfold quiet at e
 cases a:m Z with
 | none=>rw[a] at e;exact nsE e
 | some z =>
  obtain ⟨o,Z1⟩:=z
  rw[a] at e
  cases o with
  | error y=>exact nsE e
  | ok f=>cases e;exact tS.mk le.no w a (by cases f <;> exact q)
theorem x4 (h:RS X.nox G0 noX st m):RS X G0 W0 st (quiet m):=#[λpins s O H D I q=>wpAny_mono (h.h pins s O H D (I.wish _) (xq q)) (λ_ _ z=>z.unwish) λ_ _ z=>z.elim]
def ja (c:String) (ms:M3 (List R3)):SM:=ai ms λrs=>λZ=>if rs.length<=1000 then some (.error (.exc c []),Z) else none
theorem Ars.lenV (a:Ars O rs vs Ts):rs.length=vs.length:=by
 induction a with
 | nil=>rfl
 | cons _ _ ih=>rw[F5,F5,ih]
theorem xp (n:XName K c C) (h:tS K G0 W0 (ja c ms) E O H):xr (λO H1=>EX (XA K) K G0 W0 O (.ref C) none H1) (tA K G0 W0 ms) E O H:=by
 refine h.use λG W le Z T g r Z' w e q=>?_
 refine tA.seq le w e q.err λrs Z1 e1 k H1 Ts g1 f a1=>?_
 rcases Decidable.em (rs.length<=1000) with a | a
 .rw[if_pos a] at e1
  cases e1
  obtain ⟨Z5,i,j,d,b⟩:=le.ex H1 O _ _ g1 _ f q
  exact #[by rw[<- a1.lenV];exact a,_,Z5,i,j,d,#[c,C,[],rfl,rfl,n,trivial],b]
 .rw[if_neg a] at e1;exact nsE e1
theorem xZ (n:XName X.K c C) (cl:ECls X.K X.mg x C) (mk:Mak X G0 W0) (g:X.calm=true) (d:Gl X x) (hd:(x == ("__debug__":Str))=false) (f:RA X G0 W0 [e] ms) (he:starEach [e] X.env=[(false,eval e X.env)]) :
  RS X G0 W0 (.Raise (some (.Call (.Name x np) [e] [] cpos)) none pos) (ja c ms) :=
 #[PS.imp (yC cl g d hd f.h _ (λpins O H s s' a b I q hm h1 h2=>mk.made pins O H s s' a C b I q hm h1 h2) he) λ_ _ _ h=>xp n h]
def tS1 (K:FG) (G:Gm) (W:D->Sto->Prop) (m:SM):TS:=λE O H=>∃ Z g r Z',Wf K G H O Z [] g/\m Z=some (r,Z')/\EndS K G W [] Z' E r
theorem tS1.all (h:tS1 K G W m E O H):tS K G W m E O H:=by
 obtain ⟨Z,g,r,Z',w,e,q⟩:=h
 exact tS.mk (Le.refl K _ _) w e q
structure RS1 (X:Cx) (G0:Gm) (W0:D->Sto->Prop) (s:Stmt) (m:SM):Prop where
 h:PS X s (tS1 X.K G0 W0 m)
structure RSs1 (X:Cx) (G0:Gm) (W0:D->Sto->Prop) (s:List Stmt) (m:SM):Prop where
 h:PSs X s (tS1 X.K G0 W0 m)
theorem xW (h:RS1 X G0 W0 st m):RSs1 X G0 W0 [st] m:=#[uB h.h]
end
theorem qZ {n:Nat} {E:XK} {ps:List It3} (hn:mask.length<=n) (X:∀ p∈ps,Arg K H p) (hp:ps.Pairwise Apart3) (q:match o with
   | .ok p=>∀ x qs H',Behind K H H' ps qs x->x.d=p.1->x.f=p.2->qs.map (λq=>(q.d,q.f))=fs->Q x.v H'
   | .error e=>∀ qs H' cls da,BehindX K H H' ps qs->qs.map (λq=>(q.d,q.f))=fs->XA K e cls da H'->E cls da H') (l:fnM mask n m (ps.map λp=>(p.d,p.f))=some (o,fs)) :
  ∃ (G:Gm) (W:D->Sto->Prop),G.pr=prM mask/\(∀ e Z,W e Z->∃ e',o=.error e')/\(∀ O cls da H',EX (XA K) K G W O cls da H'->E cls da H')/\tS1 K G W m { nx:=λ_ H'=>Q .non H',rt:=Q } ((ps.map (·.v)).map some++List.replicate (n - (ps.map (·.v)).length) none) H:=by
 unfold fnM at l
 rw[FJ] at l
 split at l
 .rename_i hl
  rw[<- j3] at l
  generalize y:List.zipWith cn mask ps=g at l
  have av:g.length=ps.length:=by rw[<- y,List.length_zipWith];lia
  have T:g.map (·.v)=ps.map (·.v):=by
   refine List.ext_getElem? λi=>?_
   rw[FP,FP]
   cases e:ps[i]? with
   | none=>rw[List.getElem?_eq_none (by have:=List.getElem?_eq_none_iff.mp e;lia)]
   | some u =>
    obtain ⟨b,_,t⟩:=jF (mask:=mask) hl e
    rw[y] at t
    rw[t]
    show some (cn b u).v=some u.v
    rw[(bA b u).2.1]
  have up:∀ (i:Nat) (u:It3),g[i]?=some u->∃ b s,mask[i]?=some b/\ps[i]?=some s/\u=cn b s:=λi u e=>by rw[<- y] at e;exact nQ e
  have J:∀ u∈g,∃ b s,s∈ps/\u=cn b s:=λu hu=>by
   obtain ⟨i,hi,e⟩:=List.mem_iff_getElem.mp hu
   obtain ⟨b,s,_,t,A⟩:=up i u (by rw[FE hi,e])
   exact #[b,s,FL t,A]
  have I:∀ u∈g,Arg K H u:=λu hu=>by
   obtain ⟨b,s,h0,rfl⟩:=J u hu
   obtain ⟨e1,t,A,e4⟩:=bA b s
   refine #[by rw[e1,t,A];exact (X s h0).rep,λhf=>?_]
   rw[e1,t,A]
   refine (X s h0).own λz=>hf ?_
   rcases e4 with f | f
   .rw[f];exact z
   .exact f
  have F:g.Pairwise Apart3:=by
   rw[List.pairwise_iff_getElem]
   intro i j hi hj lt
   obtain ⟨b,s,_,t,A⟩:=up i _ (FE hi)
   obtain ⟨M,ρ,_,ae,ar⟩:=up j _ (FE hj)
   have ap:=cj hp (λ_ _=>Apart3.symm) (FT lt) t ae
   rw[A,ar]
   obtain ⟨_,a2,τ,φ⟩:=bA b s
   obtain ⟨_,b2,b3,b4⟩:=bA M ρ
   exact #[ap.1.low a2 φ b3,ap.2.low b2 b4 τ]
  have C:∀ (i:Nat) (u:It3),g[i]?=some u->u.f≠.z->prM mask i=true:=λi u e hf=>by
   obtain ⟨b,s,e1,t,A⟩:=up i u e
   unfold prM
   rw[e1]
   cases b with
   | false=>rfl
   | true=>rw[A] at hf;exact absurd rfl hf
  have alls:∀ c,cX g c->cX ps c:=λc #[u,hu,N]=>by
   obtain ⟨b,s,h0,rfl⟩:=J u hu
   exact #[s,h0,by rw[<- (bA b s).2.2.1];exact N]
  have lift:∀ {H':Hp} {qs:List It3},BehindX K H H' g qs->BehindX K H H' ps qs:=λ{H' qs} B=>by
   refine #[λb o hb hn=>B.frame b o hb λu hu hf T=>?_,Paired.ofGet ?_ λk u v eu ev=>?_,B.apart]
   .obtain ⟨M,s,h0,rfl⟩:=J u hu
    obtain ⟨_,t,_,e4⟩:=bA M s
    rcases e4 with f | f
    .exact hn s h0 (by rw[<- f];exact hf) (by rw[<- t];exact T)
    .rw[f] at hf;cases hf
   .rw[<- av];exact Paired.length B.back
   .obtain ⟨b,_,t⟩:=jF (mask:=mask) hl eu
    rw[y] at t
    have b1:=Paired.at B.back t ev
    obtain ⟨a1,a2,τ,φ⟩:=bA b u
    refine #[λhz=>?_,by rw[b1.v,a2],?_,b1.arg,λc N=>(b1.src c N).imp id (alls c),λhf M σ=>?_]
    .have:cn b u=u:=by
      cases b
      .rfl
      .obtain ⟨d,v,L,f⟩:=u
       have hz:f=.z:=hz
       subst hz;rfl
     rw[<- this]
     exact b1.z (by rw[this];exact hz)
    .rcases b1.f with h | h
     .rcases φ with f | f
      .exact .inl (h.trans f)
      .exact .inr (h.trans f)
     .exact .inr h
    .rcases φ with f | f
     .exact b1.there (by rw[f];exact hf) M (by rw[a2];exact σ)
     .-- lowered: as it was
      obtain ⟨_,a,L',v1,v2,_⟩:=(X u (FL eu)).own (by rw[hf];intro q;cases q)
      rw[σ] at v1;cases v1
      have S:=b1.z f
      have r:=b1.arg.rep
      rw[S,a1,a2,τ] at r
      exact (r.inH M (by rw[v2];exact Fv)).ex
  have ax:g.length<=n:=by lia
  have wf:=pX (K:=K) (H:=H) (n:=n) (pr:=prM mask) ax I F C
  rw[T] at wf
  have h0:∀ (i:Nat) (u:It3),g[i]?=some u->((ps.map (·.v)).map some++List.replicate (n - (ps.map (·.v)).length) none)[i]?=some (some u.v):=λi u e=>jT (by rw[<- T];exact uK e)
  unfold fn0 at l
  cases e:m (d7 n (g.map λp=>(p.d,p.f))) with
  | none=>rw[e] at l;exact nsE l
  | some rr =>
   obtain ⟨r,Z2⟩:=rr
   rw[e] at l
   refine #[gOf H (prM mask) ((ps.map (·.v)).map some++List.replicate (n - (ps.map (·.v)).length) none) g,λR Z=>r=.error R/\Z=Z2,rfl,λR Z hw=>?_,λO' cls da H' hx=>?_,d7 n (g.map λp=>(p.d,p.f)),_,r,Z2,wf,e,?_]
   .obtain ⟨rfl,_⟩:=hw
    dsimp only at l
    cases w:dC Z2 0 (g.map λp=>(p.d,p.f)) with
    | none=>rw[w] at l;exact nsE l
    | some fs'=>rw[w] at l;cases l;exact #[R,rfl]
   .obtain ⟨R,Z',T',g',w',xa,rfl,rfl⟩:=hx
    dsimp only at l
    cases w:dC Z' 0 (g.map λp=>(p.d,p.f)) with
    | none=>rw[w] at l;exact nsE l
    | some fs' =>
     rw[w] at l
     cases l
     obtain ⟨qs,V,S,_⟩:=kQ (n:=n) I F C h0 w' w
     exact q qs H' cls da (lift V) S xa
   have fin:∀ {x:It3} {O':St} {H':Hp} {g':Nat->Option It3} {d:D} {f:Fl},Wf K (gOf H (prM mask) ((ps.map (·.v)).map some++List.replicate (n - (ps.map (·.v)).length) none) g) H' O' Z2 [x] g'->x.d=d->x.f=f ->
     ((dC Z2 0 (g.map λp=>(p.d,p.f))).map λfs=>((.ok (d,f),fs):Except D (D×Fl)×List (D×Fl)))=some (o,fs)->Q x.v H':=λ{x O' H' g' d f} P xd xf l=>by
    cases w:dC Z2 0 (g.map λp=>(p.d,p.f)) with
    | none=>rw[w] at l;exact nsE l
    | some fs' =>
     rw[w] at l
     cases l
     obtain ⟨qs,B,S⟩:=mK (n:=n) I F C h0 P w
     have V:=lift B.toBehindX
     exact q x qs H' #[V,B.rep,B.own,λc N=>(B.src c N).imp id (alls c),B.apx] xd xf S
   cases r with
   | error R=>exact #[rfl,rfl]
   | ok fl =>
    cases fl with
    | nx =>
     intro O' H' g' P
     obtain ⟨Ts,g2,w2,a2⟩:=P.const .non
     obtain ⟨x,rfl,x1,x2,x3⟩:=a2.val_inv
     have:=fin w2 x1 x2 l
     rw[x3] at this
     exact this
    | br=>exact nsE l
    | ct=>exact nsE l
    | rt d f =>
     intro x O' H' g' P x1 x2
     exact fin P x1 x2 l
 .exact nsE l
theorem pv {n:Nat} {ps:List It3} (h:fnM mask n m (ps.map λp=>(p.d,p.f))=some r):ps.length=mask.length:=by
 unfold fnM at h
 rw[FJ] at h
 rcases Decidable.em (ps.length=mask.length) with q | q
 .exact q
 .rw[if_neg q] at h;exact nsE h
section
variable {P:Program} {w:World} {K:FG} {mg:Str->Option Value} {base:Heap} {x:Str} {st:Stmt} {k:Nat} {N ps:List Str} {mask:List Bool} {m:SM} {nn:Nat}
theorem oU (S:FnScope N ps (ag st)) (a:mask.length=ps.length) (b:N.length=nn):mask.length<=nn:=by
 rw[a,<- b]
 have:=congrArg List.length S.pre
 rw[F6] at this
 lia
theorem iP (D:Def K mg x st) (S:FnScope N ps (ag st)) (c:mask.length=ps.length) (g:N.length=nn) (r:∀ (kV doc pm:Value) (an:Option Addr) (b ct:Value) (us:List Value),us.length=ps.length->bindArgs (PySem.W.fnOf x x (aQ st) (aI st) (ag st) .none kV doc pm an b ct) #[us,[]]=pure (ps.zip us))
  (body:∀ (b:Value) (A:Around) (outer:List Env) (s:Shared) (H:Hp) (E:XK) (f:Addr) (G:Gm) (W:L3.D->Sto->Prop),Room k (A.deeper (PyProof.Rows.envOfC x (ag st) s.heap.objs.size f b))->G.pr=prM mask->Pas (dD (CXe P w) P w K mg base N x (ag st) f b A outer s H E) G W->Mak (dD (CXe P w) P w K mg base N x (ag st) f b A outer s H E) G W->RSs (dD (CXe P w) P w K mg base N x (ag st) f b A outer s H E) G W (aI st) m) :
  iU P w K mg base x (k+1) ps (fnM mask nn m):=by
 refine D.calleeX r λf fd F=>F.okX S (λn H Q E h=>?_) λb A outer s H n Q E B h=>?_
 .obtain ⟨j,o,fs,rfl,_,_,l,_⟩:=h
  rw[FJ,pv l,c]
 .obtain ⟨j,o,fs,rfl,y,z,l,q⟩:=h
  obtain ⟨G,W,u,_,i,p⟩:=qZ (E:=E) (oU S c g) y z q l
  subst g
  refine #[_,(body b A outer s H E f G W B u #[λpins O H1 s1 e s' I hf=>CP I hf λcls da H'=>i O cls da H'] #[λpins O H1 s1 s' a C n I he hm h1 h2=>Ap I hm h1 h2 (i O _ none _ he),λpins O H1 s1 a t d C I he L J v=>wY I L rfl rfl rfl rfl J v (i O _ _ _ he)]).h,p.all]
theorem BZ (D:Def K mg x st) (S:FnScope N ps (ag st)) (b:mask.length=ps.length) (c:N.length=nn) (l:∀ (kV doc pm:Value) (an:Option Addr) (a ct:Value) (us:List Value),us.length=ps.length->bindArgs (PySem.W.fnOf x x (aQ st) (aI st) (ag st) .none kV doc pm an a ct) #[us,[]]=pure (ps.zip us))
  (body:∀ (a:Value) (A:Around) (outer:List Env) (s:Shared) (H:Hp) (E:XK) (f:Addr) (G:Gm),Room k (A.deeper (PyProof.Rows.envOfC x (ag st) s.heap.objs.size f a))->G.pr=prM mask->RSs1 (dD CX0 P w K mg base N x (ag st) f a A outer s H E).nox G noX (aI st) m) :
  aT P w K mg base x (k+1) ps (fnM mask nn m):=by
 refine D.callee l λf fd F=>F.ok S (λu H Q E h=>?_) λa A outer s H u Q E v h=>?_
 .obtain ⟨d,p,fs,rfl,_,_,i,_⟩:=h
  rw[FJ,pv i,b]
 .obtain ⟨d,p,fs,rfl,o,t,i,q⟩:=h
  obtain ⟨G,W,n,y,C,Z,g,r,Z',B,e,j⟩:=qZ (E:=E0) (oU S b c) o t q i
  subst c
  refine #[_,(body a A outer s H E f G v n).h,Z,g,r,Z',B,e,?_]
  cases r with
  | error er=>obtain ⟨_,z⟩:=y _ _ j;cases z
  | ok fl=>cases fl <;> exact j
theorem BY (D:Def K mg x st) (S:FnScope N ps (ag st)) (b:mask.length=ps.length) (c:N.length=nn) (e:∀ (kV doc pm:Value) (an:Option Addr) (a ct:Value) (us:List Value),us.length=ps.length->bindArgs (PySem.W.fnOf x x (aQ st) (aI st) (ag st) .none kV doc pm an a ct) #[us,[]]=pure (ps.zip us))
  (body:∀ (a:Value) (A:Around) (outer:List Env) (s:Shared) (H:Hp) (f:Addr) (G:Gm),RoomN k (A.deeper (PyProof.Rows.envOfC x (ag st) s.heap.objs.size f a))->Hd ((dD CX0 P w K mg base N x (ag st) f a A outer s H E0).loud.wish λ_ _=>False)->G.pr=prM mask->RSs ((dD CX0 P w K mg base N x (ag st) f a A outer s H E0).loud.wish λ_ _=>False) G noX (aI st) m) :
  Ce P w K mg base x (k+1) ps (fnM mask nn m):=by
 refine D.calleeN e λf fd F=>F.okN S (λj H Q E h=>?_) λa A outer s H j Q l i h=>?_
 .obtain ⟨n,p,fs,rfl,_,_,o,_⟩:=h
  rw[FJ,pv o,b]
 .obtain ⟨G,g,d⟩:=pq (oU S b c) h
  subst c
  exact #[_,(body a A outer s H f G l i g).h,d]
end
abbrev Cx.tried (X:Cx) (E:Value->Shared->Prop) (pn:List (Addr×Obj)):Cx:={ X with xe:=E,pn:=pn }
section
variable {X:Cx} {pins pins' pn:List (Addr×Obj)} {O:St} {H H':Hp} {s:Shared} {E:Value->Shared->Prop}
theorem wr (I:Inv X pins O H s) (E:Value->Shared->Prop):Inv (Cx.tried X E (X.pn++pins)) [] O H s :=
 #[#[I.ok.mod,I.ok.kind,I.ok.glob,I.ok.blt,I.ok.above,I.ok.inj,I.ok.has,I.ok.cab,I.ok.hd,I.ok.frames,I.ok.stk,I.ok.exf,I.ok.bs,I.ok.bsz,I.ok.noex,I.ok.exfs,I.ok.funs,I.ok.frf],I.os,I.bare,I.base,I.loc,I.cell,I.free,I.freeC,(λp a=>I.pin p (by rw[List.append_nil] at a;exact a)),I.hok,I.len]
theorem io (I:Inv (Cx.tried X E (X.pn++pins)) pins' O H s):Inv X pins O H s :=
 #[#[I.ok.mod,I.ok.kind,I.ok.glob,I.ok.blt,I.ok.above,I.ok.inj,I.ok.has,I.ok.cab,I.ok.hd,I.ok.frames,I.ok.stk,I.ok.exf,I.ok.bs,I.ok.bsz,I.ok.noex,I.ok.exfs,I.ok.funs,I.ok.frf],I.os,I.bare,I.base,I.loc,I.cell,I.free,I.freeC,(λp a=>I.pin p (FA _ a)),I.hok,I.len]
end
theorem E2 {X:Cx} {a:Addr} {ob:Obj} {cls:Value} (h:Hd (X.caught a ob cls)):PySem.W.notCls ob=true:=by
 obtain ⟨c,b,u,h1,h2,d,h3,_⟩:=h
 cases (show some (Value.ref a)=some (Value.ref c) from h1)
 cases (show upd X.H₀ a (iq ob a cls) a=some (.frz b u) from h2).symm.trans aF
 unfold PySem.W.notCls
 rw[h3]
def oJ (cs:List String) (i:Nat) (mb mh:SM):SM:=λZ=>match mb Z with
 | some (.error (.exc c fs),Z1)=>if c∈cs then (match mh (Z1.set i #v[.exc c fs]) with
  | some (.ok (.rt d f),Z2)=>some (.ok (.rt d f),Z2)
  | _=>none) else none
 | some (.ok (.rt d f),Z1)=>some (.ok (.rt d f),Z1)
 | some (.ok .nx,Z1)=>some (.ok .nx,Z1)
 | _=>none
section
variable {X:Cx} {G0:Gm} {W0:D->Sto->Prop} {cs:List String} {i:Nat} {mb mh:SM} {cx n:Str} {CB:Addr} {cp hpos pos:Pos} {b0:Stmt} {body suite:List Stmt}
theorem Dv (Q:X.stack=X.env::X.outer) (G:X.env.frame=some X.env.locals) (hex:X.ex=[]) (hN:X.N.Nodup) (hg:Gl X cx) (hd:(cx == ("__debug__":Str))=false) (hm:X.mg cx=some (.ref CB))
  (T:∀ c∈cs,∀ C,XName X.K c C->PySem.W.exmOne X.K (.ref C) (.ref CB)=some true) (hi:X.N[i]?=some n) (hl:X.env.scope.names.lookup n=some .local\/(X.env.scope.names.lookup n=some .cell/\X.fn n=true)) (hp:G0.pr i=false)
  (hb:∀ (E:Value->Shared->Prop) (pn:List (Addr×Obj)) (W:D->Sto->Prop),Pas (Cx.tried X E pn) G0 W->RSs (Cx.tried X E pn) G0 W body mb) (τ:∀ a ob cls,Hd (X.caught a ob cls)->RSs (X.caught a ob cls) G0 noX (b0::suite) mh) :
  RS1 X G0 W0 (.Try body [.ExceptHandler (some (.Name cx cp)) (some n) (b0::suite) hpos] [] [] pos) (oJ cs i mb mh):=by
 refine #[λpins s O H D I h=>?_]
 obtain ⟨Z,g,r,Z',w,e,q⟩:=h
 refine wpAny_Try_except ?_
 have M:i < X.N.length:=(FK.mp hi).1
 have S:Pas (Cx.tried X (λe s₁=>wpAny (model X.prog X.w) X.A (noteFrame e X.env) (λ_ s₂=>wpAny (model X.prog X.w) X.A (setFlight e none) (λ_ s₃=>wpAny (model X.prog X.w) X.A (handleBy e X.env [.ExceptHandler (some (.Name cx cp)) (some n) (b0::suite) hpos]) (SP X pins D) X.xe s₃) X.xe s₂) X.xe s₁) (X.pn++pins)) G0 (λm Z1=>mb Z=some (.error m,Z1)):=by
  refine #[λpins' O' H1 s1 e' s' φ hf=>?_]
  obtain ⟨a,cls,da,H2,rfl,F,m,Z1,T',g',V,⟨c,C,fs,rfl,rfl,nm,σ⟩,P⟩:=hf
  have J:=io φ
  unfold oJ at e
  rw[P] at e
  dsimp only at e
  rcases Decidable.em (c∈cs) with B | B
  .rw[if_pos B] at e
   cases L:mh (Z1.set i #v[.exc c fs]) with
   | none=>rw[L] at e;exact nsE e
   | some z =>
    obtain ⟨o,Z2⟩:=z
    rw[L] at e
    cases o with
    | error _=>exact nsE e
    | ok fl =>
     cases fl with
     | nx=>exact nsE e
     | br=>exact nsE e
     | ct=>exact nsE e
     | rt d f =>
      cases e
      have hρ:i < Z1.length:=by rw[<- V.len,φ.len];exact M
      have nw:∀ ob,ob.dict=da->Hd (X.caught a ob (.ref C))->New X.K H2 (upd H2 a (iq ob a (.ref C))) (λ_=>False) #[.exc c fs,.ref a,[],.z]:=λob b k=>#[bz F.free,.excP nm aF (b ▸ σ.same (bz F.free)) (E2 k),λ_ h=>(by cases h),λh=>absurd rfl h]
      have w2:=λob (b:ob.dict=da) (k:Hd (X.caught a ob (.ref C)))=>(V.push (nw ob b k) λ_ h=>h.elim).store (f:=.z) hρ hp (.inr rfl) (by intro h;cases h)
      refine sY (X:=X) (I:=J) F Q G hex hN hg hd hm (T c B C nm) hi hl λs5 ob b k J5=>?_
      refine wpAny_mono ((τ a ob _ k).h pins s5 _ _ { nx:=λ_ _=>False,rt:=D.rt } J5 (tS.mk (Le.refl _ _ _) (w2 ob b k) L λx O3 ρ g3 w3 xd xf=>q x O3 ρ g3 (w3.sub (List.Sublist.cons_cons x (List.nil_sublist _))) xd xf)) (λf s6 y=>?_) λ_ _ z=>z.elim
      cases f with
      | ret u=>obtain ⟨v,O6,l,p,R,t⟩:=y;exact #[v,u,O6,l,rfl,p,R,t]
      | next=>obtain ⟨_,_,_,z⟩:=y;exact z.elim
      | brk=>obtain ⟨_,_,_,z⟩:=y;exact z.elim
      | cont=>obtain ⟨_,_,_,z⟩:=y;exact z.elim
  .rw[if_neg B] at e;exact nsE e
 have j:∀ (o:Except L3.D Flw) (Z1:Sto),mb Z=some (o,Z1)->EndS X.K G0 (λm Z1=>mb Z=some (.error m,Z1)) [] Z1 { nx:=D.nx,rt:=D.rt } o:=λo Z1 em=>by
  unfold oJ at e
  rw[em] at e
  cases o with
  | error m=>exact em
  | ok fl =>
   cases fl with
   | nx=>cases e;exact q
   | br=>exact nsE e
   | ct=>exact nsE e
   | rt d f=>cases e;exact q
 cases em:mb Z with
 | none=>unfold oJ at e;rw[em] at e;exact nsE e
 | some z =>
  obtain ⟨o,Z1⟩:=z
  refine wpAny_mono ((hb _ _ _ S).h [] s O H { nx:=D.nx,rt:=D.rt } (wr I _) (tS.mk (Le.refl _ _ _) w em (j o Z1 em))) (λf s1 h1=>?_) λ_ _ z=>z
  cases f with
  | ret u=>obtain ⟨v,O6,l,p,R,t⟩:=h1;exact #[v,O6,l,io p,R,t]
  | next=>obtain ⟨O6,l,p,t⟩:=h1;refine wpAny_of_eq (show execs [] X.env=pure .next from by simp only[execs]) ?_;exact #[O6,l,io p,t]
  | brk=>obtain ⟨_,_,_,z⟩:=h1;exact z.elim
  | cont=>obtain ⟨_,_,_,z⟩:=h1;exact z.elim
end
theorem wO (d:∀ u,RelV t u->u=cv):CallR X (.builtin "isinstance") (λxs H Q=>∃ a c C b ob,xs=[.ref a,t]/\H a=some (iq ob a (.ref C))/\XName X.K c C/\PySem.W.kitOne X.K (.ref C) cv=some b/\Q (.bl b) H):=by
 intro pins s O H xs us Q I r h
 obtain ⟨a,c,C,b,ob,rfl,i,nm,e,q⟩:=h
 obtain ⟨u,v,rfl,f,j⟩:=lB r
 cases (show u=Value.ref a from f)
 cases d v j
 have g:=(I.hok a _ i).2.1
 exact PySem.W.kia_one (zq (x:=a) nm.ex) I.kIn #[g] e (by intro z;cases z) λtk=>#[.bl b,H,I.tok _,rfl,q]
def jH (cs:List (String×Bool)):D->Option (D×Fl)
 | .exc c _=>(cs.lookup c).map λb=>(.bl b,.z)
 | _=>none
section
variable {X:Cx} {G0:Gm} {W0:D->Sto->Prop}
theorem uq (i:∀ u,RelV t u->u=cv) (hf:∀ c b,cs.lookup c=some b->∀ C,XName X.K c C->PySem.W.kitOne X.K (.ref C) cv=some b) (l:Gl X "isinstance") (hm:X.mg "isinstance"=none) (j:PE X (.Name tn pT) (tC t)) (m:RE X G0 W0 a ma) (d:starEach [a,.Name tn pT] X.env=(false,eval a X.env)::starEach [.Name tn pT] X.env) (f:starEach [.Name tn pT] X.env=(false,eval (.Name tn pT) X.env)::starEach [] X.env) (g:(backTo pos (starEach [.Name tn pT] X.env)).any (·.1)=false):RE X G0 W0 (.Call (.Name "isinstance" p) [a,.Name tn pT] [] pos) (mUn (jH cs) ma) :=
 ⟨PE.imp (jB (wO i) l hm jO (fL m.h (fL j lV f) d) (by decide) (by decide) d g) λO H Q h=>by
  have h:=xt (r:=λx H Q=>∃ a c C b ob,x=.ref a/\H a=some (iq ob a (.ref C))/\XName X.K c C/\PySem.W.kitOne X.K (.ref C) cv=some b/\Q (.bl b) H) (λa H Q p ra e q=>by
   obtain ⟨da,w,v,s⟩:=a
   have ra:=ra.rep
   dsimp only at ra
   cases da with
   | exc c fs =>
    obtain ⟨rfl,n,C,ob,rfl,nm,o,_,_⟩:=ra.view
    obtain ⟨b,h1,h2⟩:=Fz.mp (show (cs.lookup c).map (λb=>((.bl b,.z):D×Fl))=some p from e)
    subst h2
    exact #[n,c,C,b,ob,rfl,o,nm,hf c b h1 C nm,q #[.bl b,.bl b,[],.z] H (dn (.bl _)) rfl rfl]
   | _=>exact nsE e) h
  refine t5 h λx H1 #[a,c,C,b,ob,k,h1,h2,h3,q]=>?_
  exact ⟨a,c,C,b,ob,by rw[k],h1,h2,h3,q⟩⟩
end
def cntBQ:D->D->Option (D×Fl)
 | .lst xs,.bl k=>(eM xs).map λbs=>(.int (bs.count k:Nat),.z)
 | _,_=>none
abbrev CK:=c2 cntBQ
theorem wJ:cS K (λxs H Q=>∃ x c,xs=x::c/\∃ (a:Addr) (bs:List Bool) (k:Bool),x=.ref a/\c=[.bl k]/\SqL K H a (bs.map V.bl)/\Q (.int (bs.count k:Nat)) H) CK:=λys H Q p ra e q=>by
 obtain ⟨y,z,rfl,b⟩:=mI e
 clear e
 have d:=(ra y Fv).rep
 have f:=(ra z (Fw _ Fv)).rep
 obtain ⟨da,r,s,o⟩:=y
 obtain ⟨db,l,m,t⟩:=z
 dsimp only at d f b
 cases da with
 | lst xs =>
  cases db with
  | bl k =>
   obtain ⟨g,c,n,rfl,rfl,i,rs⟩:=d.view
   obtain ⟨rfl,rfl⟩:=f.view
   obtain ⟨bs,h1,h2⟩:=Fz.mp (show (eM xs).map (λbs=>((.int (bs.count k:Nat),.z):D×Fl))=some p from b)
   subst h2
   have h:=jN h1
   subst h
   have j:=rs.bls
   subst j
   exact #[_,_,rfl,g,bs,k,rfl,rfl,SqL.of i,q #[_,_,[],.z] H (dn (.int _)) rfl rfl]
  | _=>exact nsE b
 | _=>exact nsE b
def ub (p:PyData):Option (D×Fl):=if p.showable && !p.hasDict && decide (p.depth<=16) && decide (p.shown.length<=16777216) then #v[.str p.shown] else none
def reprQ:D->Option (D×Fl)
 | .str t=>if (reprText t).length<=16777216 then #v[.str (reprText t)] else none
 | .tup xs=>(pyD (.tup xs)).bind ub
 | _=>none
abbrev gb:=c1 reprQ
def Co (K:FG):List V->Hp->VK->Prop:=λxs H Q=>(∃ (a:Addr) (d:PyData),xs=[.ref a]/\DV K H (.ref a) d/\d.showable=true/\d.hasDict=false/\d.depth<=16/\d.shown.length<=sizeLine/\Q (.str d.shown) H)\/∃ t:Str,xs=[.str t]/\(reprText t).length<=sizeLine/\Q (.str (reprText t)) H
theorem tJ (a:X.A.guards=some []) (hu:X.A.units+64 < cLine):CallR X (.builtin "repr") (Co X.K):=(wL a hu).or tH
theorem B4:cS K (Co K) gb:=λys H Q p ra e q=>by
 obtain ⟨y,rfl,b⟩:=fQ e
 have c:=(ra y Fv).rep
 obtain ⟨da,n,o,m⟩:=y
 dsimp only at c b
 cases da with
 | str t =>
  obtain ⟨rfl,rfl⟩:=c.view
  rcases Decidable.em ((reprText t).length<=16777216) with f | f
  .have b:=(if_pos f).symm.trans b
   cases b
   exact .inr #[t,rfl,by rw[sizeLine_eq];exact f,q #[_,_,[],.z] H (dn (.str _)) rfl rfl]
  .exact nsE ((if_neg f).symm.trans b)
 | tup xs =>
  obtain ⟨d,h1,h2⟩:=F8.mp (show (pyD (.tup xs)).bind ub=some p from b)
  have dv:=c.dv d h1
  obtain ⟨a,l,rfl,_⟩:=c.view
  unfold ub at h2
  rcases hb:(d.showable && !d.hasDict && decide (d.depth<=16) && decide (d.shown.length<=16777216)) with _ | _
  .rw[hb] at h2;exact nsE h2
  .rw[hb] at h2
   cases h2
   obtain ⟨h3,g⟩:=Bool.and_eq_true_iff.mp hb
   obtain ⟨h,k⟩:=Bool.and_eq_true_iff.mp h3
   obtain ⟨i,j⟩:=Bool.and_eq_true_iff.mp h
   exact .inl #[a,d,rfl,dv,i,by simpa using j,of_decide_eq_true k,by rw[sizeLine_eq];exact of_decide_eq_true g,q #[_,_,[],.z] H (dn (.str _)) rfl rfl]
 | _=>exact nsE b
theorem pR:bootBuiltins "ValueError"=some (.type "ValueError"):=by decide +kernel
def IsX (K:FG) (a:Value) (cs:List (String×Bool)):Prop:=∀ c b,cs.lookup c=some b->∀ C,XName K c C->PySem.W.kitOne K (.ref C) a=some b
def ExX (K:FG) (CB:Addr) (cs:List String):Prop:=∀ c∈cs,∀ C,XName K c C->PySem.W.exmOne K (.ref C) (.ref CB)=some true
theorem IsX.nil:IsX K cv []:=λ_ _ h=>nomatch h
theorem IsX.cons {K:FG} {a:Value} {r:String} {C:Addr} {b:Bool} {cs:List (String×Bool)} (n:XName K r C) (h:PySem.W.kitOne K (.ref C) a=some b) (t:IsX K a cs):IsX K a ((r,b)::cs):=λc i e g f=>by
 rw[List.lookup_cons] at e
 cases d:c == r with
 | true =>
  rw[d] at e
  cases e
  cases beq_iff_eq.mp d
  rw[f.inj n];exact h
 | false=>rw[d] at e;exact t c i e g f
theorem ExX.nil:ExX K CB []:=λ_ h=>nomatch h
theorem ExX.cons {K:FG} {CB:Addr} {r:String} {C:Addr} {cs:List String} (n:XName K r C) (h:PySem.W.exmOne K (.ref C) (.ref CB)=some true) (t:ExX K CB cs):ExX K CB (r::cs):=λc e b a=>by
 rcases FD.mp e with e | e
 .cases e;rw[a.inj n];exact h
 .exact t c e b a
end L3
namespace L2
theorem RoomN.units {k:Nat} (r:RoomN k A):A.units+64 < PySem.cLine:=by have:=r.un;omega
theorem RoomN.hu {k:Nat} (r:RoomN k A):A.units+1 < PySem.cLine:=by have:=r.un;omega
end L2
end
section
namespace L3
open PySem L2
section
variable {K:FG} {h:Heap} {mg:Str->Option Value}
theorem sk (e:iO K n=true):PySem.W.nsIn K mainGlobals n=some (some (.ref (aj K n))):=by
 unfold iO at e
 split at e
 .rename_i a b;unfold aj;rw[b]
 .cases e
theorem dX {l:List Str} (X:K.In h) (G:h.Ns mainGlobals mg) (e:l.map (iO K)=l.map λ_=>true) (i:Nat) (hi:l[i]?=some n):mg n=some (.ref (aj K n)):=PySem.W.mg_of X G (sk (lZ e i hi))
theorem bL {α:Type} {l r:List α} (e:l=r) (i:Nat) {a b:α} (h:l[i]?=some a) (k:r[i]?=some b):a=b:=by rw[e,k] at h;exact (Gn h).symm
theorem tu {l:List String} (X:K.In h) (G:h.Ns mainGlobals mg) (d:pC K=ll) (e:l.map (λr:String=>vd K r)=l.map λ_:String=>pE) (i:Nat) (hi:l[i]?=some r):XName K r (aj K r)/\ECls K mg r (aj K r):=by
 have e:=lZ e i hi
 unfold vd pE at e
 unfold pC ll at d
 simp only[Prod.mk.injEq] at e d
 obtain ⟨a,e1,c,j,k,f,g,b⟩:=e
 exact #[#[sk a,#[e1,c,j,k,d.1,d.2,f,g]],#[PySem.W.mg_of X G (sk a),b]]
end
section
variable {K:FG} {G G0:Gm} {W W0:D->Sto->Prop} {H H':Hp}
def ntD (n:List Int):D:=.tup (n.map D.int)
theorem sU:∀ n:List Int,cN (n.map D.int)=some n
 | []=>rfl
 | a::n=>by
  show (cN (n.map D.int)).map _=_
  rw[sU n];rfl
theorem jy:∀ n:List Int,Reps (Rep K H) (n.map D.int) (n.map V.int) []
 | []=>.nil
 | a::n=>.cons (L:=[]) (.int a) (jy n)
end
section
variable {K:FG} {H H':Hp}
theorem uk:∀ {ns:List (List Int)} {bs:List Addr},bs.length=ns.length->(∀ (i:Nat) (b:Addr) (n:List Int),bs[i]?=some b->ns[i]?=some n->H b=some (.tup (n.map V.int)))->Reps (Rep K H) (ns.map ntD) (bs.map V.ref) []
 | [],[],_,_=>.nil
 | [],_::_,h,_=>by cases h
 | _::_,[],h,_=>by cases h
 | n::ns,b::bs,h,q=>.cons (L:=[]) (.tup (q 0 b n rfl rfl) (jy n)) (uk (by simpa using h) λi b n e1 a=>q (i+1) b n (by simpa using e1) (by simpa using a))
end
section
variable {K:FG} {H H':Hp}
def ky:List D->Option (List (List Int))
 | []=>some []
 | .tup ys::ds=>(cN ys).bind λn=>(ky ds).map (n::·)
 | _=>none
theorem p5:∀ {ds:List D} {ns:List (List Int)},ky ds=some ns->ds=ns.map ntD
 | [],ns,h=>by cases h;rfl
 | d::ds,ns,h=>by
  cases d with
  | tup ys =>
   obtain ⟨n,h1,h2⟩:=F8.mp (show ((cN ys).bind λn=>(ky ds).map (n::·))=some ns from h)
   obtain ⟨ms,h3,a⟩:=Fz.mp h2
   rw[p5 h3,<- a,j9 h1];rfl
  | _=>exact nsE h
def zv (ns:List (List Int)):Bool:=ns.all (λn=>!n.isEmpty) || (match ns with | []::_=>true | _=>false)
theorem BQ (h:zv ns=true):kOk ns:=by
 rcases Bool.or_eq_true_iff.mp h with h | h
 .refine .inl λn a z=>?_
  have:=List.all_eq_true.mp h n a
  subst z;simp at this
 .refine .inr ?_
  grind
def Dh:D->Option (D×Fl)
 | .lst ds=>(ky ds).bind λns=>if (zv ns && decide (ns.length<=16777216))=true then (bv ns).bind λis=>if (decide (is.length<=16777216) && is.all λi=>decide (i < ns.length))=true then some (.lst (is.map λi=>ntD (ns.getD i [])),.u) else none else none
 | _=>none
abbrev jV:=c1 Dh
theorem nC:∀ {ns:List (List Int)} {c:List V} {L:List Addr},Reps (Rep K H) (ns.map ntD) c L->∃ bs:List Addr,c=bs.map V.ref/\ns.length=bs.length/\∀ (i:Nat) (b:Addr) (n:List Int),bs[i]?=some b->ns[i]?=some n->H b=some (.tup (n.map V.int))
 | [],_,_,.nil=>#[[],rfl,rfl,λi b n e=>by simp at e]
 | n::ns,_,_,.cons r rs=>by
  obtain ⟨bs,e1,g,f⟩:=nC rs
  cases r with
  | @tup _ a c _ ha hr =>
   have d:c=n.map V.int:=Reps.ints hr
   subst d e1
   refine #[a::bs,rfl,by simp[g],λi b m h1 h2=>?_]
   cases i with
   | zero=>cases h1;cases h2;exact ha
   | succ i=>exact f i b m (by simpa using h1) (by simpa using h2)
theorem zW:cS K (yt K) jV:=λys H Q p ra e q=>by
 obtain ⟨y,rfl,d⟩:=fQ e
 clear e
 have e:=d
 clear d
 have k:=(ra y Fv).rep
 obtain ⟨da,E,C,B⟩:=y
 dsimp only at k e
 cases da with
 | lst ds =>
  obtain ⟨ns,h1,h2⟩:=F8.mp (show ((ky ds).bind λns=>_)=some p from e)
  by_cases f:(zv ns && decide (ns.length<=16777216))=true
  .rw[if_pos f] at h2
   obtain ⟨h3,w⟩:=Bool.and_eq_true_iff.mp f
   obtain ⟨is,o,g⟩:=F8.mp h2
   by_cases hd:(decide (is.length<=16777216) && is.all λi=>decide (i < ns.length))=true
   .rw[if_pos hd] at g
    cases g
    obtain ⟨s,z⟩:=Bool.and_eq_true_iff.mp hd
    cases p5 h1
    obtain ⟨a,D,A,rfl,rfl,t,rs⟩:=k.view
    obtain ⟨bs,rfl,x,l⟩:=nC rs
    refine #[a,bs,ns,is,rfl,SqL.of t,x,l,BQ h3,o,by rw[sizeLine_eq];exact of_decide_eq_true w,by rw[sizeLine_eq];exact of_decide_eq_true s,λp v=>?_]
    have m:(is.map λi=>V.ref (bs.getD i 0))=(is.map λi=>bs.getD i 0).map V.ref:=by rw[Gk];rfl
    have h:(is.map λi=>ntD (ns.getD i []))=(is.map λi=>ns.getD i []).map ntD:=by rw[Gk];rfl
    rw[m]
    refine q #[.lst (is.map λi=>ntD (ns.getD i [])),.ref p,[p],.u] _ (sH v ?_ λc f=>by cases f) rfl rfl
    rw[h]
    refine uk (by simp) λi b n e1 d=>?_
    rw[FP] at e1 d
    cases hi:is[i]? with
    | none=>rw[hi] at e1;cases e1
    | some j =>
     rw[hi] at e1 d
     have r:j < ns.length:=of_decide_eq_true (List.all_eq_true.mp z j (FL hi))
     have g1:bs[j]?=some bs[j]:=FE (by lia)
     have g2:ns[j]?=some ns[j]:=FE r
     have e1:bs.getD j 0=b:=Gn e1
     have d:ns.getD j []=n:=Gn d
     rw[List.getD,g1] at e1
     rw[List.getD,g2] at d
     subst e1 d
     exact l j _ _ g1 g2
   .rw[if_neg hd] at g;exact nsE g
  .rw[if_neg f] at h2;exact nsE h2
 | _=>exact nsE e
end
section
variable {K:FG} {G0:Gm} {W0:D->Sto->Prop} {X:Cx}
def ssQ:D->Option (D×Fl)
 | .tup xs=>(cN xs).bind λns=>if ns.length < 64 then some (.lst ((srt (ns.foldl met [])).map .int),.u) else none
 | _=>none
abbrev ssD:=c1 ssQ
def rSS (X:Cx):List V->Hp->VK->Prop:=λxs H Q=>rSet X xs H λv H1=>yr X [v] H1 Q
theorem cd_ss:cS X.K (rSS X) ssD:=λys H Q p ra e q=>by
 obtain ⟨y,rfl,g⟩:=fQ e
 clear e
 have k:=(ra y Fv).rep
 obtain ⟨da,A,n,m⟩:=y
 dsimp only at k g
 cases da <;> try (exact nsE g)
 rename_i xs
 obtain ⟨j,x,rfl,o,rs⟩:=k.view
 obtain ⟨ns,h1,h2⟩:=F8.mp g
 split at h2
 .rename_i h
  cases h2
  have s:=j9 h1
  subst s
  have v:=rs.ints
  subst v
  refine #[j,ns,rfl,SqT.of o,h,λa l=>#[a,ns.foldl met [],rfl,aF,?_,λb i t r p2=>?_]]
  .have:=qI ns []
   simp at this
   lia
  .rw[gr (r.trans (lE _).symm) p2 (i7 _)]
   have d:H b=none:=by
    by_cases z:b=a
    .rw[z];exact l
    .rw[aw z] at i;exact i
   have w:=sH (K:=X.K) (Ks:=dg [#[.tup (ns.map .int),.ref j,n,m]]) i (kC (K:=X.K) (H:=upd H a (AL X a (ns.foldl met []))) (srt (ns.foldl met []))) (λc f=>by cases f)
   refine q #[.lst ((srt (ns.foldl met [])).map .int),.ref b,[b],.u] _ #[(bz l).trans w.same,w.rep,λc f=>?_,λ_=>#[rfl,b,[],rfl,rfl,List.not_mem_nil,d]] rfl rfl
   cases F9.mp f
   exact .inl d
 .exact nsE h2
theorem re_ss (g:X.calm=true) (k:Gl X x) (hm:X.mg x=none) (j:bootBuiltins x=some (.builtin "sorted")) (b:Gl X y) (c:X.mg y=none) (d:bootBuiltins y=some (.type "set")) (l:RE X G0 W0 e m) (i:x≠"__name__") (hd:(x == ("__debug__":Str))=false) (f:y≠"__name__") (a:(y == ("__debug__":Str))=false) (s1:starEach [e] X.env=(false,eval e X.env)::starEach [] X.env) (s2:starEach [.Call (.Name y p') [e] [] pos'] X.env=(false,eval (.Call (.Name y p') [e] [] pos') X.env)::starEach [] X.env) :
  RE X G0 W0 (.Call (.Name x p) [.Call (.Name y p') [e] [] pos'] [] pos) (aC ssD (aa m ak)) :=
 #[PE.imp (jB (tF g) k hm j (fL (nE (wK g) b c d (ut l yq s1).h f a s1 rfl) lV s2) i hd s2 rfl) λO H Q h=>(lD (r:=rSS X) cd_ss h:tCB (rSS X) (tA X.K G0 W0 (aa m ak)) O H Q)]
end
section
variable {K:FG} {G0:Gm} {W0:D->Sto->Prop} {X:Cx}
def EC (k:Key) (i:Int):EM:=bc (.val (.dk [(k,.int i)]) .u)
theorem DL {i:Int} (f:PE X k (tC (kV key))) (j:PE X v (tC (.int i))):RE X G0 W0 (.Dict [some k] [v] pos) (EC key i):=⟨PE.imp (Ei f j) λO H Q h=>by
 refine h.use λG W le Z T g o Z' w e q=>?_
 cases e
 intro p a
 have sm:Same H (upd (upd H p (.dK [])) p (.dK [(key,.int i)])):=λb o d=>by
  have n:b≠p:=λz=>by rw[z,a] at d;cases d
  rw[aw n,aw n];exact d
 refine q _ _ (Wf.done (Us:=[]) (ys:=[]) (x:=#[.dk [(key,.int i)],.ref p,[p],.u]) w (λ_ h=>(by cases h)) #[sm,.dK (L:=[]) aF rfl (.cons (L:=[]) (.int i) .nil),λc l=>?_,λ_=>#[rfl,p,[],rfl,rfl,(by simp),a]])
 rw[F9.mp l];exact .inl a⟩
def EB (ns:List Int) (i:Int):EM:=bc (.val (.dt [(ns.map Sum.inl,.int i)]) .u)
theorem DK {x1:Nat} {i:Int} (hu:X.A.units+1 < cLine) (h0:ns≠[]) (hz:ns.length<=100) (k:es.map wT=ns.map some) (l:PE X v (tC (.int i))):RE X G0 W0 (.Dict [some (.Tuple es x1 pos')] [v] pos) (EB ns i):=⟨PE.imp (Eh hu h0 hz k l) λO H Q h=>by
 refine h.use λG W le Z T g o Z' w e q=>?_
 cases e
 intro p f b d
 have nb:b≠p:=λz=>by rw[z,aF] at d;cases d
 have j:H b=none:=by rw[aw nb] at d;exact d
 have sm:Same H (upd (upd (upd H p (.dT [])) b (.tup (ns.map V.int))) p (.dT [(ns.map Sum.inl,.int i)])):=λc o a=>by
  have n:c≠p:=λz=>by rw[z,f] at a;cases a
  have m:c≠b:=λz=>by rw[z,j] at a;cases a
  rw[aw n,aw m,aw n];exact a
 refine q _ _ (Wf.done (Us:=[]) (ys:=[]) (x:=#[.dt [(ns.map Sum.inl,.int i)],.ref p,[p],.u]) w (λ_ h=>(by cases h)) #[sm,.dT (L:=[]) aF rfl (.cons (L:=[]) (.int i) .nil),λc a=>?_,λ_=>#[rfl,p,[],rfl,rfl,(by simp),f]])
 rw[F9.mp a];exact .inl f⟩
end
section
variable {K:FG} {X:Cx}
theorem qX:∀ {a b:List Int},a.map V.int=b.map V.int->a=b
 | [],[],_=>rfl
 | [],b::bs,e=>by cases e
 | a::as,[],e=>by cases e
 | a::as,b::bs,e=>by
  rw[FV,FV] at e
  injection e with e1 e2
  injection e1 with e1
  rw[e1,qX e2]
abbrev vm (H:Hp) (b:Addr) (ns:List Int):Prop:=H b=some (.tup (ns.map V.int))
def zc (H:Hp) (ks:List Int) (w:Value):Bool:=@decide (∃ b,w=.ref b/\vm H b ks) (Classical.propDecidable _)
theorem zb (h:vm H b ns):zc H ks (.ref b)=decide (ns=ks):=by
 unfold zc
 by_cases e:ns=ks
 .grind
 .rw[FX e]
  refine @FX _ (Classical.propDecidable _) ?_
  rintro ⟨c,e1,h2⟩
  injection e1 with e1
  subst e1
  unfold vm at h h2
  rw[h] at h2
  injection h2 with h2
  injection h2 with h2
  exact e (qX h2)
inductive TupsAt (H:Hp):List V->List (List Int)->Prop
 | nil:TupsAt H [] []
 | cons {b:Addr} {ns:List Int} {vs:List V} {nss:List (List Int)}:vm H b ns->TupsAt H vs nss->TupsAt H (.ref b::vs) (ns::nss)
theorem TupsAt.any:∀ {a:List V} {nss:List (List Int)} {us:List Value},TupsAt H a nss->Vals a us->us.any (zc H ks)=decide (ks∈nss)
 | _,_,_,.nil,.nil=>rfl
 | _,_,_,.cons (b:=b) (ns:=ns) (nss:=nss) h t,.cons r rs=>by
  have c:=TupsAt.any (ks:=ks) t rs
  cases r
  rw[List.any_cons,c,zb h,Bool.eq_iff_iff]
  simp only[Bool.or_eq_true,decide_eq_true_eq,FD]
  constructor
  .rintro (h | h)
   .exact .inl h.symm
   .exact .inr h
  .rintro (h | h)
   .exact .inl h.symm
   .exact .inr h
end
end L3
end
section
namespace L2
open PySem PySem.Spec PyProof.Rows
variable {cmp:Nat->Nat->Option Bool} {α β:Type}
theorem ac {m:StateT SortSt Sem α} {f:α->StateT SortSt Sem β} {st st1:SortSt} {a:α} (h1:ev cmp (m.run st) none=some ((a,st1),none)) (h2:ev cmp ((f a).run st1) none=r):ev cmp ((m >>= f).run st) none=r:=by
 show ev cmp ((m.run st).bind λx=>(f x.1).run x.2) none=r
 rw[uY,h1]
 exact h2
theorem aU {f:Nat->β->StateT SortSt Sem (ForInStep β)} {i:Nat} {st st1:SortSt} (h:ev cmp ((f i b).run st) none=some ((.yield b1,st1),none)) (h2:ev cmp ((forIn l b1 f).run st1) none=r):ev cmp ((forIn (i::l) b f).run st) none=r:=by
 rw[List.forIn_cons]
 exact ac h h2
theorem bD {f:Nat->β->StateT SortSt Sem (ForInStep β)} {i:Nat} {st st1:SortSt} (h:ev cmp ((f i b).run st) none=some ((.done b1,st1),none)):ev cmp ((forIn (i::l) b f).run st) none=some ((b1,st1),none):=by
 rw[List.forIn_cons]
 exact ac h rfl
def af (l:List Nat) (p:List (Nat×Nat×Nat)) (g:Nat):SortSt:=SortSt.mk' (bf true) ((l.map λi=>((Value.ref i,Value.ref i):Keyed)).toArray) p.toArray g none
theorem nK:∀ L:List Nat,(L.map λi=>((Value.ref i,Value.ref i):Keyed)).mapM lW=some L
 | []=>rfl
 | x::L=>by
  have a:=nK L
  rw[FV,List.mapM_cons,a]
  rfl
theorem gu {n:Nat} {g:Nat} (h0:ns.length=n) (h:ev (aK ns) (sortRuns'.run (af (List.range n) [] 7)) none=some (((),af L1 p g),none)):bv ns=some L1:=by
 unfold bv
 subst h0
 have e:SortSt.mk' (bf true) (nM ns.length) (List.toArray []) 7 none=af (List.range ns.length) [] 7:=rfl
 rw[e,h]
 show (arrOf (af L1 p g)).toList.mapM lW=some L1
 show ((L1.map λi=>((Value.ref i,Value.ref i):Keyed)).toArray).toList.mapM lW=some L1
 rw[List.toList_toArray]
 exact nK L1
end L2
end
section
namespace L2
open PySem PySem.Spec PyProof.Rows
def φ6:List (List Int):=[[],[0],[1],[0,1],[2],[0,2],[1,2],[0,1,2],[3],[0,3],[1,3],[0,1,3],[2,3],[0,2,3],[1,2,3],[0,1,2,3],[4],[0,4],[1,4],[0,1,4],[2,4],[0,2,4],[1,2,4],[0,1,2,4],[3,4],[0,3,4],[1,3,4],[0,1,3,4],[2,3,4],[0,2,3,4],[1,2,3,4],[0,1,2,3,4],[5],[0,5],[1,5],[0,1,5],[2,5],[0,2,5],[1,2,5],[0,1,2,5],[3,5],[0,3,5],[1,3,5],[0,1,3,5],[2,3,5],[0,2,3,5],[1,2,3,5],[0,1,2,3,5],[4,5],[0,4,5],[1,4,5],[0,1,4,5],[2,4,5],[0,2,4,5],[1,2,4,5],[0,1,2,4,5],[3,4,5],[0,3,4,5],[1,3,4,5],[0,1,3,4,5],[2,3,4,5],[0,2,3,4,5],[1,2,3,4,5],[0,1,2,3,4,5]]
def L6_0:List Nat:=List.range 64
def L6_1:List Nat:=L6_0.take 2++([3,7,15,31,23,11,27,19,5,13,29,21,9,25,17,2,6,14,30,22,10,26,18,4,12,28,20,8,24,16]++L6_0.drop 32)
def L6_2:List Nat:=L6_1.take 32++([33,32]++L6_1.drop 34)
def fS:List Nat:=L6_2.take 32++[63,47,55,39,59,43,51,35,61,45,53,37,57,41,49,33,62,46,54,38,58,42,50,34,60,44,52,36,56,40,48,32]
def L6_4:List Nat:=[0,1,3,7,15,31,63,47,23,55,39,11,27,59,43,19,51,35,5,13,29,61,45,21,53,37,9,25,57,41,17,49,33,2,6,14,30,62,46,22,54,38,10,26,58,42,18,50,34,4,12,28,60,44,20,52,36,8,24,56,40,16,48,32]
theorem g6_0:ev (aK φ6) ((countRun' 0 64).run (af L6_0 [] 7)) none=some ((some 3,(af L6_0 [] 7)),none):=by kernel_rfl
theorem g6_1:ev (aK φ6) ((binarySort' 0 32 3).run (af L6_0 [] 7)) none=some ((true,(af L6_1 [] 7)),none):=by kernel_rfl
theorem g6_2:ev (aK φ6) ((countRun' 32 32).run (af L6_1 [(0,32,0)] 7)) none=some ((some 2,(af L6_2 [(0,32,0)] 7)),none):=by kernel_rfl
theorem g6_3:ev (aK φ6) ((binarySort' 32 32 2).run (af L6_2 [(0,32,0)] 7)) none=some ((true,(af fS [(0,32,0)] 7)),none):=by kernel_rfl
theorem g6_4:ev (aK φ6) ((mergeAt' 0).run (af fS [(0,32,1),(32,32,0)] 7)) none=some ((true,(af L6_4 [(0,64,1)] 7)),none):=by kernel_rfl
theorem runs6:ev (aK φ6) (sortRuns'.run (af L6_0 [] 7)) none=some (((),(af L6_4 [(0,64,1)] 7)),none):=by
 rw[sortRuns'_eq]
 refine ac (a:=(af L6_0 [] 7)) (st1:=(af L6_0 [] 7)) rfl ?_
 have c:(arrOf (af L6_0 [] 7)).size=64:=by kernel_rfl
 have b:minRun' 64 64 0=32:=rfl
 rw[c]
 try dsimp only
 rw[b]
 rw[Std.Legacy.Range.forIn_eq_forIn_range']
 refine ac (a:=(none,64)) (st1:=(af fS [(0,32,1),(32,32,0)] 7)) (aU (b1:=(none,32)) (st1:=(af L6_1 [(0,32,0)] 7)) ?_ (aU (b1:=(none,64)) (st1:=(af fS [(0,32,1),(32,32,0)] 7)) ?_ (bD (b1:=(none,64)) (st1:=(af fS [(0,32,1),(32,32,0)] 7)) ?_))) ?_
 .try dsimp only
  rw[if_neg (by decide)]
  refine ac g6_0 ?_
  try dsimp only
  rw[if_pos (by decide)]
  refine ac (a:=()) (st1:=(af L6_0 [] 7)) rfl ?_
  refine ac g6_1 ?_
  rw[if_neg (by decide)]
  refine ac (a:=(af L6_1 [] 7)) (st1:=(af L6_1 [] 7)) rfl ?_
  rw[show (pendingOf (af L6_1 [] 7)).back?=none from rfl]
  try dsimp only
  refine ac (a:=()) (st1:=(af L6_1 [(0,32,0)] 7)) rfl ?_
  exact rfl
 .try dsimp only
  rw[if_neg (by decide)]
  refine ac g6_2 ?_
  try dsimp only
  rw[if_pos (by decide)]
  refine ac (a:=()) (st1:=(af L6_2 [(0,32,0)] 7)) rfl ?_
  refine ac g6_3 ?_
  rw[if_neg (by decide)]
  refine ac (a:=(af fS [(0,32,0)] 7)) (st1:=(af fS [(0,32,0)] 7)) rfl ?_
  rw[show (pendingOf (af fS [(0,32,0)] 7)).back?=some (0,32,0) from rfl]
  try dsimp only
  rw[Std.Legacy.Range.forIn_eq_forIn_range']
  refine ac (a:=(none,())) (st1:=(af fS [(0,32,0)] 7)) (bD (b1:=(none,())) (st1:=(af fS [(0,32,0)] 7)) ?_) ?_
  .try dsimp only
   refine ac (a:=(af fS [(0,32,0)] 7)) (st1:=(af fS [(0,32,0)] 7)) rfl ?_
   rw[show (if (pendingOf (af fS [(0,32,0)] 7)).size > 1 then (pendingOf (af fS [(0,32,0)] 7))[(pendingOf (af fS [(0,32,0)] 7)).size - 2]? else none)=none from rfl]
   exact rfl
  try dsimp only
  refine ac (a:=()) (st1:=(af fS [(0,32,1)] 7)) rfl ?_
  refine ac (a:=()) (st1:=(af fS [(0,32,1),(32,32,0)] 7)) rfl ?_
  exact rfl
 .try dsimp only
  rw[if_pos (by decide)]
  exact rfl
 try dsimp only
 rw[Std.Legacy.Range.forIn_eq_forIn_range']
 refine ac (a:=(none,())) (st1:=(af L6_4 [(0,64,1)] 7)) (aU (b1:=(none,())) (st1:=(af L6_4 [(0,64,1)] 7)) ?_ (bD (b1:=(none,())) (st1:=(af L6_4 [(0,64,1)] 7)) ?_)) ?_
 .try dsimp only
  refine ac (a:=(af fS [(0,32,1),(32,32,0)] 7)) (st1:=(af fS [(0,32,1),(32,32,0)] 7)) rfl ?_
  rw[if_neg (by decide)]
  refine ac g6_4 ?_
  rw[if_neg (by decide)]
  exact rfl
 .try dsimp only
  refine ac (a:=(af L6_4 [(0,64,1)] 7)) (st1:=(af L6_4 [(0,64,1)] 7)) rfl ?_
  rw[if_pos (by decide)]
  exact rfl
 exact rfl
theorem sort6:bv φ6=some L6_4:=gu (n:=64) rfl runs6
def φ7:List (List Int):=[[],[0],[1],[0,1],[2],[0,2],[1,2],[0,1,2],[3],[0,3],[1,3],[0,1,3],[2,3],[0,2,3],[1,2,3],[0,1,2,3],[4],[0,4],[1,4],[0,1,4],[2,4],[0,2,4],[1,2,4],[0,1,2,4],[3,4],[0,3,4],[1,3,4],[0,1,3,4],[2,3,4],[0,2,3,4],[1,2,3,4],[0,1,2,3,4],[5],[0,5],[1,5],[0,1,5],[2,5],[0,2,5],[1,2,5],[0,1,2,5],[3,5],[0,3,5],[1,3,5],[0,1,3,5],[2,3,5],[0,2,3,5],[1,2,3,5],[0,1,2,3,5],[4,5],[0,4,5],[1,4,5],[0,1,4,5],[2,4,5],[0,2,4,5],[1,2,4,5],[0,1,2,4,5],[3,4,5],[0,3,4,5],[1,3,4,5],[0,1,3,4,5],[2,3,4,5],[0,2,3,4,5],[1,2,3,4,5],[0,1,2,3,4,5],[6],[0,6],[1,6],[0,1,6],[2,6],[0,2,6],[1,2,6],[0,1,2,6],[3,6],[0,3,6],[1,3,6],[0,1,3,6],[2,3,6],[0,2,3,6],[1,2,3,6],[0,1,2,3,6],[4,6],[0,4,6],[1,4,6],[0,1,4,6],[2,4,6],[0,2,4,6],[1,2,4,6],[0,1,2,4,6],[3,4,6],[0,3,4,6],[1,3,4,6],[0,1,3,4,6],[2,3,4,6],[0,2,3,4,6],[1,2,3,4,6],[0,1,2,3,4,6],[5,6],[0,5,6],[1,5,6],[0,1,5,6],[2,5,6],[0,2,5,6],[1,2,5,6],[0,1,2,5,6],[3,5,6],[0,3,5,6],[1,3,5,6],[0,1,3,5,6],[2,3,5,6],[0,2,3,5,6],[1,2,3,5,6],[0,1,2,3,5,6],[4,5,6],[0,4,5,6],[1,4,5,6],[0,1,4,5,6],[2,4,5,6],[0,2,4,5,6],[1,2,4,5,6],[0,1,2,4,5,6],[3,4,5,6],[0,3,4,5,6],[1,3,4,5,6],[0,1,3,4,5,6],[2,3,4,5,6],[0,2,3,4,5,6],[1,2,3,4,5,6],[0,1,2,3,4,5,6]]
def L7_0:List Nat:=List.range 128
def L7_1:List Nat:=L7_0.take 2++([3,7,15,31,23,11,27,19,5,13,29,21,9,25,17,2,6,14,30,22,10,26,18,4,12,28,20,8,24,16]++L7_0.drop 32)
def L7_2:List Nat:=L7_1.take 32++([33,32]++L7_1.drop 34)
def L7_3:List Nat:=L7_2.take 32++([63,47,55,39,59,43,51,35,61,45,53,37,57,41,49,33,62,46,54,38,58,42,50,34,60,44,52,36,56,40,48,32]++L7_2.drop 64)
def L7_4:List Nat:=L7_3.take 64++([65,64]++L7_3.drop 66)
def L7_5:List Nat:=L7_4.take 64++([95,79,87,71,91,75,83,67,93,77,85,69,89,73,81,65,94,78,86,70,90,74,82,66,92,76,84,68,88,72,80,64]++L7_4.drop 96)
def L7_6:List Nat:=L7_5.take 6++([63,47,23,55,39,11,27,59,43,19,51,35,5,13,29,61,45,21,53,37,9,25,57,41,17,49,33,2,6,14,30,62,46,22,54,38,10,26,58,42,18,50,34,4,12,28,60,44,20,52,36,8,24,56,40,16]++L7_5.drop 62)
def L7_7:List Nat:=L7_6.take 96++([97,96]++L7_6.drop 98)
def L7_8:List Nat:=L7_7.take 96++[127,111,119,103,123,107,115,99,125,109,117,101,121,105,113,97,126,110,118,102,122,106,114,98,124,108,116,100,120,104,112,96]
def Ai:List Nat:=L7_8.take 64++[127,95,111,79,119,87,103,71,123,91,107,75,115,83,99,67,125,93,109,77,117,85,101,69,121,89,105,73,113,81,97,65,126,94,110,78,118,86,102,70,122,90,106,74,114,82,98,66,124,92,108,76,116,84,100,68,120,88,104,72,112,80,96,64]
def L7_10:List Nat:=[0,1,3,7,15,31,63,127,95,47,111,79,23,55,119,87,39,103,71,11,27,59,123,91,43,107,75,19,51,115,83,35,99,67,5,13,29,61,125,93,45,109,77,21,53,117,85,37,101,69,9,25,57,121,89,41,105,73,17,49,113,81,33,97,65,2,6,14,30,62,126,94,46,110,78,22,54,118,86,38,102,70,10,26,58,122,90,42,106,74,18,50,114,82,34,98,66,4,12,28,60,124,92,44,108,76,20,52,116,84,36,100,68,8,24,56,120,88,40,104,72,16,48,112,80,32,96,64]
theorem g7_0:ev (aK φ7) ((countRun' 0 128).run (af L7_0 [] 7)) none=some ((some 3,(af L7_0 [] 7)),none):=by kernel_rfl
theorem g7_1:ev (aK φ7) ((binarySort' 0 32 3).run (af L7_0 [] 7)) none=some ((true,(af L7_1 [] 7)),none):=by kernel_rfl
theorem g7_2:ev (aK φ7) ((countRun' 32 96).run (af L7_1 [(0,32,0)] 7)) none=some ((some 2,(af L7_2 [(0,32,0)] 7)),none):=by kernel_rfl
theorem g7_3:ev (aK φ7) ((binarySort' 32 32 2).run (af L7_2 [(0,32,0)] 7)) none=some ((true,(af L7_3 [(0,32,0)] 7)),none):=by kernel_rfl
theorem g7_4:ev (aK φ7) ((countRun' 64 64).run (af L7_3 [(0,32,2),(32,32,0)] 7)) none=some ((some 2,(af L7_4 [(0,32,2),(32,32,0)] 7)),none):=by kernel_rfl
theorem g7_5:ev (aK φ7) ((binarySort' 64 32 2).run (af L7_4 [(0,32,2),(32,32,0)] 7)) none=some ((true,(af L7_5 [(0,32,2),(32,32,0)] 7)),none):=by kernel_rfl
theorem g7_6:ev (aK φ7) ((mergeAt' 0).run (af L7_5 [(0,32,2),(32,32,0)] 7)) none=some ((true,(af L7_6 [(0,64,2)] 7)),none):=by kernel_rfl
theorem g7_7:ev (aK φ7) ((countRun' 96 32).run (af L7_6 [(0,64,1),(64,32,0)] 7)) none=some ((some 2,(af L7_7 [(0,64,1),(64,32,0)] 7)),none):=by kernel_rfl
theorem g7_8:ev (aK φ7) ((binarySort' 96 32 2).run (af L7_7 [(0,64,1),(64,32,0)] 7)) none=some ((true,(af L7_8 [(0,64,1),(64,32,0)] 7)),none):=by kernel_rfl
theorem g7_9:ev (aK φ7) ((mergeAt' 1).run (af L7_8 [(0,64,1),(64,32,2),(96,32,0)] 7)) none=some ((true,(af Ai [(0,64,1),(64,64,2)] 7)),none):=by kernel_rfl
theorem g7_10:ev (aK φ7) ((mergeAt' 0).run (af Ai [(0,64,1),(64,64,2)] 7)) none=some ((true,(af L7_10 [(0,128,1)] 7)),none):=by kernel_rfl
theorem runs7:ev (aK φ7) (sortRuns'.run (af L7_0 [] 7)) none=some (((),(af L7_10 [(0,128,1)] 7)),none):=by
 rw[sortRuns'_eq]
 refine ac (a:=(af L7_0 [] 7)) (st1:=(af L7_0 [] 7)) rfl ?_
 have c:(arrOf (af L7_0 [] 7)).size=128:=by kernel_rfl
 have b:minRun' 128 128 0=32:=rfl
 rw[c]
 try dsimp only
 rw[b]
 rw[Std.Legacy.Range.forIn_eq_forIn_range']
 refine ac (a:=(none,128)) (st1:=(af L7_8 [(0,64,1),(64,32,2),(96,32,0)] 7)) (aU (b1:=(none,32)) (st1:=(af L7_1 [(0,32,0)] 7)) ?_ (aU (b1:=(none,64)) (st1:=(af L7_3 [(0,32,2),(32,32,0)] 7)) ?_ (aU (b1:=(none,96)) (st1:=(af L7_6 [(0,64,1),(64,32,0)] 7)) ?_ (aU (b1:=(none,128)) (st1:=(af L7_8 [(0,64,1),(64,32,2),(96,32,0)] 7)) ?_ (bD (b1:=(none,128)) (st1:=(af L7_8 [(0,64,1),(64,32,2),(96,32,0)] 7)) ?_))))) ?_
 .try dsimp only
  rw[if_neg (by decide)]
  refine ac g7_0 ?_
  try dsimp only
  rw[if_pos (by decide)]
  refine ac (a:=()) (st1:=(af L7_0 [] 7)) rfl ?_
  refine ac g7_1 ?_
  rw[if_neg (by decide)]
  refine ac (a:=(af L7_1 [] 7)) (st1:=(af L7_1 [] 7)) rfl ?_
  rw[show (pendingOf (af L7_1 [] 7)).back?=none from rfl]
  try dsimp only
  refine ac (a:=()) (st1:=(af L7_1 [(0,32,0)] 7)) rfl ?_
  exact rfl
 .try dsimp only
  rw[if_neg (by decide)]
  refine ac g7_2 ?_
  try dsimp only
  rw[if_pos (by decide)]
  refine ac (a:=()) (st1:=(af L7_2 [(0,32,0)] 7)) rfl ?_
  refine ac g7_3 ?_
  rw[if_neg (by decide)]
  refine ac (a:=(af L7_3 [(0,32,0)] 7)) (st1:=(af L7_3 [(0,32,0)] 7)) rfl ?_
  rw[show (pendingOf (af L7_3 [(0,32,0)] 7)).back?=some (0,32,0) from rfl]
  try dsimp only
  rw[Std.Legacy.Range.forIn_eq_forIn_range']
  refine ac (a:=(none,())) (st1:=(af L7_3 [(0,32,0)] 7)) (bD (b1:=(none,())) (st1:=(af L7_3 [(0,32,0)] 7)) ?_) ?_
  .try dsimp only
   refine ac (a:=(af L7_3 [(0,32,0)] 7)) (st1:=(af L7_3 [(0,32,0)] 7)) rfl ?_
   rw[show (if (pendingOf (af L7_3 [(0,32,0)] 7)).size > 1 then (pendingOf (af L7_3 [(0,32,0)] 7))[(pendingOf (af L7_3 [(0,32,0)] 7)).size - 2]? else none)=none from rfl]
   exact rfl
  try dsimp only
  refine ac (a:=()) (st1:=(af L7_3 [(0,32,2)] 7)) rfl ?_
  refine ac (a:=()) (st1:=(af L7_3 [(0,32,2),(32,32,0)] 7)) rfl ?_
  exact rfl
 .try dsimp only
  rw[if_neg (by decide)]
  refine ac g7_4 ?_
  try dsimp only
  rw[if_pos (by decide)]
  refine ac (a:=()) (st1:=(af L7_4 [(0,32,2),(32,32,0)] 7)) rfl ?_
  refine ac g7_5 ?_
  rw[if_neg (by decide)]
  refine ac (a:=(af L7_5 [(0,32,2),(32,32,0)] 7)) (st1:=(af L7_5 [(0,32,2),(32,32,0)] 7)) rfl ?_
  rw[show (pendingOf (af L7_5 [(0,32,2),(32,32,0)] 7)).back?=some (32,32,0) from rfl]
  try dsimp only
  rw[Std.Legacy.Range.forIn_eq_forIn_range']
  refine ac (a:=(none,())) (st1:=(af L7_6 [(0,64,2)] 7)) (aU (b1:=(none,())) (st1:=(af L7_6 [(0,64,2)] 7)) ?_ (bD (b1:=(none,())) (st1:=(af L7_6 [(0,64,2)] 7)) ?_)) ?_
  .try dsimp only
   refine ac (a:=(af L7_5 [(0,32,2),(32,32,0)] 7)) (st1:=(af L7_5 [(0,32,2),(32,32,0)] 7)) rfl ?_
   rw[show (if (pendingOf (af L7_5 [(0,32,2),(32,32,0)] 7)).size > 1 then (pendingOf (af L7_5 [(0,32,2),(32,32,0)] 7))[(pendingOf (af L7_5 [(0,32,2),(32,32,0)] 7)).size - 2]? else none)=some (0,32,2) from rfl]
   try dsimp only
   rw[if_neg (by decide)]
   refine ac g7_6 ?_
   rw[if_neg (by decide)]
   exact rfl
  .try dsimp only
   refine ac (a:=(af L7_6 [(0,64,2)] 7)) (st1:=(af L7_6 [(0,64,2)] 7)) rfl ?_
   rw[show (if (pendingOf (af L7_6 [(0,64,2)] 7)).size > 1 then (pendingOf (af L7_6 [(0,64,2)] 7))[(pendingOf (af L7_6 [(0,64,2)] 7)).size - 2]? else none)=none from rfl]
   exact rfl
  try dsimp only
  refine ac (a:=()) (st1:=(af L7_6 [(0,64,1)] 7)) rfl ?_
  refine ac (a:=()) (st1:=(af L7_6 [(0,64,1),(64,32,0)] 7)) rfl ?_
  exact rfl
 .try dsimp only
  rw[if_neg (by decide)]
  refine ac g7_7 ?_
  try dsimp only
  rw[if_pos (by decide)]
  refine ac (a:=()) (st1:=(af L7_7 [(0,64,1),(64,32,0)] 7)) rfl ?_
  refine ac g7_8 ?_
  rw[if_neg (by decide)]
  refine ac (a:=(af L7_8 [(0,64,1),(64,32,0)] 7)) (st1:=(af L7_8 [(0,64,1),(64,32,0)] 7)) rfl ?_
  rw[show (pendingOf (af L7_8 [(0,64,1),(64,32,0)] 7)).back?=some (64,32,0) from rfl]
  try dsimp only
  rw[Std.Legacy.Range.forIn_eq_forIn_range']
  refine ac (a:=(none,())) (st1:=(af L7_8 [(0,64,1),(64,32,0)] 7)) (bD (b1:=(none,())) (st1:=(af L7_8 [(0,64,1),(64,32,0)] 7)) ?_) ?_
  .try dsimp only
   refine ac (a:=(af L7_8 [(0,64,1),(64,32,0)] 7)) (st1:=(af L7_8 [(0,64,1),(64,32,0)] 7)) rfl ?_
   rw[show (if (pendingOf (af L7_8 [(0,64,1),(64,32,0)] 7)).size > 1 then (pendingOf (af L7_8 [(0,64,1),(64,32,0)] 7))[(pendingOf (af L7_8 [(0,64,1),(64,32,0)] 7)).size - 2]? else none)=some (0,64,1) from rfl]
   try dsimp only
   rw[if_pos (by decide)]
   exact rfl
  try dsimp only
  refine ac (a:=()) (st1:=(af L7_8 [(0,64,1),(64,32,2)] 7)) rfl ?_
  refine ac (a:=()) (st1:=(af L7_8 [(0,64,1),(64,32,2),(96,32,0)] 7)) rfl ?_
  exact rfl
 .try dsimp only
  rw[if_pos (by decide)]
  exact rfl
 try dsimp only
 rw[Std.Legacy.Range.forIn_eq_forIn_range']
 refine ac (a:=(none,())) (st1:=(af L7_10 [(0,128,1)] 7)) (aU (b1:=(none,())) (st1:=(af Ai [(0,64,1),(64,64,2)] 7)) ?_ (aU (b1:=(none,())) (st1:=(af L7_10 [(0,128,1)] 7)) ?_ (bD (b1:=(none,())) (st1:=(af L7_10 [(0,128,1)] 7)) ?_))) ?_
 .try dsimp only
  refine ac (a:=(af L7_8 [(0,64,1),(64,32,2),(96,32,0)] 7)) (st1:=(af L7_8 [(0,64,1),(64,32,2),(96,32,0)] 7)) rfl ?_
  rw[if_neg (by decide)]
  refine ac g7_9 ?_
  rw[if_neg (by decide)]
  exact rfl
 .try dsimp only
  refine ac (a:=(af Ai [(0,64,1),(64,64,2)] 7)) (st1:=(af Ai [(0,64,1),(64,64,2)] 7)) rfl ?_
  rw[if_neg (by decide)]
  refine ac g7_10 ?_
  rw[if_neg (by decide)]
  exact rfl
 .try dsimp only
  refine ac (a:=(af L7_10 [(0,128,1)] 7)) (st1:=(af L7_10 [(0,128,1)] 7)) rfl ?_
  rw[if_pos (by decide)]
  exact rfl
 exact rfl
theorem sort7:bv φ7=some L7_10:=gu (n:=128) rfl runs7
def φ8:List (List Int):=[[],[0],[1],[0,1],[2],[0,2],[1,2],[0,1,2],[3],[0,3],[1,3],[0,1,3],[2,3],[0,2,3],[1,2,3],[0,1,2,3],[4],[0,4],[1,4],[0,1,4],[2,4],[0,2,4],[1,2,4],[0,1,2,4],[3,4],[0,3,4],[1,3,4],[0,1,3,4],[2,3,4],[0,2,3,4],[1,2,3,4],[0,1,2,3,4],[5],[0,5],[1,5],[0,1,5],[2,5],[0,2,5],[1,2,5],[0,1,2,5],[3,5],[0,3,5],[1,3,5],[0,1,3,5],[2,3,5],[0,2,3,5],[1,2,3,5],[0,1,2,3,5],[4,5],[0,4,5],[1,4,5],[0,1,4,5],[2,4,5],[0,2,4,5],[1,2,4,5],[0,1,2,4,5],[3,4,5],[0,3,4,5],[1,3,4,5],[0,1,3,4,5],[2,3,4,5],[0,2,3,4,5],[1,2,3,4,5],[0,1,2,3,4,5],[6],[0,6],[1,6],[0,1,6],[2,6],[0,2,6],[1,2,6],[0,1,2,6],[3,6],[0,3,6],[1,3,6],[0,1,3,6],[2,3,6],[0,2,3,6],[1,2,3,6],[0,1,2,3,6],[4,6],[0,4,6],[1,4,6],[0,1,4,6],[2,4,6],[0,2,4,6],[1,2,4,6],[0,1,2,4,6],[3,4,6],[0,3,4,6],[1,3,4,6],[0,1,3,4,6],[2,3,4,6],[0,2,3,4,6],[1,2,3,4,6],[0,1,2,3,4,6],[5,6],[0,5,6],[1,5,6],[0,1,5,6],[2,5,6],[0,2,5,6],[1,2,5,6],[0,1,2,5,6],[3,5,6],[0,3,5,6],[1,3,5,6],[0,1,3,5,6],[2,3,5,6],[0,2,3,5,6],[1,2,3,5,6],[0,1,2,3,5,6],[4,5,6],[0,4,5,6],[1,4,5,6],[0,1,4,5,6],[2,4,5,6],[0,2,4,5,6],[1,2,4,5,6],[0,1,2,4,5,6],[3,4,5,6],[0,3,4,5,6],[1,3,4,5,6],[0,1,3,4,5,6],[2,3,4,5,6],[0,2,3,4,5,6],[1,2,3,4,5,6],[0,1,2,3,4,5,6],[7],[0,7],[1,7],[0,1,7],[2,7],[0,2,7],[1,2,7],[0,1,2,7],[3,7],[0,3,7],[1,3,7],[0,1,3,7],[2,3,7],[0,2,3,7],[1,2,3,7],[0,1,2,3,7],[4,7],[0,4,7],[1,4,7],[0,1,4,7],[2,4,7],[0,2,4,7],[1,2,4,7],[0,1,2,4,7],[3,4,7],[0,3,4,7],[1,3,4,7],[0,1,3,4,7],[2,3,4,7],[0,2,3,4,7],[1,2,3,4,7],[0,1,2,3,4,7],[5,7],[0,5,7],[1,5,7],[0,1,5,7],[2,5,7],[0,2,5,7],[1,2,5,7],[0,1,2,5,7],[3,5,7],[0,3,5,7],[1,3,5,7],[0,1,3,5,7],[2,3,5,7],[0,2,3,5,7],[1,2,3,5,7],[0,1,2,3,5,7],[4,5,7],[0,4,5,7],[1,4,5,7],[0,1,4,5,7],[2,4,5,7],[0,2,4,5,7],[1,2,4,5,7],[0,1,2,4,5,7],[3,4,5,7],[0,3,4,5,7],[1,3,4,5,7],[0,1,3,4,5,7],[2,3,4,5,7],[0,2,3,4,5,7],[1,2,3,4,5,7],[0,1,2,3,4,5,7],[6,7],[0,6,7],[1,6,7],[0,1,6,7],[2,6,7],[0,2,6,7],[1,2,6,7],[0,1,2,6,7],[3,6,7],[0,3,6,7],[1,3,6,7],[0,1,3,6,7],[2,3,6,7],[0,2,3,6,7],[1,2,3,6,7],[0,1,2,3,6,7],[4,6,7],[0,4,6,7],[1,4,6,7],[0,1,4,6,7],[2,4,6,7],[0,2,4,6,7],[1,2,4,6,7],[0,1,2,4,6,7],[3,4,6,7],[0,3,4,6,7],[1,3,4,6,7],[0,1,3,4,6,7],[2,3,4,6,7],[0,2,3,4,6,7],[1,2,3,4,6,7],[0,1,2,3,4,6,7],[5,6,7],[0,5,6,7],[1,5,6,7],[0,1,5,6,7],[2,5,6,7],[0,2,5,6,7],[1,2,5,6,7],[0,1,2,5,6,7],[3,5,6,7],[0,3,5,6,7],[1,3,5,6,7],[0,1,3,5,6,7],[2,3,5,6,7],[0,2,3,5,6,7],[1,2,3,5,6,7],[0,1,2,3,5,6,7],[4,5,6,7],[0,4,5,6,7],[1,4,5,6,7],[0,1,4,5,6,7],[2,4,5,6,7],[0,2,4,5,6,7],[1,2,4,5,6,7],[0,1,2,4,5,6,7],[3,4,5,6,7],[0,3,4,5,6,7],[1,3,4,5,6,7],[0,1,3,4,5,6,7],[2,3,4,5,6,7],[0,2,3,4,5,6,7],[1,2,3,4,5,6,7],[0,1,2,3,4,5,6,7]]
def L8_0:List Nat:=List.range 256
def L8_1:List Nat:=L8_0.take 2++([3,7,15,31,23,11,27,19,5,13,29,21,9,25,17,2,6,14,30,22,10,26,18,4,12,28,20,8,24,16]++L8_0.drop 32)
def L8_2:List Nat:=L8_1.take 32++([33,32]++L8_1.drop 34)
def L8_3:List Nat:=L8_2.take 32++([63,47,55,39,59,43,51,35,61,45,53,37,57,41,49,33,62,46,54,38,58,42,50,34,60,44,52,36,56,40,48,32]++L8_2.drop 64)
def L8_4:List Nat:=L8_3.take 64++([65,64]++L8_3.drop 66)
def L8_5:List Nat:=L8_4.take 64++([95,79,87,71,91,75,83,67,93,77,85,69,89,73,81,65,94,78,86,70,90,74,82,66,92,76,84,68,88,72,80,64]++L8_4.drop 96)
def L8_6:List Nat:=L8_5.take 6++([63,47,23,55,39,11,27,59,43,19,51,35,5,13,29,61,45,21,53,37,9,25,57,41,17,49,33,2,6,14,30,62,46,22,54,38,10,26,58,42,18,50,34,4,12,28,60,44,20,52,36,8,24,56,40,16]++L8_5.drop 62)
def L8_7:List Nat:=L8_6.take 96++([97,96]++L8_6.drop 98)
def L8_8:List Nat:=L8_7.take 96++([127,111,119,103,123,107,115,99,125,109,117,101,121,105,113,97,126,110,118,102,122,106,114,98,124,108,116,100,120,104,112,96]++L8_7.drop 128)
def L8_9:List Nat:=L8_8.take 128++([129,128]++L8_8.drop 130)
def L8_10:List Nat:=L8_9.take 128++([159,143,151,135,155,139,147,131,157,141,149,133,153,137,145,129,158,142,150,134,154,138,146,130,156,140,148,132,152,136,144,128]++L8_9.drop 160)
def L8_11:List Nat:=L8_10.take 64++([127,95,111,79,119,87,103,71,123,91,107,75,115,83,99,67,125,93,109,77,117,85,101,69,121,89,105,73,113,81,97,65,126,94,110,78,118,86,102,70,122,90,106,74,114,82,98,66,124,92,108,76,116,84,100,68,120,88,104,72,112,80,96,64]++L8_10.drop 128)
def L8_12:List Nat:=L8_11.take 7++([127,95,47,111,79,23,55,119,87,39,103,71,11,27,59,123,91,43,107,75,19,51,115,83,35,99,67,5,13,29,61,125,93,45,109,77,21,53,117,85,37,101,69,9,25,57,121,89,41,105,73,17,49,113,81,33,97,65,2,6,14,30,62,126,94,46,110,78,22,54,118,86,38,102,70,10,26,58,122,90,42,106,74,18,50,114,82,34,98,66,4,12,28,60,124,92,44,108,76,20,52,116,84,36,100,68,8,24,56,120,88,40,104,72,16,48,112,80,32]++L8_11.drop 126)
def L8_13:List Nat:=L8_12.take 160++([161,160]++L8_12.drop 162)
def L8_14:List Nat:=L8_13.take 160++([191,175,183,167,187,171,179,163,189,173,181,165,185,169,177,161,190,174,182,166,186,170,178,162,188,172,180,164,184,168,176,160]++L8_13.drop 192)
def L8_15:List Nat:=L8_14.take 192++([193,192]++L8_14.drop 194)
def L8_16:List Nat:=L8_15.take 192++([223,207,215,199,219,203,211,195,221,205,213,197,217,201,209,193,222,206,214,198,218,202,210,194,220,204,212,196,216,200,208,192]++L8_15.drop 224)
def L8_17:List Nat:=L8_16.take 128++([191,159,175,143,183,151,167,135,187,155,171,139,179,147,163,131,189,157,173,141,181,149,165,133,185,153,169,137,177,145,161,129,190,158,174,142,182,150,166,134,186,154,170,138,178,146,162,130,188,156,172,140,180,148,164,132,184,152,168,136,176,144,160,128]++L8_16.drop 192)
def L8_18:List Nat:=L8_17.take 224++([225,224]++L8_17.drop 226)
def L8_19:List Nat:=L8_18.take 224++[255,239,247,231,251,235,243,227,253,237,245,229,249,233,241,225,254,238,246,230,250,234,242,226,252,236,244,228,248,232,240,224]
def L8_20:List Nat:=L8_19.take 192++[255,223,239,207,247,215,231,199,251,219,235,203,243,211,227,195,253,221,237,205,245,213,229,197,249,217,233,201,241,209,225,193,254,222,238,206,246,214,230,198,250,218,234,202,242,210,226,194,252,220,236,204,244,212,228,196,248,216,232,200,240,208,224,192]
def L8_21:List Nat:=L8_20.take 128++[255,191,223,159,239,175,207,143,247,183,215,151,231,167,199,135,251,187,219,155,235,171,203,139,243,179,211,147,227,163,195,131,253,189,221,157,237,173,205,141,245,181,213,149,229,165,197,133,249,185,217,153,233,169,201,137,241,177,209,145,225,161,193,129,254,190,222,158,238,174,206,142,246,182,214,150,230,166,198,134,250,186,218,154,234,170,202,138,242,178,210,146,226,162,194,130,252,188,220,156,236,172,204,140,244,180,212,148,228,164,196,132,248,184,216,152,232,168,200,136,240,176,208,144,224,160,192,128]
def L8_22:List Nat:=L8_21.take 8++([255,191,95,223,159,47,111,239,175,79,207,143,23,55,119,247,183,87,215,151,39,103,231,167,71,199,135,11,27,59,123,251,187,91,219,155,43,107,235,171,75,203,139,19,51,115,243,179,83,211,147,35,99,227,163,67,195,131,5,13,29,61,125,253,189,93,221,157,45,109,237,173,77,205,141,21,53,117,245,181,85,213,149,37,101,229,165,69,197,133,9,25,57,121,249,185,89,217,153,41,105,233,169,73,201,137,17,49,113,241,177,81,209,145,33,97,225,161,65,193,129,2,6,14,30,62,126,254,190,94,222,158,46,110,238,174,78,206,142,22,54,118,246,182,86,214,150,38,102,230,166,70,198,134,10,26,58,122,250,186,90,218,154,42,106,234,170,74,202,138,18,50,114,242,178,82,210,146,34,98,226,162,66,194,130,4,12,28,60,124,252,188,92,220,156,44,108,236,172,76,204,140,20,52,116,244,180,84,212,148,36,100,228,164,68,196,132,8,24,56,120,248,184,88,216,152,40,104,232,168,72,200,136,16,48,112,240,176,80,208,144,32,96,224,160,64]++L8_21.drop 254)
theorem g8_0:ev (aK φ8) ((countRun' 0 256).run (af L8_0 [] 7)) none=some ((some 3,(af L8_0 [] 7)),none):=by kernel_rfl
theorem g8_1:ev (aK φ8) ((binarySort' 0 32 3).run (af L8_0 [] 7)) none=some ((true,(af L8_1 [] 7)),none):=by kernel_rfl
theorem g8_2:ev (aK φ8) ((countRun' 32 224).run (af L8_1 [(0,32,0)] 7)) none=some ((some 2,(af L8_2 [(0,32,0)] 7)),none):=by kernel_rfl
theorem g8_3:ev (aK φ8) ((binarySort' 32 32 2).run (af L8_2 [(0,32,0)] 7)) none=some ((true,(af L8_3 [(0,32,0)] 7)),none):=by kernel_rfl
theorem g8_4:ev (aK φ8) ((countRun' 64 192).run (af L8_3 [(0,32,3),(32,32,0)] 7)) none=some ((some 2,(af L8_4 [(0,32,3),(32,32,0)] 7)),none):=by kernel_rfl
theorem g8_5:ev (aK φ8) ((binarySort' 64 32 2).run (af L8_4 [(0,32,3),(32,32,0)] 7)) none=some ((true,(af L8_5 [(0,32,3),(32,32,0)] 7)),none):=by kernel_rfl
theorem g8_6:ev (aK φ8) ((mergeAt' 0).run (af L8_5 [(0,32,3),(32,32,0)] 7)) none=some ((true,(af L8_6 [(0,64,3)] 7)),none):=by kernel_rfl
theorem g8_7:ev (aK φ8) ((countRun' 96 160).run (af L8_6 [(0,64,2),(64,32,0)] 7)) none=some ((some 2,(af L8_7 [(0,64,2),(64,32,0)] 7)),none):=by kernel_rfl
theorem g8_8:ev (aK φ8) ((binarySort' 96 32 2).run (af L8_7 [(0,64,2),(64,32,0)] 7)) none=some ((true,(af L8_8 [(0,64,2),(64,32,0)] 7)),none):=by kernel_rfl
theorem g8_9:ev (aK φ8) ((countRun' 128 128).run (af L8_8 [(0,64,2),(64,32,3),(96,32,0)] 7)) none=some ((some 2,(af L8_9 [(0,64,2),(64,32,3),(96,32,0)] 7)),none):=by kernel_rfl
theorem g8_10:ev (aK φ8) ((binarySort' 128 32 2).run (af L8_9 [(0,64,2),(64,32,3),(96,32,0)] 7)) none=some ((true,(af L8_10 [(0,64,2),(64,32,3),(96,32,0)] 7)),none):=by kernel_rfl
theorem g8_11:ev (aK φ8) ((mergeAt' 1).run (af L8_10 [(0,64,2),(64,32,3),(96,32,0)] 7)) none=some ((true,(af L8_11 [(0,64,2),(64,64,3)] 7)),none):=by kernel_rfl
theorem g8_12:ev (aK φ8) ((mergeAt' 0).run (af L8_11 [(0,64,2),(64,64,3)] 7)) none=some ((true,(af L8_12 [(0,128,2)] 7)),none):=by kernel_rfl
theorem g8_13:ev (aK φ8) ((countRun' 160 96).run (af L8_12 [(0,128,1),(128,32,0)] 7)) none=some ((some 2,(af L8_13 [(0,128,1),(128,32,0)] 7)),none):=by kernel_rfl
theorem g8_14:ev (aK φ8) ((binarySort' 160 32 2).run (af L8_13 [(0,128,1),(128,32,0)] 7)) none=some ((true,(af L8_14 [(0,128,1),(128,32,0)] 7)),none):=by kernel_rfl
theorem g8_15:ev (aK φ8) ((countRun' 192 64).run (af L8_14 [(0,128,1),(128,32,3),(160,32,0)] 7)) none=some ((some 2,(af L8_15 [(0,128,1),(128,32,3),(160,32,0)] 7)),none):=by kernel_rfl
theorem g8_16:ev (aK φ8) ((binarySort' 192 32 2).run (af L8_15 [(0,128,1),(128,32,3),(160,32,0)] 7)) none=some ((true,(af L8_16 [(0,128,1),(128,32,3),(160,32,0)] 7)),none):=by kernel_rfl
theorem g8_17:ev (aK φ8) ((mergeAt' 1).run (af L8_16 [(0,128,1),(128,32,3),(160,32,0)] 7)) none=some ((true,(af L8_17 [(0,128,1),(128,64,3)] 7)),none):=by kernel_rfl
theorem g8_18:ev (aK φ8) ((countRun' 224 32).run (af L8_17 [(0,128,1),(128,64,2),(192,32,0)] 7)) none=some ((some 2,(af L8_18 [(0,128,1),(128,64,2),(192,32,0)] 7)),none):=by kernel_rfl
theorem g8_19:ev (aK φ8) ((binarySort' 224 32 2).run (af L8_18 [(0,128,1),(128,64,2),(192,32,0)] 7)) none=some ((true,(af L8_19 [(0,128,1),(128,64,2),(192,32,0)] 7)),none):=by kernel_rfl
theorem g8_20:ev (aK φ8) ((mergeAt' 2).run (af L8_19 [(0,128,1),(128,64,2),(192,32,3),(224,32,0)] 7)) none=some ((true,(af L8_20 [(0,128,1),(128,64,2),(192,64,3)] 7)),none):=by kernel_rfl
theorem g8_21:ev (aK φ8) ((mergeAt' 1).run (af L8_20 [(0,128,1),(128,64,2),(192,64,3)] 7)) none=some ((true,(af L8_21 [(0,128,1),(128,128,2)] 7)),none):=by kernel_rfl
theorem g8_22:ev (aK φ8) ((mergeAt' 0).run (af L8_21 [(0,128,1),(128,128,2)] 7)) none=some ((true,(af L8_22 [(0,256,1)] 7)),none):=by kernel_rfl
theorem runs8:ev (aK φ8) (sortRuns'.run (af L8_0 [] 7)) none=some (((),(af L8_22 [(0,256,1)] 7)),none):=by
 rw[sortRuns'_eq]
 refine ac (a:=(af L8_0 [] 7)) (st1:=(af L8_0 [] 7)) rfl ?_
 have c:(arrOf (af L8_0 [] 7)).size=256:=by kernel_rfl
 have b:minRun' 256 256 0=32:=rfl
 rw[c]
 try dsimp only
 rw[b]
 rw[Std.Legacy.Range.forIn_eq_forIn_range']
 refine ac (a:=(none,256)) (st1:=(af L8_19 [(0,128,1),(128,64,2),(192,32,3),(224,32,0)] 7)) (aU (b1:=(none,32)) (st1:=(af L8_1 [(0,32,0)] 7)) ?_ (aU (b1:=(none,64)) (st1:=(af L8_3 [(0,32,3),(32,32,0)] 7)) ?_ (aU (b1:=(none,96)) (st1:=(af L8_6 [(0,64,2),(64,32,0)] 7)) ?_ (aU (b1:=(none,128)) (st1:=(af L8_8 [(0,64,2),(64,32,3),(96,32,0)] 7)) ?_ (aU (b1:=(none,160)) (st1:=(af L8_12 [(0,128,1),(128,32,0)] 7)) ?_ (aU (b1:=(none,192)) (st1:=(af L8_14 [(0,128,1),(128,32,3),(160,32,0)] 7)) ?_ (aU (b1:=(none,224)) (st1:=(af L8_17 [(0,128,1),(128,64,2),(192,32,0)] 7)) ?_ (aU (b1:=(none,256)) (st1:=(af L8_19 [(0,128,1),(128,64,2),(192,32,3),(224,32,0)] 7)) ?_ (bD (b1:=(none,256)) (st1:=(af L8_19 [(0,128,1),(128,64,2),(192,32,3),(224,32,0)] 7)) ?_))))))))) ?_
 .try dsimp only
  rw[if_neg (by decide)]
  refine ac g8_0 ?_
  try dsimp only
  rw[if_pos (by decide)]
  refine ac (a:=()) (st1:=(af L8_0 [] 7)) rfl ?_
  refine ac g8_1 ?_
  rw[if_neg (by decide)]
  refine ac (a:=(af L8_1 [] 7)) (st1:=(af L8_1 [] 7)) rfl ?_
  rw[show (pendingOf (af L8_1 [] 7)).back?=none from rfl]
  try dsimp only
  refine ac (a:=()) (st1:=(af L8_1 [(0,32,0)] 7)) rfl ?_
  exact rfl
 .try dsimp only
  rw[if_neg (by decide)]
  refine ac g8_2 ?_
  try dsimp only
  rw[if_pos (by decide)]
  refine ac (a:=()) (st1:=(af L8_2 [(0,32,0)] 7)) rfl ?_
  refine ac g8_3 ?_
  rw[if_neg (by decide)]
  refine ac (a:=(af L8_3 [(0,32,0)] 7)) (st1:=(af L8_3 [(0,32,0)] 7)) rfl ?_
  rw[show (pendingOf (af L8_3 [(0,32,0)] 7)).back?=some (0,32,0) from rfl]
  try dsimp only
  rw[Std.Legacy.Range.forIn_eq_forIn_range']
  refine ac (a:=(none,())) (st1:=(af L8_3 [(0,32,0)] 7)) (bD (b1:=(none,())) (st1:=(af L8_3 [(0,32,0)] 7)) ?_) ?_
  .try dsimp only
   refine ac (a:=(af L8_3 [(0,32,0)] 7)) (st1:=(af L8_3 [(0,32,0)] 7)) rfl ?_
   rw[show (if (pendingOf (af L8_3 [(0,32,0)] 7)).size > 1 then (pendingOf (af L8_3 [(0,32,0)] 7))[(pendingOf (af L8_3 [(0,32,0)] 7)).size - 2]? else none)=none from rfl]
   exact rfl
  try dsimp only
  refine ac (a:=()) (st1:=(af L8_3 [(0,32,3)] 7)) rfl ?_
  refine ac (a:=()) (st1:=(af L8_3 [(0,32,3),(32,32,0)] 7)) rfl ?_
  exact rfl
 .try dsimp only
  rw[if_neg (by decide)]
  refine ac g8_4 ?_
  try dsimp only
  rw[if_pos (by decide)]
  refine ac (a:=()) (st1:=(af L8_4 [(0,32,3),(32,32,0)] 7)) rfl ?_
  refine ac g8_5 ?_
  rw[if_neg (by decide)]
  refine ac (a:=(af L8_5 [(0,32,3),(32,32,0)] 7)) (st1:=(af L8_5 [(0,32,3),(32,32,0)] 7)) rfl ?_
  rw[show (pendingOf (af L8_5 [(0,32,3),(32,32,0)] 7)).back?=some (32,32,0) from rfl]
  try dsimp only
  rw[Std.Legacy.Range.forIn_eq_forIn_range']
  refine ac (a:=(none,())) (st1:=(af L8_6 [(0,64,3)] 7)) (aU (b1:=(none,())) (st1:=(af L8_6 [(0,64,3)] 7)) ?_ (bD (b1:=(none,())) (st1:=(af L8_6 [(0,64,3)] 7)) ?_)) ?_
  .try dsimp only
   refine ac (a:=(af L8_5 [(0,32,3),(32,32,0)] 7)) (st1:=(af L8_5 [(0,32,3),(32,32,0)] 7)) rfl ?_
   rw[show (if (pendingOf (af L8_5 [(0,32,3),(32,32,0)] 7)).size > 1 then (pendingOf (af L8_5 [(0,32,3),(32,32,0)] 7))[(pendingOf (af L8_5 [(0,32,3),(32,32,0)] 7)).size - 2]? else none)=some (0,32,3) from rfl]
   try dsimp only
   rw[if_neg (by decide)]
   refine ac g8_6 ?_
   rw[if_neg (by decide)]
   exact rfl
  .try dsimp only
   refine ac (a:=(af L8_6 [(0,64,3)] 7)) (st1:=(af L8_6 [(0,64,3)] 7)) rfl ?_
   rw[show (if (pendingOf (af L8_6 [(0,64,3)] 7)).size > 1 then (pendingOf (af L8_6 [(0,64,3)] 7))[(pendingOf (af L8_6 [(0,64,3)] 7)).size - 2]? else none)=none from rfl]
   exact rfl
  try dsimp only
  refine ac (a:=()) (st1:=(af L8_6 [(0,64,2)] 7)) rfl ?_
  refine ac (a:=()) (st1:=(af L8_6 [(0,64,2),(64,32,0)] 7)) rfl ?_
  exact rfl
 .try dsimp only
  rw[if_neg (by decide)]
  refine ac g8_7 ?_
  try dsimp only
  rw[if_pos (by decide)]
  refine ac (a:=()) (st1:=(af L8_7 [(0,64,2),(64,32,0)] 7)) rfl ?_
  refine ac g8_8 ?_
  rw[if_neg (by decide)]
  refine ac (a:=(af L8_8 [(0,64,2),(64,32,0)] 7)) (st1:=(af L8_8 [(0,64,2),(64,32,0)] 7)) rfl ?_
  rw[show (pendingOf (af L8_8 [(0,64,2),(64,32,0)] 7)).back?=some (64,32,0) from rfl]
  try dsimp only
  rw[Std.Legacy.Range.forIn_eq_forIn_range']
  refine ac (a:=(none,())) (st1:=(af L8_8 [(0,64,2),(64,32,0)] 7)) (bD (b1:=(none,())) (st1:=(af L8_8 [(0,64,2),(64,32,0)] 7)) ?_) ?_
  .try dsimp only
   refine ac (a:=(af L8_8 [(0,64,2),(64,32,0)] 7)) (st1:=(af L8_8 [(0,64,2),(64,32,0)] 7)) rfl ?_
   rw[show (if (pendingOf (af L8_8 [(0,64,2),(64,32,0)] 7)).size > 1 then (pendingOf (af L8_8 [(0,64,2),(64,32,0)] 7))[(pendingOf (af L8_8 [(0,64,2),(64,32,0)] 7)).size - 2]? else none)=some (0,64,2) from rfl]
   try dsimp only
   rw[if_pos (by decide)]
   exact rfl
  try dsimp only
  refine ac (a:=()) (st1:=(af L8_8 [(0,64,2),(64,32,3)] 7)) rfl ?_
  refine ac (a:=()) (st1:=(af L8_8 [(0,64,2),(64,32,3),(96,32,0)] 7)) rfl ?_
  exact rfl
 .try dsimp only
  rw[if_neg (by decide)]
  refine ac g8_9 ?_
  try dsimp only
  rw[if_pos (by decide)]
  refine ac (a:=()) (st1:=(af L8_9 [(0,64,2),(64,32,3),(96,32,0)] 7)) rfl ?_
  refine ac g8_10 ?_
  rw[if_neg (by decide)]
  refine ac (a:=(af L8_10 [(0,64,2),(64,32,3),(96,32,0)] 7)) (st1:=(af L8_10 [(0,64,2),(64,32,3),(96,32,0)] 7)) rfl ?_
  rw[show (pendingOf (af L8_10 [(0,64,2),(64,32,3),(96,32,0)] 7)).back?=some (96,32,0) from rfl]
  try dsimp only
  rw[Std.Legacy.Range.forIn_eq_forIn_range']
  refine ac (a:=(none,())) (st1:=(af L8_12 [(0,128,2)] 7)) (aU (b1:=(none,())) (st1:=(af L8_11 [(0,64,2),(64,64,3)] 7)) ?_ (aU (b1:=(none,())) (st1:=(af L8_12 [(0,128,2)] 7)) ?_ (bD (b1:=(none,())) (st1:=(af L8_12 [(0,128,2)] 7)) ?_))) ?_
  .try dsimp only
   refine ac (a:=(af L8_10 [(0,64,2),(64,32,3),(96,32,0)] 7)) (st1:=(af L8_10 [(0,64,2),(64,32,3),(96,32,0)] 7)) rfl ?_
   rw[show (if (pendingOf (af L8_10 [(0,64,2),(64,32,3),(96,32,0)] 7)).size > 1 then (pendingOf (af L8_10 [(0,64,2),(64,32,3),(96,32,0)] 7))[(pendingOf (af L8_10 [(0,64,2),(64,32,3),(96,32,0)] 7)).size - 2]? else none)=some (64,32,3) from rfl]
   try dsimp only
   rw[if_neg (by decide)]
   refine ac g8_11 ?_
   rw[if_neg (by decide)]
   exact rfl
  .try dsimp only
   refine ac (a:=(af L8_11 [(0,64,2),(64,64,3)] 7)) (st1:=(af L8_11 [(0,64,2),(64,64,3)] 7)) rfl ?_
   rw[show (if (pendingOf (af L8_11 [(0,64,2),(64,64,3)] 7)).size > 1 then (pendingOf (af L8_11 [(0,64,2),(64,64,3)] 7))[(pendingOf (af L8_11 [(0,64,2),(64,64,3)] 7)).size - 2]? else none)=some (0,64,2) from rfl]
   try dsimp only
   rw[if_neg (by decide)]
   refine ac g8_12 ?_
   rw[if_neg (by decide)]
   exact rfl
  .try dsimp only
   refine ac (a:=(af L8_12 [(0,128,2)] 7)) (st1:=(af L8_12 [(0,128,2)] 7)) rfl ?_
   rw[show (if (pendingOf (af L8_12 [(0,128,2)] 7)).size > 1 then (pendingOf (af L8_12 [(0,128,2)] 7))[(pendingOf (af L8_12 [(0,128,2)] 7)).size - 2]? else none)=none from rfl]
   exact rfl
  try dsimp only
  refine ac (a:=()) (st1:=(af L8_12 [(0,128,1)] 7)) rfl ?_
  refine ac (a:=()) (st1:=(af L8_12 [(0,128,1),(128,32,0)] 7)) rfl ?_
  exact rfl
 .try dsimp only
  rw[if_neg (by decide)]
  refine ac g8_13 ?_
  try dsimp only
  rw[if_pos (by decide)]
  refine ac (a:=()) (st1:=(af L8_13 [(0,128,1),(128,32,0)] 7)) rfl ?_
  refine ac g8_14 ?_
  rw[if_neg (by decide)]
  refine ac (a:=(af L8_14 [(0,128,1),(128,32,0)] 7)) (st1:=(af L8_14 [(0,128,1),(128,32,0)] 7)) rfl ?_
  rw[show (pendingOf (af L8_14 [(0,128,1),(128,32,0)] 7)).back?=some (128,32,0) from rfl]
  try dsimp only
  rw[Std.Legacy.Range.forIn_eq_forIn_range']
  refine ac (a:=(none,())) (st1:=(af L8_14 [(0,128,1),(128,32,0)] 7)) (bD (b1:=(none,())) (st1:=(af L8_14 [(0,128,1),(128,32,0)] 7)) ?_) ?_
  .try dsimp only
   refine ac (a:=(af L8_14 [(0,128,1),(128,32,0)] 7)) (st1:=(af L8_14 [(0,128,1),(128,32,0)] 7)) rfl ?_
   rw[show (if (pendingOf (af L8_14 [(0,128,1),(128,32,0)] 7)).size > 1 then (pendingOf (af L8_14 [(0,128,1),(128,32,0)] 7))[(pendingOf (af L8_14 [(0,128,1),(128,32,0)] 7)).size - 2]? else none)=some (0,128,1) from rfl]
   try dsimp only
   rw[if_pos (by decide)]
   exact rfl
  try dsimp only
  refine ac (a:=()) (st1:=(af L8_14 [(0,128,1),(128,32,3)] 7)) rfl ?_
  refine ac (a:=()) (st1:=(af L8_14 [(0,128,1),(128,32,3),(160,32,0)] 7)) rfl ?_
  exact rfl
 .try dsimp only
  rw[if_neg (by decide)]
  refine ac g8_15 ?_
  try dsimp only
  rw[if_pos (by decide)]
  refine ac (a:=()) (st1:=(af L8_15 [(0,128,1),(128,32,3),(160,32,0)] 7)) rfl ?_
  refine ac g8_16 ?_
  rw[if_neg (by decide)]
  refine ac (a:=(af L8_16 [(0,128,1),(128,32,3),(160,32,0)] 7)) (st1:=(af L8_16 [(0,128,1),(128,32,3),(160,32,0)] 7)) rfl ?_
  rw[show (pendingOf (af L8_16 [(0,128,1),(128,32,3),(160,32,0)] 7)).back?=some (160,32,0) from rfl]
  try dsimp only
  rw[Std.Legacy.Range.forIn_eq_forIn_range']
  refine ac (a:=(none,())) (st1:=(af L8_17 [(0,128,1),(128,64,3)] 7)) (aU (b1:=(none,())) (st1:=(af L8_17 [(0,128,1),(128,64,3)] 7)) ?_ (bD (b1:=(none,())) (st1:=(af L8_17 [(0,128,1),(128,64,3)] 7)) ?_)) ?_
  .try dsimp only
   refine ac (a:=(af L8_16 [(0,128,1),(128,32,3),(160,32,0)] 7)) (st1:=(af L8_16 [(0,128,1),(128,32,3),(160,32,0)] 7)) rfl ?_
   rw[show (if (pendingOf (af L8_16 [(0,128,1),(128,32,3),(160,32,0)] 7)).size > 1 then (pendingOf (af L8_16 [(0,128,1),(128,32,3),(160,32,0)] 7))[(pendingOf (af L8_16 [(0,128,1),(128,32,3),(160,32,0)] 7)).size - 2]? else none)=some (128,32,3) from rfl]
   try dsimp only
   rw[if_neg (by decide)]
   refine ac g8_17 ?_
   rw[if_neg (by decide)]
   exact rfl
  .try dsimp only
   refine ac (a:=(af L8_17 [(0,128,1),(128,64,3)] 7)) (st1:=(af L8_17 [(0,128,1),(128,64,3)] 7)) rfl ?_
   rw[show (if (pendingOf (af L8_17 [(0,128,1),(128,64,3)] 7)).size > 1 then (pendingOf (af L8_17 [(0,128,1),(128,64,3)] 7))[(pendingOf (af L8_17 [(0,128,1),(128,64,3)] 7)).size - 2]? else none)=some (0,128,1) from rfl]
   try dsimp only
   rw[if_pos (by decide)]
   exact rfl
  try dsimp only
  refine ac (a:=()) (st1:=(af L8_17 [(0,128,1),(128,64,2)] 7)) rfl ?_
  refine ac (a:=()) (st1:=(af L8_17 [(0,128,1),(128,64,2),(192,32,0)] 7)) rfl ?_
  exact rfl
 .try dsimp only
  rw[if_neg (by decide)]
  refine ac g8_18 ?_
  try dsimp only
  rw[if_pos (by decide)]
  refine ac (a:=()) (st1:=(af L8_18 [(0,128,1),(128,64,2),(192,32,0)] 7)) rfl ?_
  refine ac g8_19 ?_
  rw[if_neg (by decide)]
  refine ac (a:=(af L8_19 [(0,128,1),(128,64,2),(192,32,0)] 7)) (st1:=(af L8_19 [(0,128,1),(128,64,2),(192,32,0)] 7)) rfl ?_
  rw[show (pendingOf (af L8_19 [(0,128,1),(128,64,2),(192,32,0)] 7)).back?=some (192,32,0) from rfl]
  try dsimp only
  rw[Std.Legacy.Range.forIn_eq_forIn_range']
  refine ac (a:=(none,())) (st1:=(af L8_19 [(0,128,1),(128,64,2),(192,32,0)] 7)) (bD (b1:=(none,())) (st1:=(af L8_19 [(0,128,1),(128,64,2),(192,32,0)] 7)) ?_) ?_
  .try dsimp only
   refine ac (a:=(af L8_19 [(0,128,1),(128,64,2),(192,32,0)] 7)) (st1:=(af L8_19 [(0,128,1),(128,64,2),(192,32,0)] 7)) rfl ?_
   rw[show (if (pendingOf (af L8_19 [(0,128,1),(128,64,2),(192,32,0)] 7)).size > 1 then (pendingOf (af L8_19 [(0,128,1),(128,64,2),(192,32,0)] 7))[(pendingOf (af L8_19 [(0,128,1),(128,64,2),(192,32,0)] 7)).size - 2]? else none)=some (128,64,2) from rfl]
   try dsimp only
   rw[if_pos (by decide)]
   exact rfl
  try dsimp only
  refine ac (a:=()) (st1:=(af L8_19 [(0,128,1),(128,64,2),(192,32,3)] 7)) rfl ?_
  refine ac (a:=()) (st1:=(af L8_19 [(0,128,1),(128,64,2),(192,32,3),(224,32,0)] 7)) rfl ?_
  exact rfl
 .try dsimp only
  rw[if_pos (by decide)]
  exact rfl
 try dsimp only
 rw[Std.Legacy.Range.forIn_eq_forIn_range']
 refine ac (a:=(none,())) (st1:=(af L8_22 [(0,256,1)] 7)) (aU (b1:=(none,())) (st1:=(af L8_20 [(0,128,1),(128,64,2),(192,64,3)] 7)) ?_ (aU (b1:=(none,())) (st1:=(af L8_21 [(0,128,1),(128,128,2)] 7)) ?_ (aU (b1:=(none,())) (st1:=(af L8_22 [(0,256,1)] 7)) ?_ (bD (b1:=(none,())) (st1:=(af L8_22 [(0,256,1)] 7)) ?_)))) ?_
 .try dsimp only
  refine ac (a:=(af L8_19 [(0,128,1),(128,64,2),(192,32,3),(224,32,0)] 7)) (st1:=(af L8_19 [(0,128,1),(128,64,2),(192,32,3),(224,32,0)] 7)) rfl ?_
  rw[if_neg (by decide)]
  refine ac g8_20 ?_
  rw[if_neg (by decide)]
  exact rfl
 .try dsimp only
  refine ac (a:=(af L8_20 [(0,128,1),(128,64,2),(192,64,3)] 7)) (st1:=(af L8_20 [(0,128,1),(128,64,2),(192,64,3)] 7)) rfl ?_
  rw[if_neg (by decide)]
  refine ac g8_21 ?_
  rw[if_neg (by decide)]
  exact rfl
 .try dsimp only
  refine ac (a:=(af L8_21 [(0,128,1),(128,128,2)] 7)) (st1:=(af L8_21 [(0,128,1),(128,128,2)] 7)) rfl ?_
  rw[if_neg (by decide)]
  refine ac g8_22 ?_
  rw[if_neg (by decide)]
  exact rfl
 .try dsimp only
  refine ac (a:=(af L8_22 [(0,256,1)] 7)) (st1:=(af L8_22 [(0,256,1)] 7)) rfl ?_
  rw[if_pos (by decide)]
  exact rfl
 exact rfl
theorem sort8:bv φ8=some L8_22:=gu (n:=256) rfl runs8
end L2
end
section
namespace Bn
open PySem L2 L3
abbrev Pd (p:Int×Int):L3.D:=.tup [.int p.1,.int p.2]
theorem cP {bnd:L3.D->Sto->Option Sto} {b:SM} (P:Nat->Sto->Prop):∀ {ds:List L3.D} {Z:Sto} {k:Nat},P k Z->(∀ i d Z,ds[i]?=some d->P (k+i) Z->∃ Z1 Z2,bnd d Z=some Z1/\(b Z1=some (.ok .nx,Z2)\/b Z1=some (.ok .ct,Z2))/\P (k+i+1) Z2)->∃ Z',dy bnd b ds Z=some (.ok .nx,Z')/\P (k+ds.length) Z'
 | [],Z,k,h0,_=>#[Z,rfl,h0]
 | d::ds,Z,k,h0,hs=>by
  obtain ⟨Z1,Z2,e1,a,h1⟩:=hs 0 d Z rfl h0
  obtain ⟨Z',c,h3⟩:=cP P (ds:=ds) (Z:=Z2) (k:=k+1) h1 λi d Z hd e=>by
   have:=hs (i+1) d Z (by simpa using hd) (by rwa [show k+(i+1)=k+1+i by lia])
   rwa [show k+(i+1)+1=k+1+i+1 by lia] at this
  refine #[Z',?_,by rw[F5,show k+(ds.length+1)=k+1+ds.length by lia];exact h3]
  unfold dy
  simp only[e1]
  rcases a with a | a <;> simp only[ai,a,c]
theorem ph {bnd:L3.D->Sto->Option Sto} {b:SM} (P:Nat->Sto->Prop) (E:Nat->L3.D->Fl->Sto->Prop):∀ {ds:List L3.D} {Z:Sto} {k:Nat},P k Z ->
  (∀ i d Z,ds[i]?=some d->P (k+i) Z->∃ Z1 Z2,bnd d Z=some Z1/\(((b Z1=some (.ok .nx,Z2)\/b Z1=some (.ok .ct,Z2))/\P (k+i+1) Z2)\/∃ r f,b Z1=some (.ok (.rt r f),Z2)/\E (k+i) r f Z2)) ->
  ∃ Z',(dy bnd b ds Z=some (.ok .nx,Z')/\P (k+ds.length) Z')\/∃ i r f,i < ds.length/\dy bnd b ds Z=some (.ok (.rt r f),Z')/\E (k+i) r f Z'
 | [],Z,k,h0,_=>#[Z,.inl #[rfl,h0]]
 | d::ds,Z,k,h0,hs=>by
  obtain ⟨Z1,Z2,e1,h1⟩:=hs 0 d Z rfl h0
  rcases h1 with ⟨a,h1⟩ | ⟨r,f,a,h1⟩
  .obtain ⟨Z',h3⟩:=ph P E (ds:=ds) (Z:=Z2) (k:=k+1) h1 λi d Z hd g=>by
    have:=hs (i+1) d Z (by simpa using hd) (by rwa [show k+(i+1)=k+1+i by lia])
    rwa [show k+(i+1)=k+1+i by lia] at this
   have e:dy bnd b (d::ds) Z=dy bnd b ds Z2:=by
    conv=>lhs;unfold dy
    simp only[e1]
    rcases a with a | a <;> simp only[ai,a]
   rcases h3 with ⟨c,h3⟩ | ⟨i,r,f,hi,c,h3⟩
   .exact #[Z',.inl #[e.trans c,by rw[F5,show k+(ds.length+1)=k+1+ds.length by lia];exact h3]]
   .exact #[Z',.inr #[i+1,r,f,by simp;lia,e.trans c,by rw[show k+(i+1)=k+1+i by lia];exact h3]]
  .refine #[Z2,.inr #[0,r,f,by simp,?_,h1]]
   unfold dy
   simp only[e1,ai,a,bc]
theorem eY {lo:Int} {n i:Nat} {d:L3.D} (h:(bE lo n)[i]?=some d):i < n/\d=.int (lo+i):=by
 unfold bE at h
 grind
theorem dW {lo:Int} {n:Nat}:(bE lo n).length=n:=by unfold bE;simp
theorem B3 {xs:List L3.D} {m:Nat} (h:m<=xs.length):kY xs none (some (m:Int))=xs.take m:=by
 have e1:HT.sIx xs.length 0 none=0:=rfl
 have a:HT.sIx xs.length xs.length (some (m:Int))=m:=by
  simp only[HT.sIx]
  split <;> lia
 unfold kY
 rw[e1,a]
 simp
theorem Small.sub {p q:Pt} (a:Small p) (b:Small q):(-18446744073709551616 < q.1 - p.1/\q.1 - p.1 < 18446744073709551616)/\(-18446744073709551616 < q.2 - p.2/\q.2 - p.2 < 18446744073709551616):=by
 obtain ⟨a1,a2,e,f⟩:=a
 obtain ⟨b1,b2,d,c⟩:=b
 exact #[#[by lia,by lia],#[by lia,by lia]]
theorem vp {c:M3 Bool} {b:SM} (P:Nat->Sto->Prop) (Q:Sto->Prop) {n:Nat} {Z:Sto} (h0:P n Z)
  (k:∀ n Z,P n Z->(∃ Z1,c Z=some (.ok false,Z1)/\Q Z1)\/∃ Z1 Z2 m,c Z=some (.ok true,Z1)/\(b Z1=some (.ok .nx,Z2)\/b Z1=some (.ok .ct,Z2))/\m < n/\P m Z2):∃ Z',gz c b Z=some (.ok .nx,Z')/\Q Z':=by
 have main:∀ n Z,P n Z->∃ Z',b7 c b (n+1) Z=some (.ok .nx,Z')/\Q Z':=by
  intro n
  induction n using Nat.strongRecOn with
  | _ n ih =>
   intro Z j
   rcases k n Z j with ⟨Z1,e1,d⟩ | ⟨Z1,Z2,m,e1,a,hm,i⟩
   .refine #[Z1,?_,d]
    unfold b7
    simp[ai,e1,bc]
   .obtain ⟨Z',g,d⟩:=ih m hm Z2 i
    refine #[Z',?_,d]
    have f:=jS (show m+1<=n by lia) g
    unfold b7
    rcases a with a | a <;> simp[ai,e1,a,f]
 obtain ⟨Z',e,d⟩:=main n Z h0
 refine #[Z',?_,d]
 unfold gz
 have h:∃ n r,b7 c b n Z=some r:=#[_,_,e]
 rw[dif_pos h]
 have a:=Classical.choose_spec (Classical.choose_spec h)
 have g:=jS (Nat.le_max_left (n+1) (Classical.choose h)) e
 have f:=jS (Nat.le_max_right (n+1) (Classical.choose h)) a
 rw[g] at f
 exact f.symm
theorem aq {a b:SM} {Z Z1:Sto} {r:Option (Except L3.D Flw×Sto)} (h1:a Z=some (.ok .nx,Z1)) (h2:b Z1=r):aH a b Z=r:=by
 simp only[aH,ai,h1]
 exact h2
theorem iy {bnd:L3.D->Sto->Option Sto} {c:M3 Bool} {elt:EM} (P:Sto->Prop) (g:L3.D->Bool) (f:L3.D->L3.D):∀ {ds:List L3.D} {Y:Sto},P Y ->
  (∀ d∈ds,∀ Y,P Y->∃ Y1 Y2,bnd d Y=some Y1/\c Y1=some (.ok (g d),Y2)/\(g d=false->P Y2)/\(g d=true->∃ r Y3 p Y4,elt Y2=some (.ok r,Y3)/\dF r Y3=some (.ok p,Y4)/\p.1=f d/\P Y4)) ->
  ∃ Y',cr bnd c elt ds Y=some (.ok ((ds.filter g).map f),Y')/\P Y'
 | [],Y,h0,_=>#[Y,rfl,h0]
 | d::ds,Y,h0,hs=>by
  obtain ⟨Y1,Y2,e1,b,hf,j⟩:=hs d Fv Y h0
  cases a:g d with
  | false =>
   obtain ⟨Y',e,h⟩:=iy P g f (ds:=ds) (Y:=Y2) (hf a) λd hd=>hs d (Fw _ hd)
   refine #[Y',?_,h]
   unfold cr
   rw[a] at b
   simp[e1,ai,b,e,List.filter_cons,a]
  | true =>
   obtain ⟨r,Y3,p,Y4,l,m,k,i⟩:=j a
   obtain ⟨Y',e,h⟩:=iy P g f (ds:=ds) (Y:=Y4) i λd hd=>hs d (Fw _ hd)
   refine #[Y',?_,h]
   unfold cr
   rw[a] at b
   simp[e1,ai,b,l,m,e,List.filter_cons,a,bc,k]
abbrev Tri:=Nat×Nat×Nat
def mR (i j m:Nat):List Tri:=(List.range m).map λk=>(i,j,j+1+k)
def jX (n i m:Nat):List Tri:=(List.range m).flatMap λj=>mR i (i+1+j) (n - (i+1+j+1))
def oK (n m:Nat):List Tri:=(List.range m).flatMap λi=>jX n i (n - (i+1))
def jm (n:Nat):List Tri:=oK n n
theorem qm (i j m:Nat):(mR i j m).length=m:=by simp[mR]
theorem nz (n i m:Nat):jX n i (m+1)=jX n i m++mR i (i+1+m) (n - (i+1+m+1)):=by simp[jX,List.range_succ,List.flatMap_append]
theorem nB (n m:Nat):oK n (m+1)=oK n m++jX n m (n - (m+1)):=by simp[oK,List.range_succ,List.flatMap_append]
theorem za {i j m:Nat} {t:Tri} (h:t∈mR i j m):t.1=i/\t.2.1=j/\j < t.2.2/\t.2.2 < j+1+m:=by
 obtain ⟨k,a,rfl⟩:=FO.mp h
 grind
theorem qL {n:Nat} {t:Tri} (h:t∈jm n):t.1 < t.2.1/\t.2.1 < t.2.2/\t.2.2 < n:=by
 obtain ⟨i,hi,h⟩:=Gj.mp h
 obtain ⟨j,a,h⟩:=Gj.mp h
 rw[List.mem_range] at hi a
 obtain ⟨h1,h2,h3,b⟩:=za h
 exact #[by lia,by lia,by lia]
theorem ug (n i m:Nat):(jX n i m).length<=m * n:=by
 induction m with
 | zero=>simp[jX]
 | succ m ih=>rw[nz,F2,qm,Nat.succ_mul];lia
theorem A3 (n m:Nat):(oK n m).length<=m * (n * n):=by
 induction m with
 | zero=>simp[oK]
 | succ m ih =>
  rw[nB,F2,Nat.succ_mul]
  have:=ug n m (n - (m+1))
  have h2:(n - (m+1)) * n<=n * n:=Nat.mul_le_mul (by lia) (FQ _)
  lia
theorem sj {n m:Nat} (a:n<=25) (hm:m<=25):(oK n m).length<=15625:=by
 have h1:=A3 n m
 have h2:n * n<=25 * 25:=Nat.mul_le_mul a a
 have h3:m * (n * n)<=25 * (25 * 25):=Nat.mul_le_mul hm h2
 lia
theorem si {n i m:Nat} (a:n<=25) (hm:m<=25):(jX n i m).length<=625:=by
 have h1:=ug n i m
 have h2:m * n<=25 * 25:=Nat.mul_le_mul hm a
 lia
abbrev Td (t:Tri):L3.D:=.tup [.int t.1,.int t.2.1,.int t.2.2]
abbrev Shd (ps:List Pt):L3.D:=.tup (ps.map Pd)
theorem bP {im:IM} {bnd:L3.D->Sto->Option Sto} {c:M3 Bool} {elt:EM} {ix:List (Option Nat)} {Z Z1 Z2 Y:Sto} {rs:List R3} {ds out:List L3.D} (h1:im Z=some (.ok (rs,ds),Z1)) (h2:cr bnd c elt ds (tD ix (aM cK (us Z1 (pls rs)) Z1))=some (.ok out,Y)) (h3:ds.length < 16777216) (a:uncap ix Y (aM cK (us Z1 (pls rs)) Z1)=some Z2) :
  bU im bnd c elt ix Z=some (.ok (.val (.lst out) .u),aM gj (us Z1 (pls rs)) Z2):=by
 simp[bU,ai,h1,h2,h3,a]
theorem rK:∀ {ds:List L3.D},(∀ d∈ds,d=.bl true)->eM ds=some (List.replicate ds.length true)
 | [],_=>rfl
 | d::ds,h=>by
  have h1:=h d Fv
  subst h1
  have h2:=rK λd hd=>h d (Fw _ hd)
  simp[eM,h2,List.replicate_succ]
theorem oC {ds:List L3.D} (h:∀ d∈ds,d=.bl true):Fp (.lst ds)=#v[.bl true]:=by
 simp[Fp,rK h]
theorem vh {xs:List L3.D} {i:Nat} {d:L3.D} (h:xs[i]?=some d):L2.atI xs (i:Int)=some d:=by
 obtain ⟨h1,h2⟩:=FK.mp h
 simp[L2.atI,ixN,h1,h2]
theorem wU {ps:List Pt} {i:Nat} {p:Pt} (h:ps[i]?=some p):L2.atI (ps.map Pd) (i:Int)=some (Pd p):=vh (by simp[h])
theorem zy {f:List L3.D->Option (List L3.D)} {ms:M3 (List R3)} {Z Z1 Z2:Sto} {rs:List R3} {ds xs:List L3.D} (h1:ms Z=some (.ok rs,Z1)) (h2:cW rs Z1=some (.ok ds,Z2)) (h3:f ds=some xs):bI f ms Z=some (.ok ([],xs),Z2):=by
 simp[bI,ai,h1,h2,h3,bh]
theorem uh {a b:Int} (e:-1000<=a/\a<=1000) (f:-1000<=b/\b<=1000) {n:Nat} (d:(b - a).toNat=n):lP [.int a,.int b]=some (bE a n):=by
 have lm:gg a=true:=FW (by lia)
 have c:gg b=true:=FW (by lia)
 show (if (gg a && gg b)=true then some (bE a (b - a).toNat) else none)=_
 rw[lm,c,d]
 exact if_pos rfl
theorem di {b:Int} (d:-1000<=b/\b<=1000) {n:Nat} (c:b.toNat=n):cU [.int b]=some (bE 0 n):=by
 have a:gg b=true:=FW (by lia)
 show (if (gg b)=true then some (bE 0 b.toNat) else none)=_
 rw[a,c]
 exact if_pos rfl
section
variable {α:Type} {Z Z1 Z2 Z3:Sto} {ma mb mc m:EM} {ms:M3 (List R3)} {ra rb r:R3} {rs:List R3} {da db d:L3.D} {ds:List L3.D} {fl:Fl} {i n np:Nat} {sa sb:SM} {c cc:M3 Bool} {b b2:Bool} {x:Option (Except L3.D Flw×Sto)} {y:Option (Except L3.D R3×Sto)}
theorem ao {p:L3.D×Fl} (h:(Z[i]?).join=some p):ad i Z=some (.ok (.pl i),Z):=by simp[ad,h]
theorem i_c:mC d Z=some (.ok (.val d .z),Z):=rfl
theorem aJ {f:L3.D->L3.D->Option (L3.D×Fl)} (h1:ma Z=some (.ok ra,Z1)) (h2:mb Z1=some (.ok rb,Z2)) (h3:der ra Z2=some (.ok da,Z2)) (b:der rb Z2=some (.ok db,Z2)) (a:f da db=some (d,fl)):am f ma mb Z=some (.ok (.val d fl),Z2):=by
 simp only[am,ai,h1,h2,h3,b,bh,a,F7]
theorem ip {f:L3.D->Option (L3.D×Fl)} (h1:ma Z=some (.ok ra,Z1)) (h3:der ra Z1=some (.ok da,Z1)) (a:f da=some (d,fl)):mUn f ma Z=some (.ok (.val d fl),Z1):=by
 simp only[mUn,ai,h1,h3,bh,a,F7]
theorem a8 {f:List L3.D->Option (L3.D×Fl)} (h1:ms Z=some (.ok rs,Z1)) (h3:cW rs Z1=some (.ok ds,Z1)) (a:f ds=some (d,fl)):aC f ms Z=some (.ok (.val d fl),Z1):=by
 simp only[aC,ai,h1,h3,bh,a,F7]
theorem ay:ak Z=some (.ok [],Z):=rfl
theorem ah (h1:m Z=some (.ok r,Z1)) (h2:ms Z1=some (.ok rs,Z2)):aa m ms Z=some (.ok (r::rs),Z2):=by
 simp only[aa,ai,h1,h2,bc]
theorem bj {mk:List L3.D->L3.D} {f:Fl} (h1:ms Z=some (.ok rs,Z1)) (h2:gives rs Z1=some (.ok ds,Z2)) (h3:ds.length<=16777216):qT mk f ms Z=some (.ok (.val (mk ds) f),Z2):=by
 simp only[qT,ai,h1,h2,bh,h3,if_true,F7]
theorem aD {F:Fn} {ps qs:List (L3.D×Fl)} (a:F ps=some (.ok (d,fl),qs)) (h1:ms Z=some (.ok rs,Z1)) (h2:prs (frz (d8 rs) Z1) rs=some ps) (h3:qs.length=ps.length) (b:back rs ps qs (frz (d8 rs) Z1)=Z2):au F ms Z=some (.ok (.val d fl),Z2):=by
 simp only[au,ai,h1,h2,a,h3,if_true,b]
theorem fg {p:L3.D×Fl} (h1:m Z=some (.ok r,Z1)) (h2:dF r Z1=some (.ok p,Z2)) (h3:i < Z2.length) (a:Z2.set i (some p)=Z3):aX i m Z=some (.ok .nx,Z3):=by
 simp only[aX,ai,h1,h2,h3,if_true,a]
theorem i_asg {bnd:L3.D->Sto->Option Sto} {p:L3.D×Fl} (h1:m Z=some (.ok r,Z1)) (h2:dF r Z1=some (.ok p,Z2)) (h3:bnd p.1 Z2=some Z3):mQ bnd m Z=some (.ok .nx,Z3):=by
 simp only[mQ,ai,h1,h2,h3,F7]
theorem i_par {a b:L3.D} {j:Nat} (h1:ms Z=some (.ok rs,Z1)) (h2:gives rs Z1=some (.ok [a,b],Z2)) (hi:i < Z2.length) (c:j < Z2.length) (h3:(Z2.set i #v[a]).set j #v[b]=Z3):xN i j ms Z=some (.ok .nx,Z3):=by
 simp only[xN,ai,h1,h2,hi,c,and_self,if_true,h3]
theorem mn (h1:m Z=some (.ok r,Z1)):f9 m Z=some (.ok .nx,Z1):=by
 simp only[f9,ai,h1,bc]
def retF (np:Nat) (r:R3):SM:=aP np (bc r)
theorem bJ (h1:m Z=some (.ok r,Z1)) (h2:retF np r Z1=x):aP np m Z=x:=by
 rw[<- h2]
 unfold retF
 simp only[aP,ai,h1,bc]
theorem gv (h1:sa Z=some (.ok (.rt d fl),Z1)):aH sa sb Z=some (.ok (.rt d fl),Z1):=by
 simp only[aH,ai,h1,bc]
theorem cy (h1:m Z=some (.ok r,Z1)) (h2:der r Z1=some (.ok (.bl b),Z1)):cB m Z=some (.ok b,Z1):=by
 simp only[cB,ai,h1,h2,bh,asB,F7]
theorem dA (h1:c Z=some (.ok b,Z1)):dE c Z=some (.ok (!b),Z1):=by
 simp only[dE,ai,h1,bc]
theorem dH (h1:c Z=some (.ok b,Z1)) (a:b=true) (h2:sa Z1=x):sIf c sa sb Z=x:=by
 subst a;simp only[sIf,ai,h1,if_true];exact h2
theorem bX (h1:c Z=some (.ok b,Z1)) (a:b=false) (h2:sb Z1=x):sIf c sa sb Z=x:=by
 subst a;simp only[sIf,ai,h1,Ga,if_false];exact h2
theorem iZ (h1:c Z=some (.ok b,Z1)) (a:b=false) (h2:cc Z1=some (.ok b2,Z2)):cOr c cc Z=some (.ok b2,Z2):=by
 subst a;simp only[cOr,ai,h1,Ga,if_false];exact h2
theorem CA (h1:c Z=some (.ok b,Z1)) (a:b=true):cOr c cc Z=some (.ok true,Z1):=by
 subst a;simp only[cOr,ai,h1,if_true];rfl
theorem EY (h1:c Z=some (.ok b,Z1)) (a:b=true) (h2:cc Z1=some (.ok b2,Z2)):ko c cc Z=some (.ok b2,Z2):=by
 subst a;simp only[ko,ai,h1,if_true];exact h2
theorem EZ (h1:c Z=some (.ok b,Z1)) (a:b=false):ko c cc Z=some (.ok false,Z1):=by
 subst a;simp only[ko,ai,h1,Ga,if_false];rfl
theorem pe (h1:ma Z=some (.ok r,Z1)) (h2:der r Z1=some (.ok (.bl b),Z1)) (a:b=true) (h3:mb Z1=y):iS ma mb Z=y:=by
 subst a;simp only[iS,ai,h1,h2,bh,asB,F7,if_true];exact h3
theorem EV (h1:c Z=some (.ok b,Z1)) (a:b=true) (h2:ma Z1=y):mIf c ma mb Z=y:=by
 subst a;simp only[mIf,ai,h1,if_true];exact h2
theorem EW (h1:c Z=some (.ok b,Z1)) (a:b=false) (h2:mb Z1=y):mIf c ma mb Z=y:=by
 subst a;simp only[mIf,ai,h1,Ga,if_false];exact h2
theorem i_sl {f:L3.D->Option Int->Option Int->Option (L3.D×Fl)} {pl pu:M3 (Option Int)} {lo hi:Option Int} (h1:ma Z=some (.ok ra,Z1)) (h2:pl Z1=some (.ok lo,Z2)) (h3:pu Z2=some (.ok hi,Z3)) (a:der ra Z3=some (.ok da,Z3)) (b:f da lo hi=some (d,fl)):mSl f ma pl pu Z=some (.ok (.val d fl),Z3):=by
 simp only[mSl,ai,h1,h2,h3,a,bh,b,F7]
theorem BT {k:Int} (h1:m Z=some (.ok r,Z1)) (h2:der r Z1=some (.ok (.int k),Z1)):iV m Z=some (.ok (some k),Z1):=by
 simp only[iV,ai,h1,h2,bh,asI,F7]
theorem i_mut {ok:L3.D->Bool} {f:L3.D->List L3.D->Option (L3.D×L3.D)} {c b a:L3.D} (h0:(Z[i]?).join=some (d,fl)) (e:ok d=true) (h1:ms Z=some (.ok rs,Z1)) (h2:gives rs Z1=some (.ok ds,Z2)) (h3:(Z2[i]?).join=some (c,.u)) (g:f c ds=some (b,a)) (h:Z2.set i (some (b,.u))=Z3):we ok f i ms Z=some (.ok (.val a .z),Z3):=by
 simp only[we,ai,ao h0,chk,h0,e,if_true,h1,h2,h3,g,h]
theorem Cz {f:L3.D->List L3.D->Option (L3.D×L3.D)} {b a c:L3.D} (h1:mb Z=some (.ok rb,Z1)) (h0:(Z1[i]?).join=some (d,fl)) (h2:ma Z1=some (.ok ra,Z2)) (h3:gives [ra,rb] Z2=some (.ok ds,Z3)) (e:(Z3[i]?).join=some (b,.u)) (g:f b ds=some (a,c)):mP f i ma mb Z=some (.ok .nx,Z3.set i (some (a,.u))):=by
 simp only[mP,ai,h1,ao h0,h2,h3,e,g]
theorem a7 {mask:List Bool} {ps qs:List (L3.D×Fl)} (h1:ps.length=mask.length) (h0:d7 n (List.zipWith kU mask ps)=Z) (h2:sa Z=some (.ok (.rt d fl),Z1)) (h3:dC Z1 0 (List.zipWith kU mask ps)=some qs):fnM mask n sa ps=some (.ok (d,fl),qs):=by
 subst h0;simp only[fnM,h1,if_true,fn0,h2,h3,F7]
theorem F_nx {mask:List Bool} {ps qs:List (L3.D×Fl)} (h1:ps.length=mask.length) (h0:d7 n (List.zipWith kU mask ps)=Z) (h2:sa Z=some (.ok .nx,Z1)) (h3:dC Z1 0 (List.zipWith kU mask ps)=some qs):fnM mask n sa ps=some (.ok (.non,.z),qs):=by
 subst h0;simp only[fnM,h1,if_true,fn0,h2,h3,F7]
theorem gc {i j:Int} (h:-18446744073709551616 < i/\i < 18446744073709551616):dY (.int i) (.int j)=#v[.int (i * j)]:=by
 simp[cO,h]
theorem y6 {i j:Int} (h:-18446744073709551616 < j/\j < 18446744073709551616):dY (.int i) (.int j)=#v[.int (i * j)]:=by
 simp[cO,h]
theorem gh {im:IM} {bnd:L3.D->Sto->Option Sto} {o:Except L3.D Flw} (h1:im Z=some (.ok (rs,ds),Z1)) (a:us Z1 (pls rs)=[]) (h2:dy bnd sb ds Z1=some (o,Z2)):cT im bnd sb Z=some (o,Z2):=by
 have b:∀ f Z,aM f [] Z=Z:=λ_ _=>rfl
 simp only[cT,ai,h1,a,b,h2,F7]
theorem uT (h1:m Z=some (.ok r,Z1)) (h2:der r Z1=some (.ok d,Z1)) (h3:uc d=some ds):cq m Z=some (.ok ([r],ds),Z1):=by
 simp only[cq,ai,h1,h2,bh,h3,F7]
theorem eK {f:List L3.D->Option (List L3.D)} {xs:List L3.D} (h1:ms Z=some (.ok rs,Z1)) (h2:cW rs Z1=some (.ok ds,Z1)) (h3:f ds=some xs):bI f ms Z=some (.ok ([],xs),Z1):=zy h1 h2 h3
end
theorem b9 {α:Type} {bnd:L3.D->Sto->Option Sto} {c:M3 Bool} {elt:EM} (P:Sto->Prop) (D:α->L3.D) (g:α->Bool) (f:α->L3.D):∀ {xs:List α} {Y:Sto},P Y ->
  (∀ x∈xs,∀ Y,P Y->∃ Y1 Y2,bnd (D x) Y=some Y1/\c Y1=some (.ok (g x),Y2)/\(g x=false->P Y2)/\(g x=true->∃ r Y3 p Y4,elt Y2=some (.ok r,Y3)/\dF r Y3=some (.ok p,Y4)/\p.1=f x/\P Y4)) ->
  ∃ Y',cr bnd c elt (xs.map D) Y=some (.ok ((xs.filter g).map f),Y')/\P Y'
 | [],Y,h0,_=>#[Y,rfl,h0]
 | x::xs,Y,h0,hs=>by
  obtain ⟨Y1,Y2,e1,b,hf,j⟩:=hs x Fv Y h0
  cases a:g x with
  | false =>
   obtain ⟨Y',e,h⟩:=b9 P D g f (xs:=xs) (Y:=Y2) (hf a) λd hd=>hs d (Fw _ hd)
   refine #[Y',?_,h]
   rw[FV]
   unfold cr
   rw[a] at b
   simp[e1,ai,b,e,List.filter_cons,a]
  | true =>
   obtain ⟨r,Y3,p,Y4,l,m,k,i⟩:=j a
   obtain ⟨Y',e,h⟩:=b9 P D g f (xs:=xs) (Y:=Y4) i λd hd=>hs d (Fw _ hd)
   refine #[Y',?_,h]
   rw[FV]
   unfold cr
   rw[a] at b
   simp[e1,ai,b,l,m,e,List.filter_cons,a,bc,k]
section
variable {α:Type} {P:List α->Prop} {us:List α}
theorem bnd0 (h:us.length=0) (f:P []):P us:=by
 cases us with
 | nil=>exact f
 | cons a us=>cases h
theorem B8 {n:Nat} (h:us.length=n+1) (f:∀ a r,r.length=n->P (a::r)):P us:=by
 cases us with
 | nil=>cases h
 | cons a us=>exact f a us (Nat.succ.inj h)
theorem bnd1 (h:us.length=1) (f:∀ a,P [a]):P us:=B8 h λa _ h=>bnd0 (P:=λr=>P (a::r)) h (f a)
theorem bnd2 (h:us.length=2) (f:∀ a b,P [a,b]):P us:=B8 h λa _ h=>bnd1 (P:=λr=>P (a::r)) h (f a)
theorem bnd3 (h:us.length=3) (f:∀ a b c,P [a,b,c]):P us:=B8 h λa _ h=>bnd2 (P:=λr=>P (a::r)) h (f a)
theorem bnd4 (h:us.length=4) (f:∀ a b c d,P [a,b,c,d]):P us:=B8 h λa _ h=>bnd3 (P:=λr=>P (a::r)) h (f a)
end
theorem hb1 {x:Str} {st:Stmt} {b:Str} (f:∀ (kV doc pm:Value) (an:Option Addr) (a ct a0:Value),bindArgs (PySem.W.fnOf x x (aQ st) (aI st) (ag st) .none kV doc pm an a ct) #[[a0],[]]=pure ([b].zip [a0])) (kV doc pm:Value) (an:Option Addr) (a ct:Value) (us:List Value) (c:us.length=[b].length):bindArgs (PySem.W.fnOf x x (aQ st) (aI st) (ag st) .none kV doc pm an a ct) #[us,[]]=pure ([b].zip us) :=
 bnd1 (P:=λus=>bindArgs (PySem.W.fnOf x x (aQ st) (aI st) (ag st) .none kV doc pm an a ct) #[us,[]]=pure ([b].zip us)) c (f kV doc pm an a ct)
theorem hb2 {x:Str} {st:Stmt} {b c:Str} (f:∀ (kV doc pm:Value) (an:Option Addr) (a ct a0 a1:Value),bindArgs (PySem.W.fnOf x x (aQ st) (aI st) (ag st) .none kV doc pm an a ct) #[[a0,a1],[]]=pure ([b,c].zip [a0,a1])) (kV doc pm:Value) (an:Option Addr) (a ct:Value) (us:List Value) (d:us.length=[b,c].length):bindArgs (PySem.W.fnOf x x (aQ st) (aI st) (ag st) .none kV doc pm an a ct) #[us,[]]=pure ([b,c].zip us) :=
 bnd2 (P:=λus=>bindArgs (PySem.W.fnOf x x (aQ st) (aI st) (ag st) .none kV doc pm an a ct) #[us,[]]=pure ([b,c].zip us)) d (f kV doc pm an a ct)
theorem hb3 {x:Str} {st:Stmt} {b c p2:Str} (f:∀ (kV doc pm:Value) (an:Option Addr) (a ct a0 a1 a2:Value),bindArgs (PySem.W.fnOf x x (aQ st) (aI st) (ag st) .none kV doc pm an a ct) #[[a0,a1,a2],[]]=pure ([b,c,p2].zip [a0,a1,a2])) (kV doc pm:Value) (an:Option Addr) (a ct:Value) (us:List Value) (d:us.length=[b,c,p2].length):bindArgs (PySem.W.fnOf x x (aQ st) (aI st) (ag st) .none kV doc pm an a ct) #[us,[]]=pure ([b,c,p2].zip us) :=
 bnd3 (P:=λus=>bindArgs (PySem.W.fnOf x x (aQ st) (aI st) (ag st) .none kV doc pm an a ct) #[us,[]]=pure ([b,c,p2].zip us)) d (f kV doc pm an a ct)
theorem hb4 {x:Str} {st:Stmt} {b d p2 c:Str} (f:∀ (kV doc pm:Value) (an:Option Addr) (a ct a0 a1 a2 e:Value),bindArgs (PySem.W.fnOf x x (aQ st) (aI st) (ag st) .none kV doc pm an a ct) #[[a0,a1,a2,e],[]]=pure ([b,d,p2,c].zip [a0,a1,a2,e])) (kV doc pm:Value) (an:Option Addr) (a ct:Value) (us:List Value) (g:us.length=[b,d,p2,c].length):bindArgs (PySem.W.fnOf x x (aQ st) (aI st) (ag st) .none kV doc pm an a ct) #[us,[]]=pure ([b,d,p2,c].zip us) :=
 bnd4 (P:=λus=>bindArgs (PySem.W.fnOf x x (aQ st) (aI st) (ag st) .none kV doc pm an a ct) #[us,[]]=pure ([b,d,p2,c].zip us)) g (f kV doc pm an a ct)
end Bn
end
section
namespace L3
open PySem L2
def tgN:Expr->List Str
 | .Name x _=>[x]
 | .Tuple [.Name x _,.Name y _] _ _=>[x,y]
 | .Tuple [.Name x _,.Name y _,.Name z _] _ _=>[x,y,z]
 | _=>[]
def qA (tg:Expr) (N:List Str) (ix:List (Option Nat)):List Str:=tgN tg++ix.filterMap λo=>o.bind λi=>N[i]?
def ndB:List Str->Bool
 | []=>true
 | x::xs=>!(xs.any λy=>decide (y=x)) && ndB xs
theorem qF:∀ {xs:List Str},ndB xs=true->xs.Nodup
 | [],_=>.nil
 | x::xs,h=>by
  simp only[ndB,Bool.and_eq_true,Bool.not_eq_true',List.any_eq_false,decide_eq_true_eq] at h
  exact List.nodup_cons.mpr #[λm=>h.1 x m rfl,qF h.2]
section
variable {X:Cx} {G0:Gm} {W0:D->Sto->Prop} {pos:Pos}
theorem yk (g:X.calm=true) (hi:RI X G0 W0 tg iter im) (d:∀ s H C fp,PTs (aR X (qA tg X.N ix) scope s H C fp) ifs (tT X.K (bq ix) noX cm)) (he:∀ s H C fp,RE (aR X (qA tg X.N ix) scope s H C fp) (bq ix) noX elt em) (e:iw scope X.N X.env.scope (qA tg X.N ix) ix=true) (b:Inj ix) (f:∀ x,foldedSetIterable iter X.env x=pure x) (c:∃ a,Bnd X.K (bq ix).pr a bnd/\∀ s H C fp,PG (aR X (qA tg X.N ix) scope s H C fp) tg a):RE X G0 W0 (.ListComp elt [#[tg,iter,ifs,0]] scope pos) (bU im bnd cm em ix) :=
 Bb _ ix g hi d he e b f c
theorem kA {i:Nat} (l:X.N.Nodup) (k:X.N[i]?=some y) (h:Loc X.env.scope y) (m:X.calm=true) (hi:RI X G0 W0 tg iter im) (e:∀ s H C fp,PTs (aR X (qA tg X.N ix) scope s H C fp) ifs (tT X.K (bq ix) noX cm)) (he:∀ s H C fp,RE (aR X (qA tg X.N ix) scope s H C fp) (bq ix) noX elt em) (g:iw scope X.N X.env.scope (qA tg X.N ix) ix=true) (c:Inj ix) (d:swapsWith (.ListComp elt [#[tg,iter,ifs,0]] scope pos) (some (.Name y py)) spos.line X.env=pure true) (hf:X.fn y=true\/X.env.scope.names.lookup y=some .local) (j:∀ x,foldedSetIterable iter X.env x=pure x) (f:G0.pr i=false) (b:∃ a,Bnd X.K (bq ix).pr a bnd/\∀ s H C fp,PG (aR X (qA tg X.N ix) scope s H C fp) tg a):RS X G0 W0 (.Assign [.Name y py] (.ListComp elt [#[tg,iter,ifs,0]] scope pos) spos) (aX i (bU im bnd cm em ix)) :=
 sh l k h _ ix m hi e he g c d hf j f b
theorem Ba (b:Gl X tn) (j:X.mg tn=some (.ref C)) (i:IsX X.K (.ref C) cs) (c:(tn == ("__debug__":Str))=false) (k:Gl X "isinstance") (hm:X.mg "isinstance"=none) (g:RE X G0 W0 a ma) (f:starEach [a,.Name tn pT] X.env=(false,eval a X.env)::starEach [.Name tn pT] X.env) (d:starEach [.Name tn pT] X.env=(false,eval (.Name tn pT) X.env)::starEach [] X.env) (e:(backTo pos (starEach [.Name tn pT] X.env)).any (·.1)=false):RE X G0 W0 (.Call (.Name "isinstance" p) [a,.Name tn pT] [] pos) (mUn (jH cs) ma) :=
 uq (t:=V.ref C) (λ_ h=>h) i k hm (uD b j rfl c) g f d e
end
section
variable {X:Cx} {G0:Gm} {W0:D->Sto->Prop} {p q r:Pos} {m:EM} {e e1:Expr} {es:List Expr} {t:M3 Bool} {sm:SM}
theorem gN {i:Nat} (h:RE X G0 W0 (.Name x p) (ad i)):RE X G0 W0 (.Name x p) (ad i):=h
theorem gG (h:RE X G0 W0 (.Name x p) (mC d)):RE X G0 W0 (.Name x p) (mC d):=h
theorem gH (h:RE X G0 W0 (.Name x p) m):RE X G0 W0 (.Name x p) m:=h
theorem gK {k:Nat} (h:RE X G0 W0 (.Constant c k p) m):RE X G0 W0 (.Constant c k p) m:=h
theorem gB (op:Operator) (h:RE X G0 W0 (.BinOp e op e1 p) m):RE X G0 W0 (.BinOp e op e1 p) m:=h
theorem gU (op:UnaryOp) (h:RE X G0 W0 (.UnaryOp op e p) m):RE X G0 W0 (.UnaryOp op e p) m:=h
theorem gP (os:List CmpOp) (h:RE X G0 W0 (.Compare e os es p) m):RE X G0 W0 (.Compare e os es p) m:=h
theorem gO (h:RE X G0 W0 (.BoolOp op es p) m):RE X G0 W0 (.BoolOp op es p) m:=h
theorem gS (h:RE X G0 W0 (.Subscript e e1 p) m):RE X G0 W0 (.Subscript e e1 p) m:=h
theorem gL (h:RE X G0 W0 (.Subscript e (.Slice a b c p) q) m):RE X G0 W0 (.Subscript e (.Slice a b c p) q) m:=h
theorem gI (x:Str) (h:RE X G0 W0 (.Call (.Name s p) [e,.Name x q] [] r) m):RE X G0 W0 (.Call (.Name s p) [e,.Name x q] [] r) m:=h
theorem gC (x:Str) (h:RE X G0 W0 (.Call (.Name x p) es ks q) m):RE X G0 W0 (.Call (.Name x p) es ks q) m:=h
theorem gD (h:RE X G0 W0 (.Call (.Name x p) es ks q) m):RE X G0 W0 (.Call (.Name x p) es ks q) m:=h
theorem gM (x:Str) (h:RE X G0 W0 (.Call (.Attribute e x p) es ks q) m):RE X G0 W0 (.Call (.Attribute e x p) es ks q) m:=h
theorem gE (h:RE X G0 W0 e m):RE X G0 W0 e m:=h
theorem gA (h:RA X G0 W0 es ms):RA X G0 W0 es ms:=h
theorem gQ (os:List CmpOp) (h:RT X G0 W0 (.Compare e os es p) t):RT X G0 W0 (.Compare e os es p) t:=h
theorem gW (h:RT X G0 W0 (.BoolOp op es p) t):RT X G0 W0 (.BoolOp op es p) t:=h
theorem gV (h:RT X G0 W0 (.UnaryOp .Not e p) t):RT X G0 W0 (.UnaryOp .Not e p) t:=h
theorem gT (h:RT X G0 W0 e t):RT X G0 W0 e t:=h
theorem gR (h:RS X G0 W0 (.Return o p) sm):RS X G0 W0 (.Return o p) sm:=h
theorem gF (h:RS X G0 W0 (.If e ss tt p) sm):RS X G0 W0 (.If e ss tt p) sm:=h
theorem gX (h:RS X G0 W0 (.Assign [.Name x p] e q) sm):RS X G0 W0 (.Assign [.Name x p] e q) sm:=h
theorem gZ (h:RS X G0 W0 st sm):RS X G0 W0 st sm:=h
theorem gY (h:RSs X G0 W0 ss sm):RSs X G0 W0 ss sm:=h
end
end L3
end
section
namespace Bn
open PySem L2 L3
local macro_rules | `(tactic| infer_instance)=>`(tactic| first | with_reducible apply ao | with_reducible exact i_c | with_reducible apply aJ | with_reducible apply ip | with_reducible apply a8 | with_reducible exact ay | with_reducible apply ah | with_reducible apply bj | with_reducible apply fg | with_reducible apply i_asg | with_reducible apply mn | with_reducible apply bJ | with_reducible exact i_nilS | with_reducible apply cy | with_reducible apply dA | with_reducible apply i_mNot | with_reducible apply i_sl | with_reducible exact i_pNone | with_reducible apply BT | with_reducible apply i_mut | with_reducible apply Cz | with_reducible apply uT | with_reducible apply eK | with_reducible apply pe | with_reducible apply iZ)
local macro_rules | `(tactic| eq_refl)=>`(tactic| first | exact rfl | exact Nat.le_of_ble_eq_true rfl)
local macro_rules | `(tactic| nofun) => `(tactic| repeat' (first | infer_instance | eq_refl))
local macro_rules | `(tactic| exists $es,*) => `(tactic| repeat' (first | infer_instance | (first $[| exact $es]*) | eq_refl))
local macro_rules | `(tactic| nomatch [$fs,*]) => `(tactic| repeat' (first | infer_instance | (first $[| with_reducible apply aD $fs]*) | eq_refl))
local macro_rules | `(tactic| nomatch [$fs,*], [$es,*]) => `(tactic| repeat' (first | infer_instance | (first $[| with_reducible apply aD $fs]*) | (first $[| exact $es]*) | eq_refl))
section
variable {X:Cx} {G0:Gm} {W0:L3.D->Sto->Prop} {pos:Pos}
end
section
variable {P:Program} {w:World} {K:FG} {mg:Str->Option Value} {base:Heap}
local macro_rules | `(tactic| ac_rfl) => `(tactic| exact ⟨rfl,rfl,rfl,by decide +kernel,rfl,by decide +kernel,by decide +kernel⟩)
set_option hygiene false
local macro_rules | `(tactic| and_intros)=>`(tactic| repeat' (first
 | ((with_reducible apply gA);first | refine ut ?_ ?_ rfl | refine yq)
 | ((with_reducible apply gN);first | refine oM _ rfl (Or.inl rfl) (by decide) (by decide) | refine oM _ rfl (Or.inr (Or.inl rfl)) (by decide) (by decide))
 | ((with_reducible apply gG);refine qo rfl (by assumption) (by decide))
 | ((with_reducible apply gK);first | refine DJ | refine DE | refine re_bl | refine DH)
 | ((with_reducible apply gL);refine yi ?_ ?_ ?_)
 | ((with_reducible apply gS);refine re_ix (ER hr.hu) Er ?_ ?_ (λ_ _=>rfl))
 | ((with_reducible apply gB .Add);refine jZ Bu Et ?_ ?_)
 | ((with_reducible apply gB .Mult);refine jZ Em BA ?_ ?_)
 | ((with_reducible apply gB .Sub);refine jZ Ek By ?_ ?_)
 | ((with_reducible apply gB .Mod);refine jZ En BB ?_ ?_)
 | ((with_reducible apply gB .FloorDiv);refine jZ yQ BD ?_ ?_)
 | ((with_reducible apply gB .Pow);refine jZ El Bz ?_ ?_)
 | ((with_reducible apply gQ [.NotEq]);refine lO (yP hr.units) yT ?_ ?_ (eR _))
 | ((with_reducible apply gQ [.Eq]);refine lO (yR hr.units) yW ?_ ?_ (eR _))
 | ((with_reducible apply gQ [.Lt]);refine lO uG yU ?_ ?_ (eR _))
 | ((with_reducible apply gQ [.Gt]);refine lO Ct Cu ?_ ?_ (eR _))
 | ((with_reducible apply gQ [.GtE]);refine lO op_ge od_ge ?_ ?_ (eR _))
 | ((with_reducible apply gW);refine rt_w ?_)
 | ((with_reducible apply gV);refine Du ?_)
 | ((with_reducible apply gT);refine Dt ?_ (λ_=>rfl))
 | ((with_reducible apply gP [.Eq]);refine lR (yR hr.units) yW ?_ ?_ (eR _))
 | ((with_reducible apply gP [.Lt]);refine lR uG yU ?_ ?_ (eR _))
 | ((with_reducible apply gP [.LtE,.Lt]);refine qp nJ yV uG yU ?_ ?_ ?_ (λh1 h2 h3=>qx nJ uG h1 h2 h3))
 | ((with_reducible apply gP [.LtE,.LtE]);refine qp nJ yV nJ yV ?_ ?_ ?_ (λh1 h2 h3=>qx nJ nJ h1 h2 h3))
 | ((with_reducible apply gP [.Is]);refine lR Eo Es ?_ ?_ (eR _))
 | ((with_reducible apply gP [.Gt]);refine lR Ct Cu ?_ ?_ (eR _))
 | ((with_reducible apply gP [.NotEq]);refine lR (yP hr.units) yT ?_ ?_ (eR _))
 | ((with_reducible apply gO);first | refine DM ?_ ?_ | refine DF ?_)
 | ((with_reducible apply gU .USub);refine re_un CS CT ?_)
 | ((with_reducible apply gU .Not);refine DG ?_)
 | ((with_reducible apply gI "tuple");refine so mG rfl B.isinstance (lg (v:=V.ty "tuple") rfl B.tuple vg rfl (by decide) (by decide)) ?_ rfl rfl rfl)
 | ((with_reducible apply gI "int");refine so pI rfl B.isinstance (lg (v:=V.ty "int") rfl B.int CL rfl (by decide) (by decide)) ?_ rfl rfl rfl)
 | ((with_reducible apply gI "bool");refine so mW rfl B.isinstance (lg (v:=V.ty "bool") rfl B.bool Fj rfl (by decide) (by decide)) ?_ rfl rfl rfl)
 | ((with_reducible apply gI "ValueError");refine uq (t:=V.ty "ValueError") (λ_ h=>h) T_ValueError rfl B.isinstance (lg rfl Z_ValueError pR rfl (by decide) (by decide)) ?_ rfl rfl rfl)
 | ((with_reducible apply gC "len");refine dm pH Fb rfl B.len b_len ?_ (by decide) (by decide) rfl rfl)
 | ((with_reducible apply gC "isinstance");refine Ba rfl (by assumption) (by assumption) (by decide) rfl B.isinstance ?_ rfl rfl rfl)
 | ((with_reducible apply gC "all");refine dm (zZ rfl) Fc rfl B.all b_all ?_ (by decide) (by decide) rfl rfl)
 | ((with_reducible apply gC "tuple");refine jY mV E9 rfl B.tuple vg ?_ (by decide) (by decide) rfl rfl)
 | ((with_reducible apply gC "repr");refine dm (tJ hr.gd hr.units) B4 rfl B.repr Fh ?_ (by decide) (by decide) rfl rfl)
 | ((with_reducible apply gC "abs");refine dm z4 Fd rfl B.abs b_abs ?_ (by decide) (by decide) rfl rfl)
 | ((with_reducible apply gC "divmod");refine dm rA wI rfl B.divmod z9 ?_ (by decide) (by decide) rfl rfl)
 | ((with_reducible apply gC "list");refine jY pG Fa rfl B.list Fi ?_ (by decide) (by decide) rfl rfl)
 | ((with_reducible apply gC "sorted");first | refine re_ss rfl rfl B.sorted rJ rfl B.set b_set ?_ (by decide) (by decide) (by decide) (by decide) rfl rfl | refine dm (tG (Nat.lt_of_le_of_lt (Nat.add_le_add_left (by decide:2<=64) _) hr.units)) zW rfl B.sorted rJ ?_ (by decide) (by decide) rfl rfl)
 | ((with_reducible apply gC "min");refine dm (wM rfl) B5 rfl B.min b_min ?_ (by decide) (by decide) rfl rfl)
 | ((with_reducible apply gC "max");refine dm (wN rfl) B6 rfl B.max b_max ?_ (by decide) (by decide) rfl rfl)
 | ((with_reducible apply gC "int");refine jY wP B7 rfl B.int CL ?_ (by decide) (by decide) rfl rfl)
 | ((with_reducible apply gD);first | refine Bc (by assumption) (hr.mono (by first | decide | omega)) ?_ rfl (by decide) rfl rfl | refine yo (by assumption) (hr.mono (by first | decide | omega)) pa ?_ rfl (by decide) rfl rfl | refine yp (by assumption) (hr.mono (by first | decide | omega)) hD ?_ rfl (by decide) rfl rfl)
 | ((with_reducible apply gM "extend");refine um (ok:=isL) PySem.F.plainAttrs_list PySem.F.slot_list_extend PySem.F.type_list_extend vW Ex o9 (oP rfl (Or.inl rfl) (by decide) (by decide)) ?_ rfl rfl rfl rfl rfl)
 | ((with_reducible apply gM "append");refine um (ok:=isL) PySem.F.plainAttrs_list PySem.F.slot_list_append PySem.F.type_list_append vY Ey o9 (oP rfl (Or.inl rfl) (by decide) (by decide)) ?_ rfl rfl rfl rfl rfl)
 | ((with_reducible apply gM "count");refine uo (ok:=isL) PySem.F.plainAttrs_list PySem.F.slot_list_count PySem.F.type_list_count vX wJ o9 ?_ ?_ rfl rfl rfl rfl rfl)
 | ((with_reducible apply gM "index");refine uo (ok:=isL) PySem.F.plainAttrs_list PySem.F.slot_list_index PySem.F.type_list_index y7 zX o9 ?_ ?_ rfl rfl rfl rfl rfl)
 | ((with_reducible apply gH);first | refine oM _ rfl (Or.inl rfl) (by decide) (by decide) | refine oM _ rfl (Or.inr (Or.inl rfl)) (by decide) (by decide) | refine qo rfl (by assumption) (by decide))
 | ((with_reducible apply gE);first | refine DD ?_ | refine DI ?_ | refine yk rfl ?_ (λs H C fp=>?_) (λs H C fp=>?_) (by rfl) (sX (by decide)) (λ_=>rfl) #[_,iB rfl,λs H C fp=>jA (qF rfl) rfl (Or.inl rfl) (Or.inr rfl)] | refine re_if ?_ ?_ ?_ | refine yj | refine DL (key:=.inr "a") yI oQ | refine DK (ns:=[0,1]) hr.hu (by decide) (by decide) rfl oQ)
 | ((with_reducible apply gY);first | refine AX ?_ | refine xV ?_ ?_ | refine AY)
 | ((with_reducible apply gR);refine Dx _ (λi hi=>by rw[hp] ;exact Bk (by simpa using hi)) ?_)
 | ((with_reducible apply gF);refine rs_if ?_ ?_ ?_)
 | ((with_reducible apply gX);first | refine kA nd rfl (Or.inl rfl) rfl ?_ (λs H C fp=>?_) (λs H C fp=>?_) (by rfl) (sX (by decide)) rfl (Or.inl rfl) (λ_=>rfl) (by rw[hp] ;rfl) #[_,ve (kr (iB rfl) (kr (iB rfl) rH)),λs H C fp=>yG (n:=2) rfl (lU (jA (qF rfl) rfl (Or.inl rfl) (Or.inr rfl)) (lU (jA (qF rfl) rfl (Or.inl rfl) (Or.inr rfl)) uC rfl) rfl) rfl rfl] | refine kA nd rfl (Or.inl rfl) rfl ?_ (λs H C fp=>?_) (λs H C fp=>?_) (by rfl) (sX (by decide)) rfl (Or.inl rfl) (λ_=>rfl) (by rw[hp] ;rfl) #[_,iB rfl,λs H C fp=>jA (qF rfl) rfl (Or.inl rfl) (Or.inr rfl)] | refine xY _ nd rfl (Or.inl rfl) ?_ rfl (Or.inl rfl) (by rw[hp] ;rfl) | refine xY _ nd rfl (Or.inr rfl) ?_ rfl (Or.inl rfl) (by rw[hp] ;rfl))
 | ((with_reducible apply gZ);first | refine Dz PassesOwn.never rfl ?_ ?_ ?_ (λ_=>rfl) | refine AZ ?_ rfl | refine xZ (by assumption) (by assumption) mk rfl rfl (by decide) ?_ rfl | refine Dw (AK hr.hu) Ew (oP rfl (Or.inl rfl) (by decide) (by decide)) ?_ ?_ (λ_=>rfl) rfl rfl rfl | refine DA ?_ ?_ rfl rfl rfl | refine x4 ?_ | refine xX PassesOwn.never ?_ ?_ | refine Dy _ _ rfl nd rfl rfl (by decide) rfl rfl ?_ rfl rfl (by rw[hp] ;rfl) (by rw[hp] ;rfl))
 | refine uj _ nd rfl (Or.inl rfl) (Or.inl rfl) (by rw[hp] ;rfl)
 | refine DB ?_
 | refine x6
 | refine A7 rfl B.range ?_ rfl
 | refine Do ?_
 | refine rw_or ?_ ?_
 | refine yh ?_ ?_ rfl
 | refine uj _ nd rfl (Or.inr rfl) (Or.inl rfl) (by rw[hp] ;rfl)
 | refine A0 ?_
 | refine A9
 | refine DC rfl ?_ rfl rfl
 | refine x5 ?_
 | refine A6 rfl B.range ?_ rfl rfl
 | refine A8 rfl B.enumerate ?_ rfl
 | refine A2
 | refine Dv rfl rfl rfl nd rfl (by decide) (by assumption) (by assumption) rfl (.inl rfl) (by rw[hp] ;rfl) (λE pn W pa=>?_) λae ob cls hD=>have hr:=hr.mark (some (.ref ae));?_
 | refine xW ?_
 | refine AO ?_
 | refine Dp ?_ ?_))
local macro_rules | `(tactic| specialize $q) => `(tactic| exact bo D $q rfl rfl (by first | exact hb1 λ_ _ _ _ _ _ _=>rfl | exact hb2 λ_ _ _ _ _ _ _ _=>rfl | exact hb3 λ_ _ _ _ _ _ _ _ _=>rfl | exact hb4 λ_ _ _ _ _ _ _ _ _ _=>rfl) λcdv A outer s H E f G hr hp=>have nd:=($q).nd;by and_intros)
set_option hygiene true
def sL:SM:=(aP 1 (iS (mUn (jG "int") (ad 0)) (qU (mUn (jG "bool") (ad 0)))))
def ci:Fn:=fnM [false] 1 sL
theorem sc_is_whole:FnScope ["thing"] ["thing"] (ag fG):=by ac_rfl
theorem pL (B:Bl mg) (D:Def K mg "is_whole" fG):aT P w K mg base "is_whole" 1 ["thing"] ci :=by specialize sc_is_whole
def sN:SM:=(aP 1 (iS (mUn (jG "tuple") (ad 0)) (iS (am eqX (aC cL (aa (ad 0) ak)) (mC (.int 2))) (iS (au ci (aa (am aB (ad 0) (mC (.int 0))) ak)) (au ci (aa (am aB (ad 0) (mC (.int 1))) ak))))))
def fV:Fn:=fnM [false] 1 sN
theorem sc_is_point:FnScope ["thing"] ["thing"] (ag fI):=by ac_rfl
theorem pN (B:Bl mg) (D:Def K mg "is_point" fI) (a:aT P w K mg base "is_whole" 1 ["thing"] ci):aT P w K mg base "is_point" 2 ["thing"] fV :=by specialize sc_is_point
def sO:SM:=(aP 2 (iS (au ci (aa (ad 0) ak)) (eU leI ltI (mC (.int 0)) (ad 0) (ad 1))))
def fW:Fn:=fnM [false,false] 2 sO
theorem sc_is_place:FnScope ["thing","many"] ["thing","many"] (ag fJ):=by ac_rfl
theorem pO (B:Bl mg) (D:Def K mg "is_place" fJ) (a:aT P w K mg base "is_whole" 1 ["thing"] ci):aT P w K mg base "is_place" 2 ["thing","many"] fW :=by specialize sc_is_place
def bN:EM:=(au fW (aa (ad 0) (aa (ad 1) ak)))
def cH:EM:=(bU (cq (ad 0)) (aA 0) en bN [none,some 1])
def cI:EM:=(am ltI (am aB (ad 1) (ad 0)) (am aB (ad 1) (am bF (ad 0) (mC (.int 1)))))
def cG:EM:=(bU (bI cU (aa (am fA (aC cL (aa (ad 0) ak)) (mC (.int 1))) ak)) (aA 0) en cI [none,some 0])
def iR:SM:=(aH (sIf (cOr (dE (cB (mUn (jG "tuple") (ad 0)))) (dE (cB (aC rL (aa cH ak))))) (aP 2 (mC (.bl false))) bW) (aP 2 (aC rL (aa cG ak))))
def aE:Fn:=fnM [false,false] 2 iR
theorem sc_are_rising_places:FnScope ["thing","many"] ["thing","many"] (ag bG):=by ac_rfl
theorem gk (B:Bl mg) (D:Def K mg "are_rising_places" bG) (a:aT P w K mg base "is_place" 2 ["thing","many"] fW):aT P w K mg base "are_rising_places" 3 ["thing","many"] aE :=by specialize sc_are_rising_places
def dz:EM:=(au fV (aa (ad 0) ak))
def gf:EM:=(bU (cq (ad 0)) (aA 0) en dz [none])
def oX:SM:=(aP 1 (iS (eU leI leI (mC (.int 1)) (aC cL (aa (ad 0) ak)) (mC (.int (24)))) (aC rL (aa gf ak))))
def dO:Fn:=fnM [false] 1 oX
theorem sc_are_points:FnScope ["things"] ["things"] (ag dI):=by ac_rfl
theorem mH (B:Bl mg) (D:Def K mg "are_points" dI) (c:aT P w K mg base "is_point" 2 ["thing"] fV) {a:Tok} (b:mg "MOST_POINTS"=some (.int (24) a)):aT P w K mg base "are_points" 3 ["things"] dO :=by specialize sc_are_points
def cF:EM:=(am ltI (am aB (am aB (ad 1) (ad 0)) (mC (.int 0))) (am aB (am aB (ad 1) (am bF (ad 0) (mC (.int 1)))) (mC (.int 0))))
def eJ:EM:=(bU (bI cU (aa (am fA (aC cL (aa (ad 0) ak)) (mC (.int 1))) ak)) (aA 0) en cF [none,some 0])
def ig:SM:=(aP 1 (aC rL (aa eJ ak)))
def cR:Fn:=fnM [false] 1 ig
theorem sc_has_rising_x:FnScope ["points"] ["points"] (ag cA):=by ac_rfl
theorem km (B:Bl mg) (D:Def K mg "has_rising_x" cA):aT P w K mg base "has_rising_x" 1 ["points"] cR :=by specialize sc_has_rising_x
def EA:SM:=(aH (aX 3 (am dY (am fA (am aB (ad 1) (mC (.int 0))) (am aB (ad 0) (mC (.int 0)))) (am fA (am aB (ad 2) (mC (.int 1))) (am aB (ad 0) (mC (.int 1)))))) (aP 3 (am fA (ad 3) (am dY (am fA (am aB (ad 1) (mC (.int 1))) (am aB (ad 0) (mC (.int 1)))) (am fA (am aB (ad 2) (mC (.int 0))) (am aB (ad 0) (mC (.int 0))))))))
def ku:Fn:=fnM [false,false,false] 4 EA
theorem sc_bend:FnScope ["first","second","third","run"] ["first","second","third"] (ag oI):=by ac_rfl
theorem z6 (B:Bl mg) (D:Def K mg "bend" oI):aT P w K mg base "bend" 1 ["first","second","third"] ku :=by specialize sc_bend
def hU:EM:=(bg (aa (ad 1) (aa (ad 2) (aa (ad 0) ak))))
def kF:EM:=(bU (bI lP (aa (am bF (ad 3) (mC (.int 1))) (aa (ad 0) ak))) (aA 0) en hU [none,some 2,some 3])
def hV:SM:=(f9 (we isL zK 1 (aa kF ak)))
def kG:SM:=(cT (bI lP (aa (am bF (ad 2) (mC (.int 1))) (aa (ad 0) ak))) (aA 3) hV)
def zd:SM:=(aH (aX 1 (cw ak)) (aH (cT (bI cU (aa (ad 0) ak)) (aA 2) kG) (aP 1 (ad 1))))
def fh:Fn:=fnM [false] 4 zd
theorem sc_threes:FnScope ["many","found","i","j"] ["many"] (ag jn):=by ac_rfl
theorem tK (B:Bl mg) (D:Def K mg "threes" jn):aT P w K mg base "threes" 1 ["many"] fh :=by specialize sc_threes
def cg:EM:=(am aB (ad 1) (ad 0))
def d5:EM:=(bU (cq (ad 1)) (aA 0) en cg [none,some 0])
def bM:SM:=(aH (aX 2 (aC At (aa d5 ak))) (sIf (cB (am eqX (au ku (aa (am aB (ad 2) (mC (.int 0))) (aa (am aB (ad 2) (mC (.int 1))) (aa (am aB (ad 2) (mC (.int 2))) ak)))) (mC (.int 0)))) (aP 1 (ad 2)) bW))
def kS:SM:=(aH (cT (cq (au fh (aa (aC cL (aa (ad 0) ak)) ak))) (aA 1) bM) (aP 1 (mC .non)))
def cf:Fn:=fnM [false] 3 kS
theorem sc_first_on_line:FnScope ["points","three","found"] ["points"] (ag ce):=by ac_rfl
theorem jL (B:Bl mg) (D:Def K mg "first_on_line" ce) (b:aT P w K mg base "bend" 1 ["first","second","third"] ku) (a:aT P w K mg base "threes" 1 ["many"] fh):aT P w K mg base "first_on_line" 2 ["points"] cf :=by specialize sc_first_on_line
def sM:SM:=(aH (sIf (cOr (dE (cB (mUn (jG "tuple") (ad 0)))) (dE (cB (au dO (aa (ad 0) ak))))) (aP 1 (mC (.bl false))) bW) (aP 1 (iS (au cR (aa (ad 0) ak)) (am isN (au cf (aa (ad 0) ak)) (mC .non)))))
def fU:Fn:=fnM [false] 1 sM
theorem sc_is_sheet:FnScope ["thing"] ["thing"] (ag fH):=by ac_rfl
theorem pM (B:Bl mg) (D:Def K mg "is_sheet" fH) (c:aT P w K mg base "are_points" 3 ["things"] dO) (a:aT P w K mg base "first_on_line" 2 ["points"] cf) (b:aT P w K mg base "has_rising_x" 1 ["points"] cR):aT P w K mg base "is_sheet" 4 ["thing"] fU :=by specialize sc_is_sheet
def kT:SM:=(sIf (dE (cB (au fU (aa (ad 0) ak)))) (ja "NoSheet" (aa (mC (.str "this is no sheet")) ak)) bW)
def bu:Fn:=fnM [false] 1 kT
theorem sc_check_sheet:FnScope ["thing"] ["thing"] (ag dh):=by ac_rfl
theorem jM (B:Bl mg) (D:Def K mg "check_sheet" dh) (b:aT P w K mg base "is_sheet" 4 ["thing"] fU) {a:Addr} (c:XName K "NoSheet" a) (d:ECls K mg "NoSheet" a):iU P w K mg base "check_sheet" 5 ["thing"] bu :=
 iP (k:=4) D sc_check_sheet rfl rfl (hb1 λ_ _ _ _ _ _ _=>rfl) λcdv A outer s H E f G W hr hp pa mk =>
  have nd:=sc_check_sheet.nd;by and_intros
def wb:SM:=(aP 2 (mIf (cB (am gtI (au ku (aa (am aB (ad 0) (am aB (ad 1) (mC (.int 0)))) (aa (am aB (ad 0) (am aB (ad 1) (mC (.int 1)))) (aa (am aB (ad 0) (am aB (ad 1) (mC (.int 2)))) ak)))) (mC (.int 0)))) (mC (.int 1)) (mUn cV (mC (.int 1)))))
def bS:Fn:=fnM [false,false] 2 wb
theorem sc_turn_at:FnScope ["sheet","three"] ["sheet","three"] (ag iF):=by ac_rfl
theorem rB (B:Bl mg) (D:Def K mg "turn_at" iF) (a:aT P w K mg base "bend" 1 ["first","second","third"] ku):aT P w K mg base "turn_at" 2 ["sheet","three"] bS :=by specialize sc_turn_at
def bY:SM:=(mP AM 1 (ad 2) (au bS (aa (ad 0) (aa (ad 2) ak))))
def mT:SM:=(aH (f9 (dG bu (aa (ad 0) ak))) (aH (aX 1 zh) (aH (quiet (cT (cq (au fh (aa (aC cL (aa (ad 0) ak)) ak))) (aA 2) bY)) (aP 1 (ad 1)))))
def dj:Fn:=fnM [false] 3 mT
theorem sc_all_turns:FnScope ["sheet","turns","three"] ["sheet"] (ag eB):=by ac_rfl
theorem k6 (B:Bl mg) (D:Def K mg "all_turns" eB) (a:iU P w K mg base "check_sheet" 5 ["thing"] bu) (c:aT P w K mg base "threes" 1 ["many"] fh) (b:aT P w K mg base "turn_at" 2 ["sheet","three"] bS):iU P w K mg base "all_turns" 6 ["sheet"] dj :=
 iP (k:=5) D sc_all_turns rfl rfl (hb1 λ_ _ _ _ _ _ _=>rfl) λcdv A outer s H E f G W hr hp pa mk =>
  have nd:=sc_all_turns.nd;by and_intros
def dZ:EM:=(am eqX (am aB (ad 2) (mSl slD (ad 3) (iV (ad 0)) (iV (am bF (ad 0) (mC (.int 3)))))) (ad 1))
def ib:EM:=(bU (bI cU (aa (am fA (aC cL (aa (ad 1) ak)) (mC (.int 2))) ak)) (aA 0) en dZ [none,some 2,some 0,some 1])
def qO:SM:=(aP 3 (aC rL (aa ib ak)))
def eO:Fn:=fnM [false,false,false] 3 qO
theorem sc_row_bends:FnScope ["turns","row","way"] ["turns","row","way"] (ag eA):=by ac_rfl
theorem mY (B:Bl mg) (D:Def K mg "row_bends" eA):aT P w K mg base "row_bends" 1 ["turns","row","way"] eO :=by specialize sc_row_bends
def iM:SM:=(aH (aX 3 (dG dj (aa (ad 1) ak))) (aH (sIf (cOr (dE (cB (au aE (aa (ad 0) (aa (aC cL (aa (ad 1) ak)) ak))))) (cB (am ltI (aC cL (aa (ad 0) ak)) (mC (.int 2))))) (aP 3 (mC (.bl false))) bW) (aP 3 (au eO (aa (ad 3) (aa (ad 0) (aa (ad 2) ak)))))))
def ba:Fn:=fnM [false,false,false] 4 iM
theorem sc_bends:FnScope ["thing","sheet","way","turns"] ["thing","sheet","way"] (ag la):=by ac_rfl
theorem rG (B:Bl mg) (D:Def K mg "bends" la) (b:iU P w K mg base "all_turns" 6 ["sheet"] dj) (a:aT P w K mg base "are_rising_places" 3 ["thing","many"] aE) (c:aT P w K mg base "row_bends" 1 ["turns","row","way"] eO):iU P w K mg base "bends" 7 ["thing","sheet","way"] ba :=
 iP (k:=6) D sc_bends rfl rfl (hb3 λ_ _ _ _ _ _ _ _ _=>rfl) λcdv A outer s H E f G W hr hp pa mk =>
  have nd:=sc_bends.nd;by and_intros
def me:SM:=(aP 2 (dG ba (aa (ad 0) (aa (ad 1) (aa (mC (.int (1))) ak)))))
def ee:Fn:=fnM [false,false] 2 me
theorem sc_is_cup:FnScope ["thing","sheet"] ["thing","sheet"] (ag jw):=by ac_rfl
theorem pP (B:Bl mg) (D:Def K mg "is_cup" jw) (b:iU P w K mg base "bends" 7 ["thing","sheet","way"] ba) {a:Tok} (c:mg "UP"=some (.int (1) a)):iU P w K mg base "is_cup" 8 ["thing","sheet"] ee :=
 iP (k:=7) D sc_is_cup rfl rfl (hb2 λ_ _ _ _ _ _ _ _=>rfl) λcdv A outer s H E f G W hr hp pa mk =>
  have nd:=sc_is_cup.nd;by and_intros
def mf:SM:=(aP 2 (dG ba (aa (ad 0) (aa (ad 1) (aa (mC (.int (-1))) ak)))))
def eg:Fn:=fnM [false,false] 2 mf
theorem sc_is_cap:FnScope ["thing","sheet"] ["thing","sheet"] (ag jx):=by ac_rfl
theorem pQ (B:Bl mg) (D:Def K mg "is_cap" jx) (b:iU P w K mg base "bends" 7 ["thing","sheet","way"] ba) {a:Tok} (c:mg "DOWN"=some (.int (-1) a)):iU P w K mg base "is_cap" 8 ["thing","sheet"] eg :=
 iP (k:=7) D sc_is_cap rfl rfl (hb2 λ_ _ _ _ _ _ _ _=>rfl) λcdv A outer s H E f G W hr hp pa mk =>
  have nd:=sc_is_cap.nd;by and_intros
def fO:SM:=(aH (f9 (dG bu (aa (ad 0) ak))) (aH (sIf (cOr (dE (cB (dG ee (aa (ad 1) (aa (ad 0) ak))))) (dE (cB (dG eg (aa (ad 2) (aa (ad 0) ak)))))) (ja "NoRow" (aa (mC (.str "this is no cup, or no cap, of the sheet")) ak)) bW) (aH (sIf (cB (am neX (am aB (ad 1) (mUn cV (mC (.int 1)))) (am aB (ad 2) (mC (.int 0))))) (ja "Apart" (aa (mC (.str "the cap does not begin where the cup ends")) ak)) bW) (aH (sIf (cB (am eqX (au bS (aa (ad 0) (aa (bg (aa (am aB (ad 1) (mUn cV (mC (.int 2)))) (aa (am aB (ad 1) (mUn cV (mC (.int 1)))) (aa (am aB (ad 2) (mC (.int 1))) ak)))) ak))) (mC (.int (1))))) (aP 3 (bg (aa (mC (.str "cup")) (aa (am bF (ad 1) (bg (aa (am aB (ad 2) (mC (.int 1))) ak))) ak)))) bW) (aP 3 (bg (aa (mC (.str "cap")) (aa (am bF (bg (aa (am aB (ad 1) (mUn cV (mC (.int 2)))) ak)) (ad 2)) ak))))))))
def bO:Fn:=fnM [false,false,false] 3 fO
theorem sc_joined:FnScope ["sheet","cup","cap"] ["sheet","cup","cap"] (ag jv):=by ac_rfl
theorem pK (B:Bl mg) (D:Def K mg "joined" jv) (c:iU P w K mg base "check_sheet" 5 ["thing"] bu) (e:iU P w K mg base "is_cap" 8 ["thing","sheet"] eg) (d:iU P w K mg base "is_cup" 8 ["thing","sheet"] ee) (h:aT P w K mg base "turn_at" 2 ["sheet","three"] bS) {g:Tok} (n:mg "UP"=some (.int (1) g)) {a:Addr} (j:XName K "Apart" a) (i:ECls K mg "Apart" a) {b:Addr} (m:XName K "NoRow" b) (l:ECls K mg "NoRow" b):iU P w K mg base "joined" 9 ["sheet","cup","cap"] bO :=
 iP (k:=8) D sc_joined rfl rfl (hb3 λ_ _ _ _ _ _ _ _ _=>rfl) λcdv A outer s H E f G W hr hp pa mk =>
  have nd:=sc_joined.nd;by and_intros
def zf:SM:=(aH (sIf (cB (am ltI (ad 1) (aC cL (aa (ad 0) ak)))) (aP 2 (am aB (ad 0) (ad 1))) bW) (aP 2 (mC (.int 0))))
def jR:Fn:=fnM [false,false] 2 zf
theorem sc_l_cell:FnScope ["_law_script","_law_k"] ["_law_script","_law_k"] (ag jt):=by ac_rfl
theorem tQ (B:Bl mg) (D:Def K mg "_law_cell" jt):aT P w K mg base "_law_cell" 1 ["_law_script","_law_k"] jR :=by specialize sc_l_cell
def BK:SM:=(aH (aX 2 (cw (aa (mC (.int 48271)) (aa (mC (.int 69621)) (aa (mC (.int 16807)) (aa (mC (.int 39373)) (aa (mC (.int 30269)) (aa (mC (.int 40014)) (aa (mC (.int 40692)) (aa (mC (.int 50021)) (aa (mC (.int 61687)) (aa (mC (.int 71993)) (aa (mC (.int 83869)) (aa (mC (.int 95561)) (aa (mC (.int 30307)) ak))))))))))))))) (aH (aX 3 (am bF (am bF (am dY (am bF (am sI (ad 0) (mC (.int 2147483647))) (mC (.int 12345))) (am aB (ad 2) (am sI (ad 1) (mC (.int 13))))) (am dY (mC (.int 977)) (ad 1))) (am dY (mC (.int 7919)) (am wE (ad 1) (mC (.int 13)))))) (aH (aX 3 (am sI (ad 3) (mC (.int 1000000007)))) (aP 2 (am wE (am sI (am bF (am dY (ad 3) (ad 3)) (am dY (mC (.int 48271)) (ad 1))) (mC (.int 1000000007))) (mC (.int 7)))))))
def lz:Fn:=fnM [false,false] 4 BK
theorem sc_l_mix:FnScope ["_law_cell_here","_law_k","_law_some","_law_stir"] ["_law_cell_here","_law_k"] (ag k8):=by ac_rfl
theorem wR (B:Bl mg) (D:Def K mg "_law_mix" k8):aT P w K mg base "_law_mix" 1 ["_law_cell_here","_law_k"] lz :=by specialize sc_l_mix
def jc:SM:=(aX 3 (am bF (am dY (ad 3) (mC (.int 142857143))) (au lz (aa (ad 2) (aa (ad 4) ak)))))
def BL:SM:=(aH (aX 2 (au jR (aa (ad 0) (aa (ad 1) ak)))) (aH (sIf (cB (am eqX (am sI (ad 2) (mC (.int 2))) (mC (.int 0)))) (aP 2 (cw (aa (am wE (aC absD (aa (ad 2) ak)) (mC (.int 2))) ak))) bW) (aH (aX 3 (mC (.int 0))) (aH (cT (bI cU (aa (mC (.int 40)) ak)) (aA 4) jc) (aP 2 (cw (aa (ad 3) ak)))))))
def lA:Fn:=fnM [false,false] 5 BL
theorem sc_l_box:FnScope ["_law_script","_law_k","_law_cell_here","_law_number","_law_j"] ["_law_script","_law_k"] (ag k9):=by ac_rfl
theorem wS (B:Bl mg) (D:Def K mg "_law_box" k9) (a:aT P w K mg base "_law_cell" 1 ["_law_script","_law_k"] jR) (b:aT P w K mg base "_law_mix" 1 ["_law_cell_here","_law_k"] lz):aT P w K mg base "_law_box" 2 ["_law_script","_law_k"] lA :=by specialize sc_l_box
def ze:SM:=(aH (mQ (jP 2 (cu (aA 2) (cu (aA 3) jQ))) (aC zP (aa (am aB (ad 0) (mC (.int 0))) (aa (ad 1) ak)))) (aH (mP AM 0 (mC (.int 0)) (ad 2)) (aP 2 (ad 3))))
def aS:Fn:=fnM [false,false] 4 ze
theorem sc_l_take:FnScope ["_law_box_here","_law_many","_law_left","_law_digit"] ["_law_box_here","_law_many"] (ag jp):=by ac_rfl
theorem tL (B:Bl mg) (D:Def K mg "_law_take" jp):aT P w K mg base "_law_take" 1 ["_law_box_here","_law_many"] aS :=by specialize sc_l_take
def wc:SM:=(aP 1 (iS (mUn (jG "int") (ad 0)) (qU (mUn (jG "bool") (ad 0)))))
def iQ:Fn:=fnM [false] 1 wc
theorem sc_l_whole:FnScope ["_law_thing"] ["_law_thing"] (ag iG):=by ac_rfl
theorem rC (B:Bl mg) (D:Def K mg "_law_whole" iG):aT P w K mg base "_law_whole" 1 ["_law_thing"] iQ :=by specialize sc_l_whole
def zg:SM:=(aH (mQ (jP 2 (cu (aA 3) (cu (aA 4) jQ))) (ad 0)) (aH (aX 5 (am dY (am fA (am aB (ad 1) (mC (.int 0))) (ad 3)) (am fA (am aB (ad 2) (mC (.int 1))) (ad 4)))) (aP 3 (am fA (ad 5) (am dY (am fA (am aB (ad 1) (mC (.int 1))) (ad 4)) (am fA (am aB (ad 2) (mC (.int 0))) (ad 3)))))))
def d9:Fn:=fnM [false,false,false] 6 zg
theorem sc_l_bend:FnScope ["_law_one","_law_two","_law_three","_law_x","_law_y","_law_wide"] ["_law_one","_law_two","_law_three"] (ag ju):=by ac_rfl
theorem tR (B:Bl mg) (D:Def K mg "_law_bend" ju):aT P w K mg base "_law_bend" 1 ["_law_one","_law_two","_law_three"] d9 :=by specialize sc_l_bend
def du:SM:=(sIf (cB (am eqX (au d9 (aa (ad 4) (aa (ad 3) (aa (ad 1) ak)))) (mC (.int 0)))) (aP 2 (mC (.bl false))) bW)
def eI:SM:=(cT (cq (mSl slD (ad 0) nG (iV (ad 2)))) (aA 4) du)
def md:SM:=(aH (cT (mm (aa (ad 0) ak)) (jP 2 (cu (aA 2) (cu (aA 3) jQ))) eI) (aP 2 (mC (.bl true))))
def fq:Fn:=fnM [false,false] 5 md
theorem sc_l_free:FnScope ["_law_found","_law_point","_law_at","_law_one","_law_two"] ["_law_found","_law_point"] (ag js):=by ac_rfl
theorem tO (B:Bl mg) (D:Def K mg "_law_free" js) (a:aT P w K mg base "_law_bend" 1 ["_law_one","_law_two","_law_three"] d9):aT P w K mg base "_law_free" 2 ["_law_found","_law_point"] fq :=by specialize sc_l_free
def cC:M3 Bool:=(dE (cB (au fq (aa (ad 5) (aa (bg (aa (ad 4) (aa (ad 9) ak))) ak)))))
def dL:SM:=(aX 9 (am bF (ad 9) (mC (.int 1))))
def cD:SM:=(aH (aX 4 (am bF (am bF (ad 4) (mC (.int 1))) (au aS (aa (ad 0) (aa (mC (.int 3)) ak))))) (aH (aX 7 (am fA (au aS (aa (ad 0) (aa (mC (.int 31)) ak))) (mC (.int 15)))) (aH (aX 8 (cw (aa (ad 7) (aa (ad 7) (aa (am bF (am dY (ad 6) (ad 6)) (am wE (ad 7) (mC (.int 9)))) (aa (am fA (am wE (ad 7) (mC (.int 9))) (am dY (ad 6) (ad 6))) ak)))))) (aH (aX 8 (am bF (ad 8) (cw (aa (am dY (am bF (am dY (ad 6) (ad 6)) (mC (.int 30))) (am fA (mC (.int 1)) (am dY (mC (.int 2)) (am sI (ad 6) (mC (.int 2)))))) (aa (am dY (ad 7) (mC (.int 1000))) ak))))) (aH (aX 9 (am aB (ad 8) (ad 3))) (aH (gz cC dL) (f9 (we isL B9 5 (aa (bg (aa (ad 4) (aa (ad 9) ak))) ak)))))))))
def fN:EM:=(bg (aa (am bF (am dY (am sA (mC (.int 10)) (mC (.int 12))) (ad 0)) (mC (.int 7))) (aa (am dY (am sA (mC (.int 10)) (mC (.int 9))) (ad 1)) ak)))
def dJ:EM:=(bU (cq (ad 5)) (jP 2 (cu (aA 0) (cu (aA 1) jQ))) en fN [none,none])
def nO:SM:=(aH (aX 2 (am bF (mC (.int 1)) (au aS (aa (ad 0) (aa (ad 1) ak))))) (aH (aX 3 (au aS (aa (ad 0) (aa (mC (.int 6)) ak)))) (aH (aX 4 (am fA (au aS (aa (ad 0) (aa (mC (.int 9)) ak))) (mC (.int 4)))) (aH (aX 5 (cw ak)) (aH (cT (bI cU (aa (ad 2) ak)) (aA 6) cD) (aH (sIf (cB (am eqX (au aS (aa (ad 0) (aa (mC (.int 6)) ak))) (mC (.int 5)))) (aX 5 dJ) bW) (aP 2 (aC At (aa (ad 5) ak)))))))))
def fj:Fn:=fnM [false,false] 10 nO
theorem sc_l_sheet:FnScope ["_law_box_here","_law_most","_law_many","_law_kind","_law_x","_law_found","_law_k","_law_given","_law_some","_law_y"] ["_law_box_here","_law_most"] (ag iH):=by ac_rfl
theorem rD (B:Bl mg) (D:Def K mg "_law_sheet" iH) (a:aT P w K mg base "_law_free" 2 ["_law_found","_law_point"] fq) (b:aT P w K mg base "_law_take" 1 ["_law_box_here","_law_many"] aS):aT P w K mg base "_law_sheet" 3 ["_law_box_here","_law_most"] fj :=by specialize sc_l_sheet
def uL:SM:=(aH (aX 1 (cw (aa (mC .non) (aa (mC (.bl true)) (aa (mC (.bl false)) (aa (mC (.int 0)) (aa (mUn cV (mC (.int 1))) (aa (mC (.int 1)) (aa (mC (.str "")) (aa (mC (.str "1")) (aa (bg ak) (aa (cw ak) (aa (bg (aa (mC (.int 0)) ak)) (aa (bg (aa (mC (.int 0)) (aa (mC (.int 1)) ak))) (aa (cw (aa (mC (.int 0)) ak)) (aa (EC (.inr "a") 1) ak)))))))))))))))) (aH (aX 1 (am bF (ad 1) (cw (aa (am sA (mC (.int 10)) (mC (.int 29))) (aa (bg (aa (bg (aa (mC (.int 0)) (aa (mC (.int 0)) ak))) ak)) (aa (bg (aa (bg (aa (mC (.int 0)) (aa (mC (.int 1)) ak))) (aa (bg (aa (mC (.int 1)) (aa (mC (.int 2)) ak))) ak))) (aa (mC (.str "0,0")) (aa (bg (aa (mC (.int 0)) (aa (mC (.int 1)) (aa (mC (.int 2)) ak)))) (aa (EB [0,1] 2) ak))))))))) (aP 1 (am aB (ad 1) (au aS (aa (ad 0) (aa (mC (.int 20)) ak)))))))
def lw:Fn:=fnM [false] 2 uL
theorem sc_l_odd:FnScope ["_law_box_here","_law_some"] ["_law_box_here"] (ag k7):=by ac_rfl
theorem wQ (B:Bl mg) (D:Def K mg "_law_odd" k7) (a:aT P w K mg base "_law_take" 1 ["_law_box_here","_law_many"] aS):aT P w K mg base "_law_odd" 2 ["_law_box_here"] lw :=by specialize sc_l_odd
def Ez:SM:=(aP 4 (am gtI (au d9 (aa (am aB (ad 0) (ad 1)) (aa (am aB (ad 0) (ad 2)) (aa (am aB (ad 0) (ad 3)) ak)))) (mC (.int 0))))
def jg:Fn:=fnM [false,false,false,false] 4 Ez
theorem sc_l_up:FnScope ["_law_sheet_here","_law_i","_law_j","_law_k"] ["_law_sheet_here","_law_i","_law_j","_law_k"] (ag oH):=by ac_rfl
theorem z5 (B:Bl mg) (D:Def K mg "_law_up" oH) (a:aT P w K mg base "_law_bend" 1 ["_law_one","_law_two","_law_three"] d9):aT P w K mg base "_law_up" 2 ["_law_sheet_here","_law_i","_law_j","_law_k"] jg :=by specialize sc_l_up
def eS:EM:=(au iQ (aa (ad 0) ak))
def iX:EM:=(bU (cq (ad 0)) (aA 0) en eS [none])
def eT:M3 Bool:=(cOr (cB (am ltI (ad 0) (mC (.int 0)))) (cB (am geI (ad 0) (ad 1))))
def iY:EM:=(ad 0)
def iW:EM:=(bU (cq (ad 0)) (aA 0) eT iY [none,some 1])
def l8:SM:=(aH (sIf (cOr (dE (cB (mUn (jG "tuple") (ad 0)))) (dE (cB (aC rL (aa iX ak))))) (aP 2 (mC (.bl false))) bW) (aH (sIf (cB (am neX iW (cw ak))) (aP 2 (mC (.bl false))) bW) (aP 2 (am eqX (aC ED (aa (ad 0) ak)) (aC ssD (aa (ad 0) ak))))))
def fT:Fn:=fnM [false,false] 2 l8
theorem sc_l_rising:FnScope ["_law_thing","_law_many"] ["_law_thing","_law_many"] (ag fF):=by ac_rfl
theorem pJ (B:Bl mg) (D:Def K mg "_law_rising" fF) (a:aT P w K mg base "_law_whole" 1 ["_law_thing"] iQ):aT P w K mg base "_law_rising" 2 ["_law_thing","_law_many"] fT :=by specialize sc_l_rising
def cE:SM:=(sIf (cB (am neX (au jg (aa (ad 0) (aa (am aB (ad 1) (ad 3)) (aa (am aB (ad 1) (am bF (ad 3) (mC (.int 1)))) (aa (am aB (ad 1) (am bF (ad 3) (mC (.int 2)))) ak))))) (ad 2))) (aP 3 (mC (.bl false))) bW)
def j0:SM:=(aH (sIf (cOr (dE (cB (au fT (aa (ad 1) (aa (aC cL (aa (ad 0) ak)) ak))))) (cB (am ltI (aC cL (aa (ad 1) ak)) (mC (.int 2))))) (aP 3 (mC (.bl false))) bW) (aH (cT (bI cU (aa (am fA (aC cL (aa (ad 1) ak)) (mC (.int 2))) ak)) (aA 3) cE) (aP 3 (mC (.bl true)))))
def ft:Fn:=fnM [false,false,false] 4 j0
theorem sc_l_bends:FnScope ["_law_sheet_here","_law_thing","_law_up_here","_law_at"] ["_law_sheet_here","_law_thing","_law_up_here"] (ag iK):=by ac_rfl
theorem rF (B:Bl mg) (D:Def K mg "_law_bends" iK) (a:aT P w K mg base "_law_rising" 2 ["_law_thing","_law_many"] fT) (b:aT P w K mg base "_law_up" 2 ["_law_sheet_here","_law_i","_law_j","_law_k"] jg):aT P w K mg base "_law_bends" 3 ["_law_sheet_here","_law_thing","_law_up_here"] ft :=by specialize sc_l_bends
def oW:EM:=(am bF (ad 0) (bg (aa (ad 1) ak)))
def oV:EM:=(bU (cq (ad 1)) (aA 0) en oW [none,some 2])
def dM:SM:=(aX 1 (am bF (ad 1) oV))
def iL:SM:=(aH (aX 1 (cw (aa (bg ak) ak))) (aH (cT (bI cU (aa (ad 0) ak)) (aA 2) dM) (aP 1 (aC jV (aa (ad 1) ak)))))
def bp:Fn:=fnM [false] 3 iL
theorem sc_l_parts:FnScope ["_law_many","_law_found","_law_place"] ["_law_many"] (ag iI):=by ac_rfl
theorem rE (B:Bl mg) (D:Def K mg "_law_parts" iI):aT P w K mg base "_law_parts" 1 ["_law_many"] bp :=by specialize sc_l_parts
def ie:M3 Bool:=(cB (au ft (aa (ad 1) (aa (ad 0) (aa (ad 2) ak)))))
def kI:EM:=(ad 0)
def kH:EM:=(bU (cq (au bp (aa (aC cL (aa (ad 0) ak)) ak))) (aA 0) ie kI [none,some 0,some 1])
def qR:SM:=(aP 2 kH)
def fm:Fn:=fnM [false,false] 2 qR
theorem sc_l_rows:FnScope ["_law_sheet_here","_law_up_here"] ["_law_sheet_here","_law_up_here"] (ag jr):=by ac_rfl
theorem tN (B:Bl mg) (D:Def K mg "_law_rows" jr) (b:aT P w K mg base "_law_bends" 3 ["_law_sheet_here","_law_thing","_law_up_here"] ft) (a:aT P w K mg base "_law_parts" 1 ["_law_many"] bp):aT P w K mg base "_law_rows" 4 ["_law_sheet_here","_law_up_here"] fm :=by specialize sc_l_rows
def qS:SM:=(aH (sIf (cOr (dE (cB (mUn (jH [("NoSheet",true),("Apart",true),("NoRow",true)]) (ad 0)))) (dE (cB (mUn (jH [("NoSheet",true),("Apart",true),("NoRow",true)]) (ad 0))))) (aP 1 (mC (.str "other"))) bW) (aH (aX 1 (cw (aa (mUn (jH [("NoSheet",true),("Apart",false),("NoRow",false)]) (ad 0)) (aa (mUn (jH [("NoSheet",false),("Apart",false),("NoRow",false)]) (ad 0)) (aa (mUn (jH [("NoSheet",false),("Apart",false),("NoRow",false)]) (ad 0)) (aa (mUn (jH [("NoSheet",false),("Apart",false),("NoRow",true)]) (ad 0)) ak)))))) (aH (aX 1 (am bF (ad 1) (cw (aa (mUn (jH [("NoSheet",false),("Apart",true),("NoRow",false)]) (ad 0)) (aa (mUn (jH [("NoSheet",false),("Apart",false),("NoRow",false)]) (ad 0)) (aa (mUn (jH [("NoSheet",false),("Apart",false),("NoRow",false)]) (ad 0)) (aa (mUn (jH [("NoSheet",false),("Apart",false),("NoRow",false)]) (ad 0)) ak))))))) (aH (aX 1 (am bF (ad 1) (cw (aa (mUn (jH [("NoSheet",false),("Apart",false),("NoRow",false)]) (ad 0)) (aa (mUn (jH [("NoSheet",false),("Apart",false),("NoRow",false)]) (ad 0)) ak))))) (aH (sIf (cB (am neX (uM isL CK (ad 1) (aa (mC (.bl true)) ak)) (mC (.int 1)))) (aP 1 (mC (.str "other"))) bW) (aH (aX 2 (cw (aa (mC (.str "sheet")) (aa (mC (.str "place")) (aa (mC (.str "number")) (aa (mC (.str "row")) (aa (mC (.str "apart")) (aa (mC (.str "ring")) (aa (mC (.str "many")) (aa (mC (.str "bare")) (aa (mC (.str "line")) (aa (mC (.str "text")) ak)))))))))))) (aP 1 (am aB (ad 2) (uM isL idxD (ad 1) (aa (mC (.bl true)) ak))))))))))
def iC:Fn:=fnM [false] 3 qS
theorem sc_l_marks:FnScope ["_law_e","_law_found","_law_words"] ["_law_e"] (ag iJ):=by ac_rfl
theorem mZ (B:Bl mg) (D:Def K mg "_law_marks" iJ) {j:Addr} (L:mg "Apart"=some (.ref j)) (N:IsX K (.ref j) [("NoSheet",false),("Apart",true),("NoRow",false)]) {m:Addr} (R:mg "Bare"=some (.ref m)) (Q:IsX K (.ref m) [("NoSheet",false),("Apart",false),("NoRow",false)]) {a:Addr} (o:mg "BentError"=some (.ref a)) (n:IsX K (.ref a) [("NoSheet",true),("Apart",true),("NoRow",true)]) {b:Addr} (p:mg "NoNumber"=some (.ref b)) (q:IsX K (.ref b) [("NoSheet",false),("Apart",false),("NoRow",false)]) {d:Addr} (r:mg "NoPlace"=some (.ref d)) (t:IsX K (.ref d) [("NoSheet",false),("Apart",false),("NoRow",false)]) {h:Addr} (C:mg "NoRing"=some (.ref h)) (J:IsX K (.ref h) [("NoSheet",false),("Apart",false),("NoRow",false)]) {l:Addr} (M:mg "NoRow"=some (.ref l)) (σ:IsX K (.ref l) [("NoSheet",false),("Apart",false),("NoRow",true)]) {e:Addr} (x:mg "NoSheet"=some (.ref e)) (y:IsX K (.ref e) [("NoSheet",true),("Apart",false),("NoRow",false)]) {g:Addr} (E:mg "NoText"=some (.ref g)) (F:IsX K (.ref g) [("NoSheet",false),("Apart",false),("NoRow",false)]) {i:Addr} (z:mg "OnLine"=some (.ref i)) (I:IsX K (.ref i) [("NoSheet",false),("Apart",false),("NoRow",false)]) {c:Addr} (v:mg "TooMany"=some (.ref c)) (u:IsX K (.ref c) [("NoSheet",false),("Apart",false),("NoRow",false)]) (Z_ValueError:mg "ValueError"=none) (T_ValueError:IsX K (.type "ValueError") [("NoSheet",true),("Apart",true),("NoRow",true)]):Ce P w K mg base "_law_marks" 1 ["_law_e"] iC :=
 BY (k:=0) D sc_l_marks rfl rfl (hb1 λ_ _ _ _ _ _ _=>rfl) λcdv A outer s H f G hr hD hp =>
  have nd:=sc_l_marks.nd;by and_intros
def dq:SM:=(aP 3 (dG bO (aa (ad 0) (aa (ad 1) (aa (ad 2) ak)))))
def eG:SM:=(aP 3 (au iC (aa (ad 3) ak)))
def l7:SM:=(oJ ["NoSheet","Apart","NoRow"] 3 dq eG)
def cb:Fn:=fnM [false,false,false] 4 l7
theorem sc_l_said:FnScope ["_law_sheet_here","_law_cup","_law_cap","_law_e"] ["_law_sheet_here","_law_cup","_law_cap"] (ag jq):=by ac_rfl
theorem tM (B:Bl mg) (D:Def K mg "_law_said" jq) (b:Ce P w K mg base "_law_marks" 1 ["_law_e"] iC) (e:iU P w K mg base "joined" 9 ["sheet","cup","cap"] bO) {a:Addr} (c:mg "BentError"=some (.ref a)) (d:ExX K a ["NoSheet","Apart","NoRow"]):aT P w K mg base "_law_said" 10 ["_law_sheet_here","_law_cup","_law_cap"] cb :=
 BZ (k:=9) D sc_l_said rfl rfl (hb3 λ_ _ _ _ _ _ _ _ _=>rfl) λcdv A outer s H E f G hr hp =>
  have nd:=sc_l_said.nd;by and_intros
def l6:M3 Bool:=(cB (am eqX (am aB (ad 0) (mC (.int 0))) (am aB (ad 1) (mUn cV (mC (.int 1))))))
def qQ:EM:=(ad 0)
def qP:EM:=(bU (cq (ad 5)) (aA 0) l6 qQ [none,some 10])
def ic:SM:=(aH (aX 10 (am aB (ad 4) (au aS (aa (ad 2) (aa (aC cL (aa (ad 4) ak)) ak))))) (aH (aX 11 (am aB (ad 5) (au aS (aa (ad 2) (aa (aC cL (aa (ad 5) ak)) ak))))) (aH (aX 12 qP) (aH (sIf (ko (cB (am neX (ad 12) (cw ak))) (cB (am gtI (au aS (aa (ad 2) (aa (mC (.int 3)) ak))) (mC (.int 0))))) (aX 11 (am aB (ad 12) (au aS (aa (ad 2) (aa (aC cL (aa (ad 12) ak)) ak))))) bW) (aH (aX 13 (mC (.str "apart"))) (aH (sIf (cB (am eqX (am aB (ad 10) (mUn cV (mC (.int 1)))) (am aB (ad 11) (mC (.int 0))))) (aH (aX 13 (bg (aa (mC (.str "cap")) (aa (am bF (bg (aa (am aB (ad 10) (mUn cV (mC (.int 2)))) ak)) (ad 11)) ak)))) (sIf (cB (au jg (aa (ad 3) (aa (am aB (ad 10) (mUn cV (mC (.int 2)))) (aa (am aB (ad 10) (mUn cV (mC (.int 1)))) (aa (am aB (ad 11) (mC (.int 1))) ak)))))) (aX 13 (bg (aa (mC (.str "cup")) (aa (am bF (ad 10) (bg (aa (am aB (ad 11) (mC (.int 1))) ak))) ak)))) bW)) bW) (sIf (cB (am neX (aC gb (aa (au cb (aa (ad 3) (aa (ad 10) (aa (ad 11) ak)))) ak)) (aC gb (aa (ad 13) ak)))) (aP 1 (mC (.bl false))) bW)))))))
def jE:SM:=(sIf (cOr (cB (am neX (au cb (aa (ad 3) (aa (ad 9) (aa (ad 8) ak)))) (mC (.str "row")))) (cB (am neX (au cb (aa (ad 3) (aa (ad 8) (aa (ad 9) ak)))) (mC (.str "row"))))) (aP 1 (mC (.bl false))) bW)
def jD:SM:=(aH (aX 2 (au lA (aa (ad 0) (aa (ad 1) ak)))) (aH (aX 3 (au fj (aa (ad 2) (aa (mC (.int 8)) ak)))) (aH (xN 4 5 (aa (au fm (aa (ad 3) (aa (mC (.bl true)) ak))) (aa (au fm (aa (ad 3) (aa (mC (.bl false)) ak))) ak))) (aH (cT (bI cU (aa (am dY (mC (.int 9)) (aC zx (aa (am neX (ad 4) (cw ak)) ak))) ak)) (aA 6) ic) (aH (aX 7 (au lw (aa (ad 2) ak))) (aH (aX 8 (bg (aa (mC (.int 0)) (aa (mC (.int 1)) ak)))) (cT (cq (cw (aa (bg ak) (aa (bg (aa (mC (.int 0)) ak)) (aa (bg (aa (mC (.int 1)) (aa (mC (.int 0)) ak))) (aa (bg (aa (mC (.int 0)) (aa (aC cL (aa (ad 3) ak)) ak))) (aa (cw (aa (mC (.int 0)) (aa (mC (.int 1)) ak))) (aa (bg (aa (mC (.int 0)) (aa (mC (.bl true)) ak))) (aa (mC .non) (aa (bg (aa (mUn cV (mC (.int 1))) (aa (mC (.int 0)) ak))) (aa (bg (aa (ad 7) ak)) ak))))))))))) (aA 9) jE)))))))
def m_law:SM:=(aH (cT (bI cU (aa (aC Cy (aa (mC (.int 1)) (aa (aC Cw (aa (aC cL (aa (ad 0) ak)) (aa (mC (.int 4)) ak))) ak))) ak)) (aA 1) jD) (aP 1 (mC (.bl true))))
def CN:Fn:=fnM [false] 14 m_law
theorem sc_law:FnScope ["_law_script","_law_go","_law_box_here","_law_sheet_here","_law_cups","_law_caps","_law_lap","_law_odd_here","_law_good","_law_thing","_law_cup","_law_cap","_law_meet","_law_due"] ["_law_script"] (ag gx):=by ac_rfl
theorem BW {f:Addr} {fd:FuncData} (B:Bl mg) (D:Fun K "law" "law" gx f fd) (e:aT P w K mg base "_law_box" 2 ["_law_script","_law_k"] lA) (g:aT P w K mg base "_law_odd" 2 ["_law_box_here"] lw) (b:aT P w K mg base "_law_rows" 4 ["_law_sheet_here","_law_up_here"] fm) (c:aT P w K mg base "_law_said" 10 ["_law_sheet_here","_law_cup","_law_cap"] cb) (a:aT P w K mg base "_law_sheet" 3 ["_law_box_here","_law_most"] fj) (d:aT P w K mg base "_law_take" 1 ["_law_box_here","_law_many"] aS) (h:aT P w K mg base "_law_up" 2 ["_law_sheet_here","_law_i","_law_j","_law_k"] jg):FnOk P w K mg base CX0 11 f fd ["_law_script"] (rV K CN) :=
 E4 (k:=10) D sc_law rfl rfl λcdv A outer s H E f G hr hp =>
  have nd:=sc_law.nd;by and_intros
end
theorem nt (i:Int):ci [(.int i,.z)]=some (.ok (.bl true,.z),[(.int i,.z)]):=by
 apply a7 (Z:=[#v[.int i]]) rfl rfl
 .nofun
 .rfl
theorem vL (p:Pt):fV [(Pd p,.z)]=some (.ok (.bl true,.z),[(Pd p,.z)]):=by
 apply a7 (Z:=[#v[Pd p]]) rfl rfl
 .nomatch [(nt _)]
 .rfl
theorem uU {f c:L3.D->L3.D->Option (L3.D×Fl)} {ma mb mc:EM} {ra rb rc:R3} {Z Z1 Z2 Z3:Sto} {da db b e d:L3.D} {fl a:Fl} (h1:ma Z=some (.ok ra,Z1)) (h2:mb Z1=some (.ok rb,Z2)) (h3:der ra Z2=some (.ok da,Z2)) (g:der rb Z2=some (.ok db,Z2)) (h:f da db=some (.bl true,fl)) (l:mc Z2=some (.ok rc,Z3)) (j:der rb Z3=some (.ok b,Z3)) (k:der rc Z3=some (.ok e,Z3)) (i:c b e=some (d,a)):eU f c ma mb mc Z=some (.ok (.val d a),Z3):=by
 simp only[eU,ai,h1,h2,h3,g,h,bh,Option.bind_some,asB,F7,if_true,l,j,k,i]
theorem xU (ps:List Pt) (h0:0 < ps.length) (h1:ps.length<=24):dO [(Shd ps,.z)]=some (.ok (.bl true,.z),[(Shd ps,.z)]):=by
 obtain ⟨Y',e,a,rfl⟩:=iy (bnd:=aA 0) (c:=en) (elt:=dz) (λY=>∃ a,Y=[a]) (λ_=>true) (λ_=>.bl true) (ds:=ps.map Pd) (Y:=[none]) #[none,rfl] (by
  rintro d hd Y ⟨a,rfl⟩
  obtain ⟨p,j,rfl⟩:=FO.mp hd
  exact #[[#v[Pd p]],_,rfl,rfl,(λh=>by cases h),λ_=>#[.val (.bl true) .z,[#v[Pd p]],(.bl true,.z),[#v[Pd p]],by unfold dz;(nomatch [(vL _)]),rfl,rfl,_,rfl]])
 have f:=oC (ds:=((ps.map Pd).filter λ_=>true).map λ_=>.bl true) (λd hd=>by obtain ⟨_,_,rfl⟩:=FO.mp hd;rfl)
 generalize ((ps.map Pd).filter λ_=>true).map (λ_=>L3.D.bl true)=out at *
 have i:gf [#v[Shd ps]]=some (.ok (.val (.lst out) .u),[#v[Shd ps]]):=bP (im:=cq (ad 0)) (ix:=[none]) (Z1:=[#v[Shd ps]]) (Z2:=[#v[Shd ps]]) (ds:=ps.map Pd) (rs:=[.pl 0]) rfl e (by simp;lia) rfl
 have g:leI (.int 1) (.int ((ps.map Pd).length:Int))=#v[.bl true]:=by simp[cO];lia
 have b:leI (.int ((ps.map Pd).length:Int)) (.int 24)=#v[.bl true]:=by simp[cO];lia
 apply a7 (Z:=[#v[Shd ps]]) rfl rfl
 .apply bJ
  .apply pe
   .apply uU
    .exact i_c
    .nofun
    .rfl
    .rfl
    .exact g
    .exact i_c
    .rfl
    .rfl
    .exact b
   .rfl
   .rfl
   ·(repeat' (first | with_reducible exact i | infer_instance | exact f | eq_refl))
  .rfl
 .rfl
theorem fv {xs:List L3.D} {k:Int} {d:L3.D} (h:L2.atI xs k=some d):aB (.tup xs) (.int k)=#v[d]:=by
 show orD ixD kO (.tup xs) (.int k)=_
 simp[orD,ixD,h]
theorem t6 {xs:List L3.D} {k:Int} {d:L3.D} (h:L2.atI xs k=some d):aB (.lst xs) (.int k)=#v[d]:=by
 show orD ixD kO (.lst xs) (.int k)=_
 simp[orD,ixD,h]
theorem xQ (ps:List Pt) (h0:0 < ps.length) (h1:ps.length<=24) (R:Rising ps):cR [(Shd ps,.z)]=some (.ok (.bl true,.z),[(Shd ps,.z)]):=by
 obtain ⟨Y',e,a,rfl⟩:=iy (bnd:=aA 0) (c:=en) (elt:=cF) (λY=>∃ a,Y=[a,#v[Shd ps]]) (λ_=>true) (λ_=>.bl true) (ds:=bE 0 (ps.length - 1)) (Y:=[none,#v[Shd ps]]) #[none,rfl] (by
  rintro d hd Y ⟨a,rfl⟩
  obtain ⟨i,hi⟩:=List.getElem?_of_mem hd
  obtain ⟨hi,rfl⟩:=eY hi
  have g:ps[i]?=some ps[i]:=FE _
  have f:ps[i+1]?=some ps[i+1]:=FE _
  have b:=R i (i+1) _ _ (by lia) g f
  have a1:aB (Shd ps) (.int (0+(i:Int)))=#v[Pd ps[i]]:=fv (by rw[Int.zero_add];exact wU g)
  have a2:aB (Shd ps) (.int (0+(i:Int)+1))=#v[Pd ps[i+1]]:=fv (by rw[Int.zero_add];exact wU f)
  have k:ltI (.int ps[i].1) (.int ps[i+1].1)=#v[.bl true]:=by simp[cO,b]
  generalize (0+(i:Int))=j at *
  refine #[[#v[.int j],#v[Shd ps]],_,rfl,rfl,(λh=>by cases h),λ_=>#[.val (.bl true) .z,[#v[.int j],#v[Shd ps]],(.bl true,.z),[#v[.int j],#v[Shd ps]],?_,rfl,rfl,_,rfl]]
  unfold cF
  (exists a1,a2,k))
 have o:((ps.length:Int) - 1).toNat=ps.length - 1:=by lia
 have l:cU [.int (((ps.map Pd).length:Int) - 1)]=some (bE 0 (ps.length - 1)):=di (by simp;lia) (by simp)
 have n:=oC (ds:=((bE 0 (ps.length - 1)).filter λ_=>true).map λ_=>.bl true) (λd hd=>by obtain ⟨_,_,rfl⟩:=FO.mp hd;rfl)
 generalize ((bE 0 (ps.length - 1)).filter λ_=>true).map (λ_=>L3.D.bl true)=out at *
 have m:eJ [#v[Shd ps]]=some (.ok (.val (.lst out) .u),[#v[Shd ps]]):=bP (Z1:=[#v[Shd ps]]) (rs:=[]) (by (repeat' (first | with_reducible apply eK (h3:=l) | infer_instance | eq_refl))) e (by rw[dW];lia) rfl
 apply a7 (Z:=[#v[Shd ps]]) rfl rfl
 .unfold ig;(repeat' (first | with_reducible exact m | infer_instance | exact n | eq_refl))
 .rfl
theorem nv (p q r:Int×Int) (h1:-18446744073709551616 < q.1 - p.1/\q.1 - p.1 < 18446744073709551616) (h2:-18446744073709551616 < q.2 - p.2/\q.2 - p.2 < 18446744073709551616):ku [(Pd p,.z),(Pd q,.z),(Pd r,.z)]=some (.ok (.int (aZ p q r),.z),[(Pd p,.z),(Pd q,.z),(Pd r,.z)]):=by
 apply a7 (Z:=[#v[Pd p],#v[Pd q],#v[Pd r],none]) rfl rfl
 .apply aq
  .exists gc h1
  .exists gc h2
 .rfl
theorem xk {n i j:Nat} (xs:List L3.D) (k:n<=25) (l:j < n) (elt:EM) (he:∀ (a b c:L3.D),elt [#v[c],#v[a],#v[b]]=some (.ok (.val (.tup [a,b,c]) .z),[#v[c],#v[a],#v[b]])) :
  bU (bI lP (aa (am bF (ad 3) (mC (.int 1))) (aa (ad 0) ak))) (aA 0) en elt [none,some 2,some 3] [#v[.int n],some (.lst xs,.u),#v[.int i],#v[.int j]]=some (.ok (.val (.lst ((mR i j (n - (j+1))).map Td)) .u),[#v[.int n],some (.lst xs,.u),#v[.int i],#v[.int j]]):=by
 obtain ⟨Y',e,a,rfl⟩:=iy (bnd:=aA 0) (c:=en) (elt:=elt) (λY=>∃ a,Y=[a,#v[.int i],#v[.int j]]) (λ_=>true) (λd=>.tup [.int i,.int j,d]) (ds:=bE ((j:Int)+1) (n - (j+1))) (Y:=[none,#v[.int i],#v[.int j]]) #[none,rfl] (by
  rintro d hd Y ⟨a,rfl⟩
  exact #[[#v[d],#v[.int i],#v[.int j]],_,rfl,rfl,(λh=>by cases h),λ_=>#[_,_,(.tup [.int i,.int j,d],.z),_,he _ _ _,rfl,rfl,_,rfl]])
 have g:((bE ((j:Int)+1) (n - (j+1))).filter λ_=>true).map (λd=>L3.D.tup [.int i,.int j,d])=(mR i j (n - (j+1))).map Td:=by
  rw[Gi.mpr (λ_ _=>rfl)]
  simp[bE,mR,Function.comp_def]
 rw[g] at e
 have f:lP [.int ((j:Int)+1),.int n]=some (bE ((j:Int)+1) (n - (j+1))):=uh (by lia) (by lia) (by lia)
 exact bP (rs:=[]) (by (repeat' (first | with_reducible apply eK (h3:=f) | infer_instance | eq_refl))) e (by rw[dW];lia) rfl
theorem E6 {A B:List L3.D} (h:A.length+B.length<=16777216):zK (.lst A) [.lst B]=some (.lst (A++B),.non):=by simp[zK,h]
theorem Fm {A:List L3.D} {d:L3.D} (h:A.length < 16777216):B9 (.lst A) [d]=some (.lst (A++[d]),.non):=by simp[B9,h]
theorem lu {A B:List L3.D} (h:A.length+B.length<=16777216):bF (.tup A) (.tup B)=#v[.tup (A++B)]:=by simp[orD,cO,tw,tv,tz,h]
theorem vw {n:Nat} (l:n<=25) {b1 b2:SM} (h2:b2=cT (bI lP (aa (am bF (ad 2) (mC (.int 1))) (aa (ad 0) ak))) (aA 3) b1)
  (h1:∀ (i j:Nat) (xs:List L3.D),j < n->xs.length<=20000->b1 [#v[.int n],some (.lst xs,.u),#v[.int i],#v[.int j]]=some (.ok .nx,[#v[.int n],some (.lst (xs++(mR i j (n - (j+1))).map Td),.u),#v[.int i],#v[.int j]])) :
  ∃ v2 a,cT (bI cU (aa (ad 0) ak)) (aA 2) b2 [#v[.int n],some (.lst [],.u),none,none]=some (.ok .nx,[#v[.int n],some (.lst ((jm n).map Td),.u),v2,a]):=by
 have inner:∀ (i:Nat) (xs:List Tri) (a:Option (L3.D×Fl)),i < n->xs.length<=15625->∃ f,b2 [#v[.int n],some (.lst (xs.map Td),.u),#v[.int i],a]=some (.ok .nx,[#v[.int n],some (.lst ((xs++jX n i (n - (i+1))).map Td),.u),#v[.int i],f]):=by
  intro i xs a hi o
  obtain ⟨Z',e,f,rfl⟩:=cP (bnd:=aA 3) (b:=b1) (λm Z=>∃ a,Z=[#v[.int n],some (.lst ((xs++jX n i m).map Td),.u),#v[.int i],a]) (ds:=bE ((i:Int)+1) (n - (i+1))) (Z:=[#v[.int n],some (.lst (xs.map Td),.u),#v[.int i],a]) (k:=0) #[a,by simp[jX]] (by
   rintro m d Z hd ⟨a,rfl⟩
   obtain ⟨hm,rfl⟩:=eY hd
   have h:((xs++jX n i m).map Td).length<=20000:=by
    have:=si (n:=n) (i:=i) (m:=m) l (by lia)
    simp only[FJ,F2]
    lia
   have c:=h1 i (i+1+m) ((xs++jX n i m).map Td) (by lia) h
   rw[show ((i+1+m:Nat):Int)=(i:Int)+1+m by lia,<- List.map_append,List.append_assoc,<- nz] at c
   exact #[_,_,by rw[FZ];rfl,.inl c,_,by rw[FZ]])
  refine #[f,?_]
  rw[dW,FZ] at e
  have g:lP [.int ((i:Int)+1),.int n]=some (bE ((i:Int)+1) (n - (i+1))):=uh (by lia) (by lia) (by lia)
  rw[h2]
  apply gh
  ·(repeat' (first | with_reducible apply eK (h3:=g) | infer_instance | eq_refl))
  .rfl
  .exact e
 obtain ⟨Z',e,v2,a,rfl⟩:=cP (bnd:=aA 2) (b:=b2) (λm Z=>∃ v2 a,Z=[#v[.int n],some (.lst ((oK n m).map Td),.u),v2,a]) (ds:=bE 0 n) (Z:=[#v[.int n],some (.lst [],.u),none,none]) (k:=0) #[none,none,rfl] (by
  rintro m d Z hd ⟨v2,a,rfl⟩
  obtain ⟨hm,rfl⟩:=eY hd
  rw[FZ,Int.zero_add]
  obtain ⟨f,e⟩:=inner m (oK n m) a hm (sj l (by lia))
  rw[<- nB] at e
  exact #[_,_,rfl,.inl e,_,_,rfl])
 rw[dW,FZ] at e
 have g:cU [.int (n:Int)]=some (bE 0 n):=di (by lia) (by lia)
 refine #[v2,a,?_]
 apply gh
 ·(repeat' (first | with_reducible apply eK (h3:=g) | infer_instance | eq_refl))
 .rfl
 .exact e
theorem lL (n:Nat) (d:n<=25):fh [(.int n,.z)]=some (.ok (.lst ((jm n).map Td),.u),[(.int n,.z)]):=by
 obtain ⟨v2,k,e⟩:=vw (n:=n) d (b1:=hV) (b2:=kG) rfl (by
  intro i j xs f h
  have c:=xk (n:=n) (i:=i) (j:=j) xs d f hU (λa b c=>by unfold hU;(nofun))
  have g:xs.length+((mR i j (n - (j+1))).map Td).length<=16777216:=by
   rw[FJ,qm];lia
  unfold hV kF
  (repeat' (first | with_reducible exact c | infer_instance | exact E6 g | eq_refl)))
 apply a7 (Z:=[#v[.int n],none,none,none]) rfl rfl
 .apply aq
  .nofun
  .apply aq
   .exact e
   .nofun
 .rfl
theorem BH {i j:Int}:neX (.int i) (.int j)=#v[.bl (!decide (i=j))]:=rfl
theorem zI {S:List L3.D} {i j k:Int} {p q r:Pt} {v2:Option (L3.D×Fl)} (a1:aB (.tup S) (.int i)=#v[Pd p]) (a2:aB (.tup S) (.int j)=#v[Pd q]) (n:aB (.tup S) (.int k)=#v[Pd r]) (e:Small p) (f:Small q) (h0:aZ p q r≠0):bM [#v[.tup S],#v[.tup [.int i,.int j,.int k]],v2]=some (.ok .nx,[#v[.tup S],#v[.tup [.int i,.int j,.int k]],#v[.tup [Pd p,Pd q,Pd r]]]):=by
 have b:=nv p q r (Small.sub e f).1 (Small.sub e f).2
 have one:∀ (x d:L3.D) (a:Option (L3.D×Fl)),aB (.tup S) x=#v[d]->cg [#v[x],#v[.tup S]]=some (.ok (.val d .z),[#v[x],#v[.tup S]]):=λx d a h=>by unfold cg;(exists h)
 have c:d5 [#v[.tup S],#v[.tup [.int i,.int j,.int k]],v2]=some (.ok (.val (.lst [Pd p,Pd q,Pd r]) .u),[#v[.tup S],#v[.tup [.int i,.int j,.int k]],v2]):=by
  refine bP (Z1:=[#v[.tup S],#v[.tup [.int i,.int j,.int k]],v2]) (Z2:=[#v[.tup S],#v[.tup [.int i,.int j,.int k]],v2]) (ds:=[.int i,.int j,.int k]) (rs:=[.pl 1]) (Y:=[#v[.int k],#v[.tup S]]) rfl ?_ (by simp) rfl
  have e1:=one (.int i) _ none a1
  have g:=one (.int j) _ none a2
  have m:=one (.int k) _ none n
  have l:∀ d a,aA 0 d [a,#v[L3.D.tup S]]=some [#v[d],#v[.tup S]]:=λ_ _=>rfl
  have cs:tD [none,some 0] (aM cK (us [#v[L3.D.tup S],#v[.tup [.int i,.int j,.int k]],v2] (pls [R3.pl 1])) [#v[.tup S],#v[.tup [.int i,.int j,.int k]],v2])=[none,#v[.tup S]]:=rfl
  rw[cs]
  simp only[cr,l,en,ai,bc,if_true,e1,g,m,dF,nol]
 unfold bM
 apply aq
 ·(repeat' (first | with_reducible exact c | infer_instance | eq_refl))
 .apply bX
  .nomatch [b]
  .exact FX h0
  .rfl
theorem AV (ps:List Pt) (o:ps.length<=24) (h:∀ p∈ps,Small p) (j:NoLine ps):cf [(Shd ps,.z)]=some (.ok (.non,.z),[(Shd ps,.z)]):=by
 have a:=lL ps.length (by lia)
 rw[show (ps.length:Int)=((ps.map Pd).length:Int) by rw[FJ]] at a
 obtain ⟨Z',e,v1,v2,rfl⟩:=cP (bnd:=aA 1) (b:=bM) (λ_ Z=>∃ v1 v2,Z=[#v[Shd ps],v1,v2]) (ds:=(jm ps.length).map Td) (Z:=[#v[Shd ps],none,none]) (k:=0) #[none,none,rfl] (by
  rintro m d Z hd ⟨v1,v2,rfl⟩
  rw[FP,Fz] at hd
  obtain ⟨t,a,rfl⟩:=hd
  obtain ⟨l,i,n⟩:=qL (FL a)
  have f:ps[t.1]?=some (ps[t.1]'(by lia)):=FE _
  have c:ps[t.2.1]?=some (ps[t.2.1]'(by lia)):=FE _
  have g:ps[t.2.2]?=some (ps[t.2.2]'(by lia)):=FE _
  have b:=zI (v2:=v2) (fv (wU f)) (fv (wU c)) (fv (wU g)) (h _ (FL f)) (h _ (FL c)) (j _ _ _ _ _ _ l i f c g)
  exact #[[#v[Shd ps],#v[Td t],v2],_,rfl,.inl b,_,_,rfl])
 apply a7 (Z:=[#v[Shd ps],none,none]) rfl rfl
 .apply aq
  .apply gh
   .nomatch [a]
   .rfl
   .exact e
  .nofun
 .rfl
theorem qj {ps:List Pt} (g:GoodSh ps):fU [(Shd ps,.z)]=some (.ok (.bl true,.z),[(Shd ps,.z)]):=by
 have h1:=xU ps g.pos g.most
 have h2:=xQ ps g.pos g.most g.rising
 have h3:=AV ps g.most g.small g.noline
 apply a7 (Z:=[#v[Shd ps]]) rfl rfl
 .apply aq
  .apply bX
   .nomatch [h1]
   .rfl
   .rfl
  .nomatch [h2,h3]
 .rfl
theorem jW {ps:List Pt} (g:GoodSh ps):bu [(Shd ps,.z)]=some (.ok (.non,.z),[(Shd ps,.z)]):=by
 have h1:=qj g
 apply F_nx (Z:=[#v[Shd ps]]) rfl rfl
 .apply bX
  .nomatch [h1]
  .rfl
  .rfl
 .rfl
def lC (p q r:Pt):Int:=if 0 < aZ p q r then 1 else -1
theorem lK {S:List L3.D} {i j k:Int} {p q r:Pt} (a1:aB (.tup S) (.int i)=#v[Pd p]) (a2:aB (.tup S) (.int j)=#v[Pd q]) (c:aB (.tup S) (.int k)=#v[Pd r]) (a:Small p) (d:Small q):bS [(.tup S,.z),(.tup [.int i,.int j,.int k],.z)]=some (.ok (.int (lC p q r),.z),[(.tup S,.z),(.tup [.int i,.int j,.int k],.z)]):=by
 have b:=nv p q r (Small.sub a d).1 (Small.sub a d).2
 by_cases h:0 < aZ p q r
 .rw[show lC p q r=1 from if_pos h]
  apply a7 (Z:=[#v[.tup S],#v[.tup [.int i,.int j,.int k]]]) rfl rfl
  .apply bJ
   .apply EV
    .nomatch [b],[a1,a2,c]
    .exact FW h
    .exact i_c
   .rfl
  .rfl
 .rw[show lC p q r = -1 from if_neg h]
  apply a7 (Z:=[#v[.tup S],#v[.tup [.int i,.int j,.int k]]]) rfl rfl
  .apply bJ
   .apply EW
    .nomatch [b],[a1,a2,c]
    .exact FX h
    .nofun
   .rfl
  .rfl
theorem eL (c:Int) (m:Int) (h:0 < m):0<=c % m/\c % m < m:=#[Int.emod_nonneg _ (by lia),Int.emod_lt_of_pos _ h]
theorem dU (n m:Int) (h:0 < m/\m < 1073741824):aS [(.lst [.int n],.u),(.int m,.z)]=some (.ok (.int (n % m),.z),[(.lst [.int (n / m)],.u),(.int m,.z)]):=by
 have hd:zP [.int n,.int m]=#v[.tup [.int (n / m),.int (n % m)]]:=by simp[c2,jJ,h]
 apply a7 (Z:=[some (.lst [.int n],.u),#v[.int m],none,none]) rfl rfl
 .apply aq
  .exists hd
  .apply aq
   .nofun
   .nofun
 .rfl
theorem qk (p q r:Int×Int) (h1:-18446744073709551616 < q.1 - p.1/\q.1 - p.1 < 18446744073709551616) (h2:-18446744073709551616 < q.2 - p.2/\q.2 - p.2 < 18446744073709551616):d9 [(Pd p,.z),(Pd q,.z),(Pd r,.z)]=some (.ok (.int (aZ p q r),.z),[(Pd p,.z),(Pd q,.z),(Pd r,.z)]):=by
 apply a7 (Z:=[#v[Pd p],#v[Pd q],#v[Pd r],none,none,none]) rfl rfl
 .apply aq
  .nofun
  apply aq
  .exists gc h1
  .exists gc h2
 .rfl
theorem xT (ns:List Int) (k:Nat):∃ n:Int,jR [(.fls (ns.map .int),.z),(.int k,.z)]=some (.ok (.int n,.z),[(.fls (ns.map .int),.z),(.int k,.z)]):=by
 by_cases h:k < ns.length
 .refine #[ns[k],?_]
  have a:aB (.fls (ns.map .int)) (.int (k:Int))=#v[.int ns[k]]:=by
   have:L2.atI (ns.map L3.D.int) (k:Int)=some (.int ns[k]):=vh (by simp[h])
   simp[orD,ixD,this]
  have b:(k:Int) < ((ns.map L3.D.int).length:Int):=by simp;lia
  generalize (k:Int)=kk at *
  apply a7 (Z:=[#v[.fls (ns.map .int)],#v[.int kk]]) rfl rfl
  .apply gv
   apply dH
   .nofun
   .exact FW b
   .exists a
  .rfl
 .refine #[0,?_]
  have b:¬ (k:Int) < ((ns.map L3.D.int).length:Int):=by simp;lia
  generalize (k:Int)=kk at *
  apply a7 (Z:=[#v[.fls (ns.map .int)],#v[.int kk]]) rfl rfl
  .apply aq
   .apply bX
    .nofun
    .exact FX b
    .rfl
   .nofun
  .rfl
theorem AT (c j:Int):∃ n:Int,lz [(.int c,.z),(.int j,.z)]=some (.ok (.int n,.z),[(.int c,.z),(.int j,.z)]):=by
 have a:=eL c 2147483647 (by decide)
 have b:=eL j 13 (by decide)
 obtain ⟨m,hm⟩:∃ m:Nat,j % 13=m:=#[(j % 13).toNat,by lia]
 have e:m < 13:=by lia
 have d:∃ v:Int,aB (.lst [.int 48271,.int 69621,.int 16807,.int 39373,.int 30269,.int 40014,.int 40692,.int 50021,.int 61687,.int 71993,.int 83869,.int 95561,.int 30307]) (.int (j % 13))=#v[.int v]:=by
  rw[hm]
  clear hm
  match m,e with
  | 0,_=>exact #[_,rfl]
  | 1,_=>exact #[_,rfl]
  | 2,_=>exact #[_,rfl]
  | 3,_=>exact #[_,rfl]
  | 4,_=>exact #[_,rfl]
  | 5,_=>exact #[_,rfl]
  | 6,_=>exact #[_,rfl]
  | 7,_=>exact #[_,rfl]
  | 8,_=>exact #[_,rfl]
  | 9,_=>exact #[_,rfl]
  | 10,_=>exact #[_,rfl]
  | 11,_=>exact #[_,rfl]
  | 12,_=>exact #[_,rfl]
 obtain ⟨v,f⟩:=d
 have c1:-18446744073709551616 < c % 2147483647+12345/\c % 2147483647+12345 < 18446744073709551616:=by lia
 have c2:∀ z:Int,-18446744073709551616 < z % 1000000007/\z % 1000000007 < 18446744073709551616:=λz=>by
  have:=eL z 1000000007 (by decide)
  lia
 apply Exists.intro
 apply a7 (Z:=[#v[.int c],#v[.int j],none,none]) rfl rfl
 .apply aq
  .nofun
  apply aq
  .exists f,gc (by decide),gc c1
  apply aq
  .nofun
  .exists gc (by decide),gc (c2 _)
 .rfl
theorem AW (ns:List Int) (k:Nat):∃ n:Int,lA [(.fls (ns.map .int),.z),(.int k,.z)]=some (.ok (.lst [.int n],.u),[(.fls (ns.map .int),.z),(.int k,.z)]):=by
 obtain ⟨c,a⟩:=xT ns k
 generalize L3.D.fls (ns.map .int)=S at *
 generalize L3.D.int (k:Int)=kk at *
 by_cases h:c % 2=0
 .apply Exists.intro
  apply a7 (Z:=[#v[S],#v[kk],none,none,none]) rfl rfl
  .apply aq
   .nomatch [a]
   apply gv
   apply dH
   .nofun
   .exact FW h
   .nofun
  .rfl
 .obtain ⟨Z',e,n,v4,rfl⟩:=cP (bnd:=aA 4) (b:=jc) (λ_ Z=>∃ (n:Int) (v4:Option (L3.D×Fl)),Z=[#v[S],#v[kk],#v[.int c],#v[.int n],v4]) (ds:=bE 0 40) (Z:=[#v[S],#v[kk],#v[.int c],#v[.int 0],none]) (k:=0) #[0,none,rfl] (by
   rintro i d Z hd ⟨n,v4,rfl⟩
   obtain ⟨hi,rfl⟩:=eY hd
   obtain ⟨m,hm⟩:=AT c (0+(i:Int))
   generalize (0+(i:Int))=j at *
   exact #[_,[#v[S],#v[kk],#v[.int c],#v[.int (n * 142857143+m)],#v[.int j]],rfl,.inl (by unfold jc;(nomatch [hm],[y6 (by decide)])),_,_,rfl])
  refine #[n,?_]
  apply a7 (Z:=[#v[S],#v[kk],none,none,none]) rfl rfl
  .apply aq
   .nomatch [a]
   apply aq
   .apply bX
    .nofun
    .exact FX h
    .rfl
   apply aq
   .nofun
   apply aq
   .apply gh
    .exact eK (by (nofun)) rfl (di (n:=40) (by decide) (by decide))
    .rfl
    .exact e
   .nofun
  .rfl
theorem zG {X ρ:L3.D} {f:Fl} {k:L3.D} {p q:L3.D} {b:Int} (a:d9 [(p,.z),(q,.z),(ρ,.z)]=some (.ok (.int b,.z),[(p,.z),(q,.z),(ρ,.z)])) :
  du [some (X,f),#v[ρ],#v[k],#v[q],#v[p]]=some (.ok (if b=0 then .rt (.bl false) .z else .nx),[some (X,f),#v[ρ],#v[k],#v[q],#v[p]]):=by
 by_cases h:b=0
 .rw[if_pos h]
  apply dH
  .nomatch [a]
  .exact FW h
  .nofun
 .rw[if_neg h]
  apply bX
  .nomatch [a]
  .exact FX h
  .rfl
theorem xS (ps:List Pt) (z:Pt) (y:∀ p∈ps,Small p) (F:ps.length<=24):∃ b:Bool,fq [(.lst (ps.map Pd),.u),(Pd z,.z)]=some (.ok (.bl b,.z),[(.lst (ps.map Pd),.u),(Pd z,.z)])/\(b=true->Aj ps z)/\(b=false->∃ (i j:Nat) (p q:Pt),i < j/\ps[i]?=some p/\ps[j]?=some q/\aZ p q z=0):=by
 have inner:∀ (i:Nat) (q:Pt) (v4:Option (L3.D×Fl)),ps[i]?=some q->∃ a,dy (aA 4) du ((ps.take i).map Pd) [some (.lst (ps.map Pd),.l),#v[Pd z],#v[.int i],#v[Pd q],v4]=some (.ok .nx,[some (.lst (ps.map Pd),.l),#v[Pd z],#v[.int i],#v[Pd q],a])/\(∀ j p,j < i->ps[j]?=some p->aZ p q z≠0) \/
   dy (aA 4) du ((ps.take i).map Pd) [some (.lst (ps.map Pd),.l),#v[Pd z],#v[.int i],#v[Pd q],v4]=some (.ok (.rt (.bl false) .z),[some (.lst (ps.map Pd),.l),#v[Pd z],#v[.int i],#v[Pd q],a])/\∃ j p,j < i/\ps[j]?=some p/\aZ p q z=0:=by
  intro i q v4 t
  have hi:i < ps.length:=(FK.mp t).1
  obtain ⟨Z',h⟩:=ph (bnd:=aA 4) (b:=du) (λm Z=>∃ v4,Z=[some (.lst (ps.map Pd),.l),#v[Pd z],#v[.int i],#v[Pd q],v4]/\∀ j p,j < m->ps[j]?=some p->aZ p q z≠0)
   (λm r f Z=>r=.bl false/\f=.z/\∃ v4,Z=[some (.lst (ps.map Pd),.l),#v[Pd z],#v[.int i],#v[Pd q],v4]/\∃ p,ps[m]?=some p/\aZ p q z=0)
   (ds:=(ps.take i).map Pd) (Z:=[some (.lst (ps.map Pd),.l),#v[Pd z],#v[.int i],#v[Pd q],v4]) (k:=0) #[v4,rfl,λj p h=>absurd h (Nat.not_lt_zero _)] (by
    rintro m d Z hd ⟨v4,rfl,x⟩
    rw[FP,Fz] at hd
    obtain ⟨p,g,rfl⟩:=hd
    have n:ps[m]?=some p/\m < i:=by
     rw[List.getElem?_take] at g
     split at g
     .exact #[g,by assumption]
     .cases g
    have sm:=Small.sub (y p (FL n.1)) (y q (FL t))
    have rb:=qk p q z sm.1 sm.2
    have rb:=zG (X:=.lst (ps.map Pd)) (f:=.l) (k:=.int (i:Int)) rb
    by_cases h0:aZ p q z=0
    .rw[if_pos h0] at rb
     exact #[_,_,rfl,.inr #[.bl false,.z,rb,rfl,rfl,_,rfl,p,by simpa using n.1,h0]]
    .rw[if_neg h0] at rb
     refine #[_,_,rfl,.inl #[.inl rb,_,rfl,λj B o s=>?_]]
     by_cases e:j=m
     .subst e;rw[n.1] at s;cases s;exact h0
     .exact x j B (by lia) s)
  rcases h with ⟨e,a,rfl,h⟩ | ⟨m,r,f,hm,e,rfl,rfl,a,rfl,p,g,h0⟩
  .exact #[a,.inl #[e,λj p o=>h j p (by simp;lia)]]
  .refine #[a,.inr #[e,m,p,by simp at hm;lia,by simpa using g,h0]]
 obtain ⟨Z',h⟩:=ph (bnd:=jP 2 (cu (aA 2) (cu (aA 3) jQ))) (b:=eI) (λm Z=>∃ v2 w v4,Z=[some (.lst (ps.map Pd),.l),#v[Pd z],v2,w,v4]/\∀ i j p q,i < j->j < m->ps[i]?=some p->ps[j]?=some q->aZ p q z≠0)
   (λm r f Z=>r=.bl false/\f=.z/\∃ v2 w v4,Z=[some (.lst (ps.map Pd),.l),#v[Pd z],v2,w,v4]/\∃ (i j:Nat) (p q:Pt),i < j/\ps[i]?=some p/\ps[j]?=some q/\aZ p q z=0)
   (ds:=ir 0 (ps.map Pd)) (Z:=[some (.lst (ps.map Pd),.l),#v[Pd z],none,none,none]) (k:=0) #[_,_,_,rfl,λi j p q _ h=>absurd h (Nat.not_lt_zero _)] (by
    rintro m d Z hd ⟨v2,w,v4,rfl,x⟩
    rw[kh,FP,Option.map_map,Fz] at hd
    obtain ⟨q,t,rfl⟩:=hd
    have hm:m < ps.length:=(FK.mp t).1
    obtain ⟨a,h⟩:=inner m q v4 t
    have sl:=B3 (xs:=ps.map Pd) (m:=m) (by simp;lia)
    rw[<- List.map_take] at sl
    rcases h with ⟨e,h⟩ | ⟨e,j,p,o,g,h0⟩
    .refine #[_,[some (.lst (ps.map Pd),.l),#v[Pd z],#v[.int m],#v[Pd q],a],by simp[aA,jP,cu,jQ];rfl,.inl #[.inl (by simp[eI,ai,bc,bh,der,ad,mC,am,mUn,ak,aa,cW,aC,bW,aH,aP,ue,aX,mQ,sIf,f9,dF,lowAt,nol,frz,wv,pls,gives,qT,orD,cO,ixD,kO,aA,jQ,cu,jP,fnM,fn0,d7,dC,kU,c1,c2,jJ,mP,qf,sD,kD,mSl,slD,nG,iV,asI,cB,ko,cOr,dE,iS,mOr,qU,mIf,eU,asB,eqS,eqA,au,prs,d8,back,jG,nR,kW,cV,isN,BF,kM,mU,Ad,xg,zk,orC,tw,tv,tz,L2.atI,ixN,cT,cq,uc,-List.map_take,sl,aM,us,e]),_,_,_,rfl,λi j p C c o hi v=>?_]]
     by_cases E:j=m
     .subst E;rw[t] at v;cases v;exact h i p c hi
     .exact x i j p C c (by lia) hi v
    .refine #[_,[some (.lst (ps.map Pd),.l),#v[Pd z],#v[.int m],#v[Pd q],a],by simp[aA,jP,cu,jQ];rfl,.inr #[.bl false,.z,by simp[eI,ai,bc,bh,der,ad,mC,am,mUn,ak,aa,cW,aC,bW,aH,aP,ue,aX,mQ,sIf,f9,dF,lowAt,nol,frz,wv,pls,gives,qT,orD,cO,ixD,kO,aA,jQ,cu,jP,fnM,fn0,d7,dC,kU,c1,c2,jJ,mP,qf,sD,kD,mSl,slD,nG,iV,asI,cB,ko,cOr,dE,iS,mOr,qU,mIf,eU,asB,eqS,eqA,au,prs,d8,back,jG,nR,kW,cV,isN,BF,kM,mU,Ad,xg,zk,orC,tw,tv,tz,L2.atI,ixN,cT,cq,uc,-List.map_take,sl,aM,us,e],rfl,rfl,_,_,_,rfl,j,m,p,q,o,g,t,h0]])
 rcases h with ⟨e,v2,w,v4,rfl,h⟩ | ⟨m,r,f,hm,e,rfl,rfl,v2,w,v4,rfl,A⟩
 .refine #[true,?_,λ_ i j p q c hi o=>h i j p q c ?_ hi o,λh=>by cases h]
  .simp[fq,md,ai,bc,bh,der,ad,mC,am,mUn,ak,aa,cW,aC,bW,aH,aP,ue,aX,mQ,sIf,f9,dF,lowAt,nol,frz,wv,pls,gives,qT,orD,cO,ixD,kO,aA,jQ,cu,jP,fnM,fn0,d7,dC,kU,c1,c2,jJ,mP,qf,sD,kD,mSl,slD,nG,iV,asI,cB,ko,cOr,dE,iS,mOr,qU,mIf,eU,asB,eqS,eqA,au,prs,d8,back,jG,nR,kW,cV,isN,BF,kM,mU,Ad,xg,zk,orC,tw,tv,tz,L2.atI,ixN,cT,mm,aM,us,jC,cK,gj,e]
  .have:=(FK.mp o).1
   simp[kg];lia
 .refine #[false,?_,λh=>(by cases h),λ_=>A]
  simp[fq,md,ai,bc,bh,der,ad,mC,am,mUn,ak,aa,cW,aC,bW,aH,aP,ue,aX,mQ,sIf,f9,dF,lowAt,nol,frz,wv,pls,gives,qT,orD,cO,ixD,kO,aA,jQ,cu,jP,fnM,fn0,d7,dC,kU,c1,c2,jJ,mP,qf,sD,kD,mSl,slD,nG,iV,asI,cB,ko,cOr,dE,iS,mOr,qU,mIf,eU,asB,eqS,eqA,au,prs,d8,back,jG,nR,kW,cV,isN,BF,kM,mU,Ad,xg,zk,orC,tw,tv,tz,L2.atI,ixN,cT,mm,aM,us,jC,cK,gj,e]
theorem sq_le {i:Nat} (h:i < 12):0<=(i:Int) * (i:Int)/\(i:Int) * (i:Int)<=144:=by
 have h1:i * i<=12 * 12:=Nat.mul_le_mul (by lia) (by lia)
 have h2:(i:Int) * (i:Int)=((i * i:Nat):Int):=by simp
 rw[h2];lia
theorem Ao {i:Nat} {g kd:Int} (hi:i < 12) (d:-15<=g) (g1:g<=15) (k0:0<=kd) (k1:kd < 6) :
  ∃ y:Int,aB (.lst [.int g,.int g,.int ((i:Int) * i+g / 9),.int (g / 9 - (i:Int) * i),.int (((i:Int) * i+30) * (1 - 2 * ((i:Int) % 2))),.int (g * 1000)]) (.int kd)=#v[.int y]/\-16000<=y/\y<=16000:=by
 obtain ⟨c,b⟩:=sq_le hi
 obtain ⟨j,rfl⟩:∃ j:Nat,kd=(j:Int):=#[kd.toNat,by lia]
 have a:j < 6:=by lia
 generalize (i:Int) * (i:Int)=qq at *
 have hm:(qq+30) * (1 - 2 * ((i:Int) % 2))<=16000/\-16000<=(qq+30) * (1 - 2 * ((i:Int) % 2)):=by
  rcases Int.emod_two_eq (i:Int) with e | e
  .rw[e];simp;lia
  .rw[e];simp;lia
 generalize (qq+30) * (1 - 2 * ((i:Int) % 2))=zz at *
 match j,a with
 | 0,_=>exact #[_,rfl,by lia,by lia]
 | 1,_=>exact #[_,rfl,by lia,by lia]
 | 2,_=>exact #[_,rfl,by lia,by lia]
 | 3,_=>exact #[_,rfl,by lia,by lia]
 | 4,_=>exact #[_,rfl,by lia,by lia]
 | 5,_=>exact #[_,rfl,by lia,by lia]
abbrev cZ (n most many kd x:Int) (ps:List Pt) (v6 v7 v8 v9:Option (L3.D×Fl)):Sto:=[some (.lst [.int n],.u),#v[.int most],#v[.int many],#v[.int kd],#v[.int x],some (.lst (ps.map Pd),.u),v6,v7,v8,v9]
theorem se {n most many kd x y0:Int} {ps:List Pt} {v6 v7 v8:Option (L3.D×Fl)} (R:Rising ps) (k:∀ p∈ps,Small p) (r:ps.length<=12) :
  ∃ y,gz cC dL (cZ n most many kd x ps v6 v7 v8 #v[.int y0])=some (.ok .nx,cZ n most many kd x ps v6 v7 v8 #v[.int y])/\Aj ps (x,y)/\y0<=y/\y<=y0+144:=by
 have g:above ps x y0<=144:=by
  have h1:=Af ps x y0
  have h2:ps.length * ps.length<=12 * 12:=Nat.mul_le_mul (by lia) (by lia)
  lia
 obtain ⟨Z',e,y,rfl,hf,h1,h2⟩:=vp (c:=cC) (b:=dL) (λm Z=>∃ y:Int,Z=cZ n most many kd x ps v6 v7 v8 #v[.int y]/\m=above ps x y/\y0<=y/\y+(above ps x y:Int)<=y0+(above ps x y0:Int))
  (λZ=>∃ y:Int,Z=cZ n most many kd x ps v6 v7 v8 #v[.int y]/\Aj ps (x,y)/\y0<=y/\y<=y0+144) (Z:=cZ n most many kd x ps v6 v7 v8 #v[.int y0]) #[y0,rfl,rfl,Int.le_refl _,Int.le_refl _] (by
   rintro m Z ⟨y,rfl,rfl,h1,h2⟩
   obtain ⟨b,o,h,hf⟩:=xS ps (x,y) k (by lia)
   have f:cC (cZ n most many kd x ps v6 v7 v8 #v[.int y])=some (.ok (!b),cZ n most many kd x ps v6 v7 v8 #v[.int y]):=by
    unfold cC
    nomatch [o]
   cases b with
   | true=>exact .inl #[_,f,y,rfl,h rfl,h1,by lia]
   | false =>
    obtain ⟨i,j,p,q,d,e1,l,h0⟩:=hf rfl
    have a:=Ae R d e1 l h0
    exact .inr #[_,cZ n most many kd x ps v6 v7 v8 #v[.int (y+1)],_,f,.inl (by unfold dL;(nofun)),a,y+1,rfl,rfl,by lia,by lia])
 exact #[y,e,hf,h1,h2]
theorem xP {n most many kd x:Int} {i:Nat} {ps:List Pt} {v7 v8 v9:Option (L3.D×Fl)} (R:Rising ps) (o:∀ p∈ps,Small p) (k:ps.length<=12) (hi:i < 12) (k0:0<=kd) (k1:kd < 6) :
  ∃ (m d y:Int) (e c b:Option (L3.D×Fl)),cD (cZ n most many kd x ps #v[.int i] v7 v8 v9)=some (.ok .nx,cZ m most many kd (x+1+d) (ps++[(x+1+d,y)]) #v[.int i] e c b)/\0<=d/\d < 3/\Aj ps (x+1+d,y)/\-16000<=y/\y<=16144:=by
 have t:=dU
 have w:=eL (n / 3) 31 (by decide)
 have f:=eL n 3 (by decide)
 generalize l:n / 3 % 31 - 15=G at *
 obtain ⟨y0,q,A,B⟩:=Ao (i:=i) (g:=G) (kd:=kd) hi (by lia) (by lia) k0 k1
 have h:-18446744073709551616 < (i:Int)/\(i:Int) < 18446744073709551616:=by lia
 have r:-18446744073709551616 < 1 - 2 * ((i:Int) % 2)/\1 - 2 * ((i:Int) % 2) < 18446744073709551616:=by lia
 generalize a:x+1+n % 3=X at *
 obtain ⟨y,v,hf,h1,h2⟩:=se (n:=n / 3 / 31) (most:=most) (many:=many) (kd:=kd) (x:=X) (y0:=y0) (ps:=ps) (v6:=#v[.int i]) (v7:=#v[.int G]) (v8:=some (.lst [.int G,.int G,.int ((i:Int) * i+G / 9),.int (G / 9 - (i:Int) * i),.int (((i:Int) * i+30) * (1 - 2 * ((i:Int) % 2))),.int (G * 1000)],.u)) R o k
 refine #[n / 3 / 31,n % 3,y,#v[.int G],some (.lst [.int G,.int G,.int ((i:Int) * i+G / 9),.int (G / 9 - (i:Int) * i),.int (((i:Int) * i+30) * (1 - 2 * ((i:Int) % 2))),.int (G * 1000)],.u),#v[.int y],?_,f.1,f.2,by rw[a];exact hf,by lia,by lia]
 rw[a]
 have s:(ps.map Pd).length < 16777216:=by simp;lia
 have j:=Fm (d:=Pd (X,y)) s
 rw[show ps.map Pd++[Pd (X,y)]=(ps++[(X,y)]).map Pd by simp] at j
 clear hi
 generalize (i:Int)=zi at *
 unfold cD
 apply aq (Z1:=cZ (n / 3) most many kd X ps #v[.int zi] v7 v8 v9)
 .rw[<- a]
  nomatch [(t _ _ (by decide))]
 apply aq (Z1:=cZ (n / 3 / 31) most many kd X ps #v[.int zi] #v[.int G] v8 v9)
 .rw[<- l]
  nomatch [(t _ _ (by decide))]
 apply aq (Z1:=cZ (n / 3 / 31) most many kd X ps #v[.int zi] #v[.int G] (some (.lst [.int G,.int G,.int (zi * zi+G / 9),.int (G / 9 - zi * zi)],.u)) v9)
 .exists gc h
 apply aq (Z1:=cZ (n / 3 / 31) most many kd X ps #v[.int zi] #v[.int G] (some (.lst [.int G,.int G,.int (zi * zi+G / 9),.int (G / 9 - zi * zi),.int ((zi * zi+30) * (1 - 2 * (zi % 2))),.int (G * 1000)],.u)) v9)
 .exists gc h,gc (by decide),y6 r,y6 (by decide)
 apply aq (Z1:=cZ (n / 3 / 31) most many kd X ps #v[.int zi] #v[.int G] (some (.lst [.int G,.int G,.int (zi * zi+G / 9),.int (G / 9 - zi * zi),.int ((zi * zi+30) * (1 - 2 * (zi % 2))),.int (G * 1000)],.u)) #v[.int y0])
 .exists q
 apply aq
 .exact v
 .exists j
theorem xR {n most many kd x:Int} (hm:0<=many/\many<=12) (k0:0<=kd) (k1:kd < 6) (x0:-4<=x) (x1:x<=4) :
  ∃ (f h:Int) (ps:List Pt) (v6 v7 v8 v9:Option (L3.D×Fl)),cT (bI cU (aa (ad 2) ak)) (aA 6) cD (cZ n most many kd x [] none none none none)=some (.ok .nx,cZ f most many kd h ps v6 v7 v8 v9)/\(ps.length:Int)=many/\Rising ps/\NoLine ps/\(∀ q∈ps,-5<=q.1/\q.1<=100/\-17000<=q.2/\q.2<=17000):=by
 obtain ⟨Z',e,f,h,ps,v6,v7,v8,v9,rfl,m,ris,c,bnd,h1,h2⟩:=cP (bnd:=aA 6) (b:=cD) (λi Z=>∃ (n x:Int) (ps:List Pt) (v6 v7 v8 v9:Option (L3.D×Fl)),Z=cZ n most many kd x ps v6 v7 v8 v9/\ps.length=i/\Rising ps/\NoLine ps/\(∀ q∈ps,q.1<=x/\-5<=q.1/\-17000<=q.2/\q.2<=17000)/\-4<=x/\x<=4+3 * (i:Int))
  (ds:=bE 0 many.toNat) (Z:=cZ n most many kd x [] none none none none) (k:=0) #[n,x,[],none,none,none,none,rfl,rfl,λ_ _ _ _ _ e _=>by simp at e,λ_ _ _ _ _ _ _ _ e _ _=>by simp at e,λ_ e=>by simp at e,by lia,by lia] (by
   rintro i d Z hd ⟨n,x,ps,v6,v7,v8,v9,rfl,m,ris,c,bnd,h1,h2⟩
   obtain ⟨hi,rfl⟩:=eY hd
   have g:∀ q∈ps,Small q:=λq a=>by
    obtain ⟨a1,a2,l,j⟩:=bnd q a
    exact #[by lia,by lia,by lia,by lia]
   obtain ⟨f,dd,y,o,r,p,e,u,t,fr,y0,v⟩:=xP (n:=n) (most:=most) (many:=many) (kd:=kd) (x:=x) (i:=i) (ps:=ps) (v7:=v7) (v8:=v8) (v9:=v9) ris g (by lia) (by lia) k0 k1
   refine #[cZ n most many kd x ps #v[.int i] v7 v8 v9,_,by rw[Int.zero_add];rfl,.inl e,f,x+1+dd,ps++[(x+1+dd,y)],_,_,_,_,rfl,by simp;lia,ris.snoc λq a=>?_,c.snoc fr,λq a=>?_,by lia,by lia]
   .show q.1 < x+1+dd
    have:=(bnd q a).1
    lia
   .rcases FH.mp a with a | a
    .obtain ⟨a1,a2,l,j⟩:=bnd q a
     exact #[by lia,by lia,by lia,by lia]
    .have e:q=(x+1+dd,y):=by simpa using a
     subst e
     exact #[Int.le_refl _,by show -5<=x+1+dd;lia,by show -17000<=y;lia,by show y<=17000;lia])
 rw[dW] at m h2
 have s:cU [.int many]=some (bE 0 many.toNat):=di (by lia) rfl
 refine #[f,h,ps,v6,v7,v8,v9,?_,by lia,ris,c,λq a=>?_]
 .apply gh
  ·(repeat' (first | with_reducible apply eK (h3:=s) | infer_instance | eq_refl))
  .rfl
  .exact e
 .obtain ⟨a1,a2,l,j⟩:=bnd q a
  exact #[by lia,by lia,by lia,by lia]
abbrev scJ (p:Pt):Pt:=i8 1000000000000 1000000000 7 p
theorem pow12:sA (.int 10) (.int 12)=#v[.int 1000000000000]:=rfl
theorem pow9:sA (.int 10) (.int 9)=#v[.int 1000000000]:=rfl
theorem vK (ps:List Pt) (g:ps.length<=24) {n most many kd x:Int} {v6 v7 v8 v9:Option (L3.D×Fl)}:aX 5 dJ (cZ n most many kd x ps v6 v7 v8 v9)=some (.ok .nx,cZ n most many kd x (ps.map scJ) v6 v7 v8 v9):=by
 obtain ⟨Y',e,a,b,rfl⟩:=b9 (bnd:=jP 2 (cu (aA 0) (cu (aA 1) jQ))) (c:=en) (elt:=fN) (λY=>∃ a b,Y=[a,b]) Pd (λ_=>true) (λp=>Pd (scJ p)) (xs:=ps) (Y:=[none,none]) #[none,none,rfl] (by
  rintro p f Y ⟨a,b,rfl⟩
  exact #[[#v[.int p.1],#v[.int p.2]],_,rfl,rfl,(λh=>by cases h),λ_=>#[.val (Pd (scJ p)) .z,[#v[.int p.1],#v[.int p.2]],(Pd (scJ p),.z),_,by unfold fN;(exists pow12,pow9,gc (by decide)),rfl,rfl,_,_,rfl]])
 rw[Gi.mpr (λ_ _=>rfl)] at e
 have d:dJ (cZ n most many kd x ps v6 v7 v8 v9)=some (.ok (.val (.lst (ps.map λp=>Pd (scJ p))) .u),cZ n most many kd x ps v6 v7 v8 v9):=bP (rs:=[.pl 5]) (Z1:=cZ n most many kd x ps v6 v7 v8 v9) (Z2:=[some (.lst [.int n],.u),#v[.int most],#v[.int many],#v[.int kd],#v[.int x],some (.lst (ps.map Pd),.l),v6,v7,v8,v9]) rfl e (by simp;lia) rfl
 rw[show (ps.map λp=>Pd (scJ p))=(ps.map scJ).map Pd by simp] at d
 exact fg d rfl (Nat.le_of_ble_eq_true rfl) rfl
theorem vJ (n most:Int) (h1:1<=most) (h2:most<=12):∃ (b:Int) (ps:List Pt),fj [(.lst [.int n],.u),(.int most,.z)]=some (.ok (.tup (ps.map Pd),.z),[(.lst [.int b],.u),(.int most,.z)])/\GoodSh ps/\(ps.length:Int)<=most:=by
 have t:=dU
 have a0:=eL n most (by lia)
 have b0:=eL (n / most) 6 (by decide)
 have k:=eL (n / most / 6) 9 (by decide)
 obtain ⟨b,i,ps,v6,v7,v8,v9,e,l,ris,c,bnd⟩:=xR (n:=n / most / 6 / 9) (most:=most) (many:=1+n % most) (kd:=n / most % 6) (x:=n / most / 6 % 9 - 4) #[by lia,by lia] b0.1 b0.2 (by lia) (by lia)
 have good:GoodSh ps:=⟨by lia,by lia,λq f=>by
  obtain ⟨a1,a2,j,h⟩:=bnd q f
  exact ⟨by lia,by lia,by lia,by lia⟩,ris,c⟩
 have a:GoodSh (ps.map scJ):=⟨by simpa using good.pos,by simpa using good.most,λq f=>by
  obtain ⟨r,d,rfl⟩:=FO.mp f
  obtain ⟨a1,a2,j,h⟩:=bnd r d
  exact ⟨by show -(2 ^ 62) < (1000000000000:Int) * r.1+7;lia,by show (1000000000000:Int) * r.1+7 < 2 ^ 62;lia,by show -(2 ^ 62) < (1000000000:Int) * r.2;lia,by show (1000000000:Int) * r.2 < 2 ^ 62;lia⟩,ris.scale (by decide),c.scale (by decide) (by decide)⟩
 have pre:∀ {r:Option (Except L3.D Flw×Sto)},aH (sIf (cB (am eqX (au aS (aa (ad 0) (aa (mC (.int 6)) ak))) (mC (.int 5)))) (aX 5 dJ) bW) (aP 2 (aC At (aa (ad 5) ak))) (cZ b most (1+n % most) (n / most % 6) i ps v6 v7 v8 v9)=r->nO [some (.lst [.int n],.u),#v[.int most],none,none,none,none,none,none,none,none]=r:=by
  intro r d
  apply aq (Z1:=[some (.lst [.int (n / most)],.u),#v[.int most],#v[.int (1+n % most)],none,none,none,none,none,none,none])
  .nomatch [(t n most (by lia))]
  apply aq (Z1:=[some (.lst [.int (n / most / 6)],.u),#v[.int most],#v[.int (1+n % most)],#v[.int (n / most % 6)],none,none,none,none,none,none])
  .nomatch [(t _ _ (by decide))]
  apply aq (Z1:=[some (.lst [.int (n / most / 6 / 9)],.u),#v[.int most],#v[.int (1+n % most)],#v[.int (n / most % 6)],#v[.int (n / most / 6 % 9 - 4)],none,none,none,none,none])
  .nomatch [(t _ _ (by decide))]
  apply aq (Z1:=cZ (n / most / 6 / 9) most (1+n % most) (n / most % 6) (n / most / 6 % 9 - 4) [] none none none none)
  .nofun
  exact aq e d
 by_cases g:b % 6=5
 .refine #[b / 6,ps.map scJ,?_,a,by rw[FJ];lia]
  apply a7 (Z:=[some (.lst [.int n],.u),#v[.int most],none,none,none,none,none,none,none,none]) rfl rfl
  .apply pre
   apply aq
   .apply dH
    .nomatch [(t _ _ (by decide))]
    .exact FW g
    .exact vK ps (by lia)
   .nofun
  .rfl
 .refine #[b / 6,ps,?_,good,by lia]
  apply a7 (Z:=[some (.lst [.int n],.u),#v[.int most],none,none,none,none,none,none,none,none]) rfl rfl
  .apply pre
   apply aq
   .apply bX
    .nomatch [(t _ _ (by decide))]
    .exact FX g
    .rfl
   .nofun
  .rfl
section
variable {Z Z1 Z2:Sto} {ms:M3 (List R3)} {rs:List R3} {d:L3.D} {fl:Fl} {e:L3.D} {m:EM} {sa sb:SM} {n:Nat}
theorem bZ {F:Fn} {ps qs:List (L3.D×Fl)} (a:F ps=some (.ok (d,fl),qs)) (h1:ms Z=some (.ok rs,Z1)) (h2:prs (frz (d8 rs) Z1) rs=some ps) (h3:qs.length=ps.length) (b:back rs ps qs (frz (d8 rs) Z1)=Z2):dG F ms Z=some (.ok (.val d fl),Z2):=by
 simp only[dG,ai,h1,h2,a,h3,if_true,b]
theorem BU {F:Fn} {ps qs:List (L3.D×Fl)} (a:F ps=some (.error e,qs)) (h1:ms Z=some (.ok rs,Z1)) (h2:prs (frz (d8 rs) Z1) rs=some ps) (h3:qs.length=ps.length) (b:back rs ps qs (frz (d8 rs) Z1)=Z2):dG F ms Z=some (.error e,Z2):=by
 simp only[dG,ai,h1,h2,a,h3,if_true,b]
theorem zA (h:sa Z=some (.error e,Z1)):aH sa sb Z=some (.error e,Z1):=by simp only[aH,ai,h]
theorem EU (h:m Z=some (.error e,Z1)):aP n m Z=some (.error e,Z1):=by simp only[aP,ai,h]
theorem uS {c:String} (h:ms Z=some (.ok rs,Z1)) (a:rs.length<=1000):ja c ms Z=some (.error (.exc c []),Z1):=by simp only[ja,ai,h,a,if_true]
theorem CO {mask:List Bool} {ps qs:List (L3.D×Fl)} (h1:ps.length=mask.length) (h0:d7 n (List.zipWith kU mask ps)=Z) (h2:sa Z=some (.error e,Z1)) (h3:dC Z1 0 (List.zipWith kU mask ps)=some qs):fnM mask n sa ps=some (.error e,qs):=by
 subst h0;simp only[fnM,h1,if_true,fn0,h2,h3,F7]
theorem ET {cs:List String} {i:Nat} {c:String} (h1:sa Z=some (.error (.exc c []),Z1)) (a:c∈cs) (h2:sb (Z1.set i #v[.exc c []])=some (.ok (.rt d fl),Z2)):oJ cs i sa sb Z=some (.ok (.rt d fl),Z2):=by
 simp only[oJ,h1,a,if_true,h2]
theorem ES {cs:List String} {i:Nat} (h1:sa Z=some (.ok (.rt d fl),Z1)):oJ cs i sa sb Z=some (.ok (.rt d fl),Z1):=by
 simp only[oJ,h1]
theorem BS {f:Flw} (h:sa Z=some (.ok f,Z1)):quiet sa Z=some (.ok f,Z1):=by simp only[quiet,h]
end
def bd (ps:List Pt) (i:Nat):Pt:=ps.getD i (0,0)
theorem qv {ps:List Pt} {i:Nat} (h:i < ps.length):ps[i]?=some (bd ps i):=by
 simp[bd,List.getD,FE h]
theorem c9 {ps:List Pt} {i:Nat} (a:∀ p∈ps,Small p) (h:i < ps.length):Small (bd ps i):=a _ (FL (qv h))
theorem fu {ps:List Pt} {i:Nat} (h:i < ps.length):aB (Shd ps) (.int i)=#v[Pd (bd ps i)]:=fv (wU (qv h))
def tq (ps:List Pt) (t:Tri):Int:=lC (bd ps t.1) (bd ps t.2.1) (bd ps t.2.2)
abbrev tk (t:Tri):List Key:=[.inl (t.1:Int),.inl (t.2.1:Int),.inl (t.2.2:Int)]
theorem xi {t u:Tri} (h:tk t=tk u):t=u:=by
 simp only[tk,List.cons.injEq,Sum.inl.injEq,and_true] at h
 exact Prod.ext (by lia) (Prod.ext (by lia) (by lia))
def tb (ps:List Pt) (l:List Tri):List (List Key×L3.D):=l.map λt=>(tk t,.int (tq ps t))
theorem DR {ps:List Pt} {l:List Tri} {t:Tri} (h:t ∉ l):qu (tb ps l) (tk t) (.int (tq ps t))=tb ps (l++[t]):=by
 have a:¬ ((tb ps l).any λb=>decide (b.1=tk t))=true:=by
  intro c
  obtain ⟨x,d,e⟩:=List.any_eq_true.mp c
  obtain ⟨u,hu,rfl⟩:=FO.mp d
  exact h (xi (of_decide_eq_true e) ▸ hu)
 unfold qu
 rw[if_neg a]
 unfold tb
 rw[List.map_append]
 rfl
theorem zF {ps:List Pt} {t:Tri}:∀ {l:List Tri},t∈l->mq (tb ps l) (tk t)=some (.int (tq ps t))
 | u::l,h=>by
  unfold mq tb
  rw[FV,List.find?_cons]
  by_cases e:tk u=tk t
  .rw[xi e];simp
  .have:t∈l:=by
    rcases FD.mp h with rfl | h
    .exact absurd rfl e
    .exact h
   have a:=zF (ps:=ps) this
   unfold mq tb at a
   simp only[e,decide_false]
   exact a
theorem Dk {ps:List Pt} {l:List Tri} {t:Tri} (h:t ∉ l) (a:l.length < 16777216):AM (.dt (tb ps l)) [Td t,.int (tq ps t)]=some (.dt (tb ps (l++[t])),.non):=by
 show (if (tb ps l).length < 16777216 then some (L3.D.dt (qu (tb ps l) (tk t) (.int (tq ps t))),L3.D.non) else none)=_
 rw[if_pos (by unfold tb;rw[FJ];exact a),DR h]
theorem rR:∀ n:Nat,n<=8->(jm n).Nodup
 | 0,_=>by decide +kernel
 | 1,_=>by decide +kernel
 | 2,_=>by decide +kernel
 | 3,_=>by decide +kernel
 | 4,_=>by decide +kernel
 | 5,_=>by decide +kernel
 | 6,_=>by decide +kernel
 | 7,_=>by decide +kernel
 | 8,_=>by decide +kernel
 | n+9,h=>absurd h (by lia)
theorem xh:∀ n:Nat,n<=8->(jm n).length<=56
 | 0,_=>by decide +kernel
 | 1,_=>by decide +kernel
 | 2,_=>by decide +kernel
 | 3,_=>by decide +kernel
 | 4,_=>by decide +kernel
 | 5,_=>by decide +kernel
 | 6,_=>by decide +kernel
 | 7,_=>by decide +kernel
 | 8,_=>by decide +kernel
 | n+9,h=>absurd h (by lia)
theorem vz {α:Type} {l:List α} {m:Nat} {t:α} (h:l[m]?=some t):l.take (m+1)=l.take m++[t]:=by
 rw[List.take_add_one,h];rfl
theorem sG {α:Type} {l:List α} {m:Nat} {t:α} (nd:l.Nodup) (h:l[m]?=some t):t ∉ l.take m:=by
 rw[<- List.take_append_drop m l] at nd
 intro hm
 refine (List.nodup_append.mp nd).2.2 t hm t ?_ rfl
 refine FL (i:=0) ?_
 rw[List.getElem?_drop]
 exact h
theorem wW {ps:List Pt} (g:GoodSh ps) {t:Tri} (h1:t.1 < t.2.1) (h2:t.2.1 < t.2.2) (h3:t.2.2 < ps.length) {l:List Tri} (a:t ∉ l) (c:l.length < 16777216):bY [#v[Shd ps],some (.dt (tb ps l),.u),#v[Td t]]=some (.ok .nx,[#v[Shd ps],some (.dt (tb ps (l++[t])),.u),#v[Td t]]):=by
 obtain ⟨i,j,k⟩:=t
 dsimp only at h1 h2 h3
 have f:bS [(Shd ps,.z),(Td (i,j,k),.z)]=some (.ok (.int (tq ps (i,j,k)),.z),[(Shd ps,.z),(Td (i,j,k),.z)]):=lK (fu (ps:=ps) (i:=i) (by lia)) (fu (ps:=ps) (i:=j) (by lia)) (fu (ps:=ps) (i:=k) (by lia)) (c9 g.small (show i < ps.length by lia)) (c9 g.small (show j < ps.length by lia))
 have e:=Dk (ps:=ps) a c
 unfold bY
 have b:au bS (aa (ad 0) (aa (ad 2) ak)) [#v[Shd ps],some (.dt (tb ps l),.u),#v[Td (i,j,k)]]=some (.ok (.val (.int (tq ps (i,j,k))) .z),[#v[Shd ps],some (.dt (tb ps l),.u),#v[Td (i,j,k)]]):=by (nomatch [f])
 exact Cz (i:=1) (Z2:=[#v[Shd ps],some (.dt (tb ps l),.u),#v[Td (i,j,k)]]) (Z3:=[#v[Shd ps],some (.dt (tb ps l),.u),#v[Td (i,j,k)]]) b rfl (ao (i:=2) rfl) rfl rfl e
theorem lN {ps:List Pt} (g:GoodSh ps) (f:ps.length<=8):dj [(Shd ps,.z)]=some (.ok (.dt (tb ps (jm ps.length)),.u),[(Shd ps,.z)]):=by
 have nd:=rR ps.length f
 have l:=xh ps.length f
 obtain ⟨Z',e,v2,rfl⟩:=cP (bnd:=aA 2) (b:=bY) (λm Z=>∃ v2,Z=[#v[Shd ps],some (.dt (tb ps ((jm ps.length).take m)),.u),v2]) (ds:=(jm ps.length).map Td) (Z:=[#v[Shd ps],some (.dt [],.u),none]) (k:=0) #[none,rfl] (by
  rintro m d Z hd ⟨v2,rfl⟩
  rw[FZ]
  rw[FP] at hd
  obtain ⟨t,a,rfl⟩:=Fz.mp hd
  obtain ⟨i,h,j⟩:=qL (FL a)
  rw[vz a]
  exact #[_,_,rfl,.inl (wW g i h j (sG nd a) (by rw[F6];lia)),_,rfl])
 rw[FZ,FJ,List.take_length] at e
 have c:=jW g
 have th:=lL ps.length (by lia)
 have hlen:cL [Shd ps]=#v[.int (ps.length:Nat)]:=by simp[mU,c1]
 apply a7 (Z:=[#v[Shd ps],none,none]) rfl rfl
 .apply aq (Z1:=[#v[Shd ps],none,none])
  .exact mn (bZ c (ah (ao rfl) ay) rfl rfl rfl)
  .apply aq (Z1:=[#v[Shd ps],some (.dt [],.u),none])
   .rfl
   .apply aq
    .apply BS
     apply gh
     .nomatch [th],[hlen]
     .rfl
     .exact e
    .nofun
 .rfl
abbrev k3 (i j k:Nat):List Key:=[.inl (i:Int),.inl (j:Int),.inl (k:Int)]
structure Sg where
 length:Nat
 f:Nat->Nat->Nat->Int
def trn (ps:Sg) (i j k:Nat):Int:=ps.f i j k
def CM (ps:Sg) (T:List (List Key×L3.D)):Prop:=∀ i j k,i < j->j < k->k < ps.length->mq T (k3 i j k)=some (.int (trn ps i j k))
theorem vZ {n i j k:Nat} (h1:i < j) (h2:j < k) (h3:k < n):(i,j,k)∈jm n:=by
 refine Gj.mpr #[i,List.mem_range.mpr (by lia),Gj.mpr #[j - (i+1),List.mem_range.mpr (by lia),FO.mpr #[k - (j+1),List.mem_range.mpr (by lia),?_]]]
 refine Prod.ext rfl (Prod.ext ?_ ?_) <;> simp <;> lia
theorem sub3 {kvs:List (List Key×L3.D)} {i j k:Nat} {d:L3.D} (h:mq kvs (k3 i j k)=some d):aB (.dt kvs) (.tup [.int i,.int j,.int k])=#v[d]:=by
 show (mq kvs (k3 i j k)).map (λd=>(d,Fl.z))=_
 rw[h];rfl
def sgn (ps:List Pt):Sg:=#[ps.length,λi j k=>lC (bd ps i) (bd ps j) (bd ps k)]
theorem xc (ps:List Pt):CM (sgn ps) (tb ps (jm ps.length)):=λi j k h1 h2 h3=>zF (t:=(i,j,k)) (vZ h1 h2 h3)
abbrev Nd (l:List Nat):List L3.D:=l.map λ(i:Nat)=>L3.D.int (i:Int)
def el (L:List Nat) (i:Nat):Nat:=L.getD i 0
theorem ki {L:List Nat} {i:Nat} (h:i < L.length):L[i]?=some (el L i):=by simp[el,List.getD,h]
theorem pB {L:List Nat} {i:Nat} (h:i < L.length):el L i∈L:=FL (ki h)
theorem vM {i n:Int} (h0:0<=i) (h1:i < n):fW [(.int i,.z),(.int n,.z)]=some (.ok (.bl true,.z),[(.int i,.z),(.int n,.z)]):=by
 have a:leI (.int 0) (.int i)=#v[.bl true]:=by simp[cO,h0]
 have b:ltI (.int i) (.int n)=#v[.bl true]:=by simp[cO,h1]
 apply a7 (Z:=[#v[.int i],#v[.int n]]) rfl rfl
 .apply bJ
  .apply pe
   .nomatch [(nt _)]
   .rfl
   .rfl
   .exact uU i_c (ao rfl) rfl rfl a (ao rfl) rfl rfl b
  .rfl
 .rfl
theorem vj {α:Type} (b:α->Bool):∀ xs:List α,eM (xs.map λx=>L3.D.bl (b x))=some (xs.map b)
 | []=>rfl
 | x::xs=>by simp[eM,vj b xs]
theorem pS {α:Type} (b:α->Bool) (xs:List α):rL [.lst (xs.map λx=>L3.D.bl (b x))]=#v[.bl (xs.all b)]:=by
 show (eM _).map _=_
 rw[vj]
 simp[List.all_map]
theorem Aa {xs:List L3.D} {i:Nat} {d:L3.D} (h:xs[i]?=some d):L2.atI xs (i:Int)=some d:=by
 have lt:=(FK.mp h).1
 unfold L2.atI L2.ixN
 rw[if_pos (by lia),if_pos (by lia)]
 simpa using h
theorem Ah {r:List Nat} {i:Nat} (h:i < r.length):(Nd r)[i]?=some (.int (el r i)):=by rw[FP,ki h];rfl
theorem eP {r:List Nat} {i:Nat} (h:i < r.length):aB (.tup (Nd r)) (.int (i:Int))=#v[.int (el r i)]:=fv (Aa (Ah h))
structure Ris (n:Nat) (r:List Nat):Prop where
 up:r.Pairwise (· < ·)
 lt:∀ x∈r,x < n
theorem Ris.at {n:Nat} {r:List Nat} (h:Ris n r) {i j:Nat} (a:i < j) (c:j < r.length):el r i < el r j:=by
 have:=List.pairwise_iff_getElem.mp h.up i j (by lia) c a
 have e1:=ki (L:=r) (i:=i) (by lia)
 have b:=ki (L:=r) (i:=j) c
 rw[FE (by lia)] at e1 b
 injection e1 with e1
 injection b with b
 lia
theorem ui {n:Nat}:∀ (r:List Nat) (a:Nat),r.Pairwise (· < ·)->(∀ x∈r,a<=x/\x < n)->r.length<=n - a
 | [],a,_,_=>Nat.zero_le _
 | x::r,a,hp,hb=>by
  rw[List.pairwise_cons] at hp
  have h0:=hb x Fv
  have:=ui r (x+1) hp.2 λy b=>#[hp.1 y b,(hb y (Fw _ b)).2]
  rw[F5]
  lia
theorem Ris.len {n:Nat} {r:List Nat} (h:Ris n r):r.length<=n:=ui r 0 h.up λx a=>#[Nat.zero_le _,h.lt x a]
theorem AR {n:Nat} {r:List Nat} (h:Ris n r) (m:n<=24):aE [(.tup (Nd r),.z),(.int (n:Int),.z)]=some (.ok (.bl true,.z),[(.tup (Nd r),.z),(.int (n:Int),.z)]):=by
 have o:=h.len
 obtain ⟨Y',e,a,rfl⟩:=b9 (bnd:=aA 0) (c:=en) (elt:=bN) (λY=>∃ a,Y=[a,#v[.int (n:Int)]]) (λi:Nat=>L3.D.int (i:Int)) (λ_=>true) (λ_=>.bl true) (xs:=r) (Y:=[none,#v[.int (n:Int)]]) #[none,rfl] (by
  rintro k d Y ⟨a,rfl⟩
  have:=h.lt k d
  have pl:=vM (i:=(k:Int)) (n:=(n:Int)) (by omega) (by omega)
  exact #[[#v[.int (k:Int)],#v[.int (n:Int)]],_,rfl,rfl,(λh=>by cases h),λ_=>#[.val (.bl true) .z,[#v[.int (k:Int)],#v[.int (n:Int)]],(.bl true,.z),_,by unfold bN;(nomatch [pl]),rfl,rfl,_,rfl]])
 rw[Gi.mpr (λ_ _=>rfl)] at e
 have e1:cH [#v[.tup (Nd r)],#v[.int (n:Int)]]=some (.ok (.val (.lst (r.map λ_=>.bl true)) .u),[#v[.tup (Nd r)],#v[.int (n:Int)]]):=bP (rs:=[.pl 0]) (Z1:=[#v[.tup (Nd r)],#v[.int (n:Int)]]) (Z2:=[#v[.tup (Nd r)],#v[.int (n:Int)]]) rfl e (by rw[FJ];omega) rfl
 have a1:=pS (λ_:Nat=>true) r
 rw[List.all_eq_true.mpr (λ_ _=>rfl)] at a1
 obtain ⟨Y2,f,b,rfl⟩:=b9 (bnd:=aA 0) (c:=en) (elt:=cI) (λY=>∃ a,Y=[a,#v[.tup (Nd r)]]) (λi:Nat=>L3.D.int (0+(i:Int))) (λ_=>true) (λ_=>.bl true) (xs:=List.range (r.length - 1)) (Y:=[none,#v[.tup (Nd r)]]) #[none,rfl] (by
  rintro k d Y ⟨a,rfl⟩
  rw[List.mem_range] at d
  rw[Int.zero_add]
  have g1:=eP (r:=r) (i:=k) (by omega)
  have g2:aB (.tup (Nd r)) (.int ((k:Int)+1))=#v[.int (el r (k+1))]:=by
   have:=eP (r:=r) (i:=k+1) (by omega)
   rw[Int.natCast_add] at this
   exact this
  have g:ltI (.int (el r k)) (.int (el r (k+1)))=#v[.bl true]:=by
   have:=h.at (show k < k+1 by omega) (by omega)
   simp[cO];omega
  exact #[[#v[.int (k:Int)],#v[.tup (Nd r)]],_,rfl,rfl,(λh=>by cases h),λ_=>#[.val (.bl true) .z,[#v[.int (k:Int)],#v[.tup (Nd r)]],(.bl true,.z),_,aJ (aJ (ao rfl) (ao rfl) rfl rfl g1) (aJ (ao rfl) (aJ (ao rfl) i_c rfl rfl rfl) rfl rfl g2) rfl rfl g,rfl,rfl,_,rfl]])
 rw[Gi.mpr (λ_ _=>rfl)] at f
 have j:cU [.int (((Nd r).length:Int) - 1)]=some (bE 0 (r.length - 1)):=di (by first | (simp;done) | (simp;omega)) (by first | (simp;done) | (simp;omega))
 have l:cG [#v[.tup (Nd r)],#v[.int (n:Int)]]=some (.ok (.val (.lst ((List.range (r.length - 1)).map λ_=>.bl true)) .u),[#v[.tup (Nd r)],#v[.int (n:Int)]]):=bP (rs:=[]) (Z1:=[#v[.tup (Nd r)],#v[.int (n:Int)]]) (ds:=bE 0 (r.length - 1)) (by (repeat' (first | with_reducible apply eK (h3:=j) | infer_instance | eq_refl))) f (by rw[dW];omega) rfl
 have a2:=pS (λ_:Nat=>true) (List.range (r.length - 1))
 rw[List.all_eq_true.mpr (λ_ _=>rfl)] at a2
 apply a7 (Z:=[#v[.tup (Nd r)],#v[.int (n:Int)]]) rfl rfl
 .apply aq (Z1:=[#v[.tup (Nd r)],#v[.int (n:Int)]])
  .apply bX
   .apply iZ (b:=false)
    .nofun
    .rfl
    .exact dA (cy (a8 (ah e1 ay) rfl a1) rfl)
   .rfl
   .rfl
  .exact bJ (a8 (ah l ay) rfl a2) rfl
 .rfl
theorem cut3 {xs:List L3.D} {a:Nat} (b:a+3<=xs.length):slD (.tup xs) (some (a:Int)) (some ((a:Int)+3))=#v[.tup ((xs.drop a).take 3)]:=by
 have e:kY xs (some (a:Int)) (some ((a:Int)+3))=(xs.drop a).take 3:=by
  unfold kY
  rw[show ((a:Int)+3)=((a+3:Nat):Int) by omega,HT.sIx_nat,HT.sIx_nat]
  by_cases h:a+3<=xs.length
  .rw[show min a xs.length=a by omega,show min (a+3) xs.length=a+3 by omega,show a+3 - a=3 by omega]
  .lia
 show some ((.tup (kY xs (some (a:Int)) (some ((a:Int)+3))),.z):L3.D×Fl)=_
 rw[e]
theorem xj {r:List Nat} {a:Nat} (h:a+3<=r.length):((Nd r).drop a).take 3=[.int (el r a),.int (el r (a+1)),.int (el r (a+2))]:=by
 have e:∀ i,i < r.length->(Nd r)[i]?=some (.int (el r i)):=λi hi=>Ah hi
 have l:(Nd r).length=r.length:=by simp
 apply List.ext_getElem?
 intro i
 rw[List.getElem?_take,List.getElem?_drop]
 match i with
 | 0=>simpa using e a (by omega)
 | 1=>simpa using e (a+1) (by omega)
 | 2=>simpa using e (a+2) (by omega)
 | i+3=>simp;omega
def rb (s:Sg) (row:List Nat) (way:Int):Bool:=(List.range (row.length - 2)).all λa=>decide (s.f (el row a) (el row (a+1)) (el row (a+2))=way)
theorem Dq {s:Sg} {T:List (List Key×L3.D)} (j:CM s T) {row:List Nat} (h:Ris s.length row) (n:s.length<=24) {way:Int}:eO [(.dt T,.u),(.tup (Nd row),.z),(.int way,.z)]=some (.ok (.bl (rb s row way),.z),[(.dt T,.u),(.tup (Nd row),.z),(.int way,.z)]):=by
 have o:=h.len
 have l:(Nd row).length=row.length:=by simp
 obtain ⟨Y',e,a,rfl⟩:=b9 (bnd:=aA 0) (c:=en) (elt:=dZ) (λY=>∃ a,Y=[a,#v[.int way],some (.dt T,.u),#v[.tup (Nd row)]]) (λi:Nat=>L3.D.int (0+(i:Int))) (λ_=>true) (λa=>.bl (decide (s.f (el row a) (el row (a+1)) (el row (a+2))=way))) (xs:=List.range (row.length - 2)) (Y:=[none,#v[.int way],some (.dt T,.u),#v[.tup (Nd row)]]) #[none,rfl] (by
  rintro k m Y ⟨a,rfl⟩
  rw[List.mem_range] at m
  rw[Int.zero_add]
  have c:=cut3 (xs:=Nd row) (a:=k) (by omega)
  rw[xj (by omega)] at c
  have g:=sub3 (j (el row k) (el row (k+1)) (el row (k+2)) (h.at (by omega) (by omega)) (h.at (by omega) (by omega)) (h.lt _ (pB (by omega))))
  have q:eqX (.int (s.f (el row k) (el row (k+1)) (el row (k+2)))) (.int way)=#v[.bl (decide (s.f (el row k) (el row (k+1)) (el row (k+2))=way))]:=rfl
  refine #[[#v[.int (k:Int)],#v[.int way],some (.dt T,.u),#v[.tup (Nd row)]],_,rfl,rfl,(λh=>by cases h),λ_=>#[.val (.bl _) .z,[#v[.int (k:Int)],#v[.int way],some (.dt T,.u),#v[.tup (Nd row)]],(.bl _,.z),_,?_,rfl,rfl,_,rfl]]
  unfold dZ
  (exists c,g,q))
 rw[Gi.mpr (λ_ _=>rfl)] at e
 have b:cU [.int (((Nd row).length:Int) - 2)]=some (bE 0 (row.length - 2)):=di (by omega) (by omega)
 have d:ib [some (.dt T,.u),#v[.tup (Nd row)],#v[.int way]]=some (.ok (.val (.lst ((List.range (row.length - 2)).map λa=>.bl (decide (s.f (el row a) (el row (a+1)) (el row (a+2))=way)))) .u),[some (.dt T,.u),#v[.tup (Nd row)],#v[.int way]]):=bP (rs:=[]) (Z1:=[some (.dt T,.u),#v[.tup (Nd row)],#v[.int way]]) (ds:=bE 0 (row.length - 2)) (by (repeat' (first | with_reducible apply eK (h3:=b) | infer_instance | eq_refl))) e (by rw[dW];omega) rfl
 have al:=pS (λa=>decide (s.f (el row a) (el row (a+1)) (el row (a+2))=way)) (List.range (row.length - 2))
 apply a7 (Z:=[some (.dt T,.u),#v[.tup (Nd row)],#v[.int way]]) rfl rfl
 .exact bJ (a8 (ah d ay) rfl al) rfl
 .rfl
theorem jf (a b:List Nat):Nd (a++b)=Nd a++Nd b:=by simp
theorem fl_nx {bnd:L3.D->Sto->Option Sto} {b:SM} {d:L3.D} {ds:List L3.D} {Z Z1 Z2:Sto} {x:Option (Except L3.D Flw×Sto)} (h1:bnd d Z=some Z1) (h2:b Z1=some (.ok .nx,Z2)) (h3:dy bnd b ds Z2=x):dy bnd b (d::ds) Z=x:=by
 simp only[dy,h1,ai,h2,h3]
theorem fl_rt {bnd:L3.D->Sto->Option Sto} {b:SM} {d:L3.D} {ds:List L3.D} {Z Z1 Z2:Sto} {y:L3.D} {g:Fl} (h1:bnd d Z=some Z1) (h2:b Z1=some (.ok (.rt y g),Z2)):dy bnd b (d::ds) Z=some (.ok (.rt y g),Z2):=by
 simp only[dy,h1,ai,h2];rfl
theorem Cr {α:Type} (f:α->Int):∀ l:List α,∃ qs,eZ (l.map λx=>L3.D.int (f x))=some qs/\PyData.canLayAll0 qs=true/\PyData.depthAll qs<=10/\qs.length=l.length
 | []=>#[[],rfl,rfl,by decide,rfl]
 | x::l=>by
  obtain ⟨qs,e1,a,c,b⟩:=Cr f l
  refine #[.int (f x)::qs,?_,?_,?_,?_]
  .show (match pyD (.int (f x)),eZ (l.map λx=>L3.D.int (f x)) with | some p,some ps=>some (p::ps) | _,_=>none)=_
   rw[e1];rfl
  .simp[PyData.canLayAll0,PyData.canLay0,a]
  .simp[PyData.depthAll,PyData.depth];lia
  .simp[b]
theorem wC {d:L3.D} {p:PyData} (b:eqS d d=none) (h:pyD d=some p) (a:p.canLay0=true) (hd:p.depth<=30):eqX d d=#v[.bl true]:=by
 have h1:eqA d d=some true:=by
  unfold eqA
  rw[b]
  exact zN h a hd
 show (eqA d d).map _=_
 rw[h1];rfl
theorem uJ:∀ (l ns:List Int),l.Nodup->(∀ x∈l,x ∉ ns)->l.foldl met ns=ns++l
 | [],ns,_,_=>by simp
 | x::l,ns,hd,hx=>by
  rw[List.nodup_cons] at hd
  rw[List.foldl_cons,show met ns x=ns++[x] from if_neg (hx x Fv),uJ l (ns++[x]) hd.2 λy a h=>?_]
  .simp
  .rcases FH.mp h with h | h
   .exact hx y (Fw _ a) h
   .exact hd.1 (F9.mp h ▸ a)
theorem ss_is {n:Nat} {r:List Nat} (h:Ris n r) (d:n<=24):ssD [.tup (Nd r)]=some (.lst (Nd r),.u):=by
 have b:=h.len
 have c:cN (Nd r)=some (r.map λx:Nat=>(x:Int)):=by
  clear h b
  induction r with
  | nil=>rfl
  | cons x r ih=>simp[cN,ih]
 have up:(r.map λx:Nat=>(x:Int)).Pairwise (· < ·):=List.pairwise_map.mpr (h.up.imp λa=>by lia)
 have m:=uJ (r.map λx:Nat=>(x:Int)) [] (up.imp λa=>by lia) (λ_ _=>List.not_mem_nil)
 rw[List.nil_append] at m
 have st:srt (r.map λx:Nat=>(x:Int))=r.map λx:Nat=>(x:Int):=gr (lE _) (i7 _) (up.imp λa=>by lia)
 show (cN (Nd r)).bind _=_
 rw[c]
 show (if (r.map λx:Nat=>(x:Int)).length < 64 then some ((.lst ((srt ((r.map λx:Nat=>(x:Int)).foldl met [])).map .int),.u):L3.D×Fl) else none)=_
 rw[if_pos (by rw[FJ];lia),m,st,Gk]
 rfl
theorem B2 (r:List Nat):eqX (.lst (Nd r)) (.lst (Nd r))=#v[.bl true]:=by
 obtain ⟨qs,e1,a,c,d⟩:=Cr (λi:Nat=>(i:Int)) r
 have b:pyD (.lst (Nd r))=some (.list qs):=by unfold pyD;rw[e1];rfl
 exact wC rfl b (by simp[PyData.canLay0,a]) (by simp[PyData.depth];lia)
theorem mx {α:Type} {bnd:L3.D->Sto->Option Sto} {b:SM} (D:α->L3.D) (t:α->Bool) (P:Sto->Prop) {r:L3.D} {f:Fl}:∀ {xs:List α} {Z:Sto},P Z->(∀ x∈xs,∀ Z,P Z->∃ Z1 Z2,bnd (D x) Z=some Z1/\b Z1=some (.ok (if t x=true then .nx else .rt r f),Z2)/\P Z2)->∃ Z',dy bnd b (xs.map D) Z=some (.ok (if xs.all t=true then .nx else .rt r f),Z')/\P Z'
 | [],Z,h0,_=>#[Z,rfl,h0]
 | x::xs,Z,h0,hs=>by
  obtain ⟨Z1,Z2,e1,a,h1⟩:=hs x Fv Z h0
  rw[FV,List.all_cons]
  cases c:t x with
  | true =>
   rw[c] at a
   obtain ⟨Z',d,h3⟩:=mx D t P (xs:=xs) (Z:=Z2) h1 λy e=>hs y (Fw _ e)
   exact #[Z',fl_nx e1 a (by rw[Bool.true_and];exact d),h3]
  | false =>
   rw[c] at a
   exact #[Z2,fl_rt e1 a,h1]
theorem sf (i:Int):iQ [(.int i,.z)]=some (.ok (.bl true,.z),[(.int i,.z)]):=by kernel_rfl
theorem qi {n:Nat} {r:List Nat} (h:Ris n r) (m:n<=24):fT [(.tup (Nd r),.z),(.int (n:Int),.z)]=some (.ok (.bl true,.z),[(.tup (Nd r),.z),(.int (n:Int),.z)]):=by
 have o:=h.len
 obtain ⟨Y',e,a,rfl⟩:=b9 (bnd:=aA 0) (c:=en) (elt:=eS) (λY=>∃ a,Y=[a]) (λi:Nat=>L3.D.int (i:Int)) (λ_=>true) (λ_=>.bl true) (xs:=r) (Y:=[none]) #[none,rfl] (by
  rintro k g Y ⟨a,rfl⟩
  have w:=sf (k:Int)
  exact #[[#v[.int (k:Int)]],_,rfl,rfl,(λh=>by cases h),λ_=>#[.val (.bl true) .z,[#v[.int (k:Int)]],(.bl true,.z),_,by unfold eS;(nomatch [w]),rfl,rfl,_,rfl]])
 rw[Gi.mpr (λ_ _=>rfl)] at e
 have a1:=pS (λ_:Nat=>true) r
 rw[List.all_eq_true.mpr (λ_ _=>rfl)] at a1
 have e1:iX [#v[.tup (Nd r)],#v[.int (n:Int)]]=some (.ok (.val (.lst (r.map λ_=>.bl true)) .u),[#v[.tup (Nd r)],#v[.int (n:Int)]]):=bP (rs:=[.pl 0]) (Z1:=[#v[.tup (Nd r)],#v[.int (n:Int)]]) (Z2:=[#v[.tup (Nd r)],#v[.int (n:Int)]]) rfl e (by rw[FJ];lia) rfl
 obtain ⟨Y2,f,v,rfl⟩:=b9 (bnd:=aA 0) (c:=eT) (elt:=iY) (λY=>∃ a,Y=[a,#v[.int (n:Int)]]) (λi:Nat=>L3.D.int (i:Int)) (λ_=>false) (λ_=>.non) (xs:=r) (Y:=[none,#v[.int (n:Int)]]) #[none,rfl] (by
  rintro k g Y ⟨a,rfl⟩
  have lt:=h.lt k g
  have j:ltI (.int (k:Int)) (.int 0)=#v[.bl false]:=by simp[cO]
  have c1:geI (.int (k:Int)) (.int (n:Int))=#v[.bl false]:=by simp[cO];lia
  refine #[[#v[.int (k:Int)],#v[.int (n:Int)]],[#v[.int (k:Int)],#v[.int (n:Int)]],rfl,?_,λ_=>#[_,rfl],λh=>by cases h]
  unfold eT
  refine iZ (b:=false) (Z1:=[#v[.int (k:Int)],#v[.int (n:Int)]]) ?_ rfl ?_
  .exists j
  ·(exists c1))
 rw[List.filter_eq_nil_iff.mpr (λ_ _=>by decide)] at f
 have l:iW [#v[.tup (Nd r)],#v[.int (n:Int)]]=some (.ok (.val (.lst []) .u),[#v[.tup (Nd r)],#v[.int (n:Int)]]):=bP (rs:=[.pl 0]) (Z1:=[#v[.tup (Nd r)],#v[.int (n:Int)]]) (Z2:=[#v[.tup (Nd r)],#v[.int (n:Int)]]) rfl f (by rw[FJ];lia) rfl
 have ss:=ss_is h m
 have li:ED [.tup (Nd r)]=some (.lst (Nd r),.u):=rfl
 have eq:=B2 r
 have z:neX (.lst []) (.lst [])=#v[.bl false]:=by kernel_rfl
 have d:jG "tuple" (.tup (Nd r))=#v[.bl true]:=rfl
 generalize L3.D.lst (Nd r)=RL at *
 generalize L3.D.tup (Nd r)=R at *
 generalize L3.D.int (n:Int)=N at *
 apply a7 (Z:=[#v[R],#v[N]]) (Z1:=[#v[R],#v[N]]) rfl rfl
 .unfold l8
  apply aq (Z1:=[#v[R],#v[N]])
  .refine bX (b:=false) (iZ (b:=false) (Z1:=[#v[R],#v[N]]) ?_ rfl ?_) rfl rfl
   .exact dA (cy (ip (ao rfl) rfl d) rfl)
   .exact dA (cy (a8 (ah e1 ay) rfl a1) rfl)
  apply aq (Z1:=[#v[R],#v[N]])
  .exact bX (b:=false) (cy (aJ l rfl rfl rfl z) rfl) rfl rfl
  .apply bJ
   .exists ss,li,eq
   .rfl
 .rfl
theorem xO {ps:List Pt} (g:GoodSh ps) {i j k:Nat} (h1:i < ps.length) (h2:j < ps.length) (h3:k < ps.length):jg [(Shd ps,.z),(.int i,.z),(.int j,.z),(.int k,.z)]=some (.ok (.bl (decide (aZ (bd ps i) (bd ps j) (bd ps k) > 0)),.z),[(Shd ps,.z),(.int i,.z),(.int j,.z),(.int k,.z)]):=by
 have s:=Small.sub (c9 g.small h1) (c9 g.small h2)
 have b:=qk (bd ps i) (bd ps j) (bd ps k) s.1 s.2
 have a1:=fu h1
 have a2:=fu h2
 have a:=fu h3
 generalize bd ps i=p at *
 generalize bd ps j=q at *
 generalize bd ps k=r at *
 have z:gtI (.int (aZ p q r)) (.int 0)=#v[.bl (decide (aZ p q r > 0))]:=rfl
 generalize Shd ps=H at *
 generalize decide (aZ p q r > 0)=B at *
 generalize aZ p q r=M at *
 generalize Pd p=p at *
 generalize Pd q=q at *
 generalize Pd r=r at *
 apply a7 (Z:=[#v[H],#v[.int i],#v[.int j],#v[.int k]]) (Z1:=[#v[H],#v[.int i],#v[.int j],#v[.int k]]) rfl rfl
 .apply bJ
  .nomatch [b],[a1,a2,a,z]
  .rfl
 .rfl
def way (b:Bool):Int:=if b then 1 else -1
theorem f_way (ps:List Pt) (i j k:Nat) (b:Bool):decide (decide (aZ (bd ps i) (bd ps j) (bd ps k) > 0)=b)=decide ((sgn ps).f i j k=way b):=by
 show _=decide ((if 0 < aZ (bd ps i) (bd ps j) (bd ps k) then (1:Int) else -1)=way b)
 by_cases h:0 < aZ (bd ps i) (bd ps j) (bd ps k)
 .rw[if_pos h,FW (show aZ (bd ps i) (bd ps j) (bd ps k) > 0 from h)]
  cases b <;> rfl
 .rw[if_neg h,FX (show ¬ aZ (bd ps i) (bd ps j) (bd ps k) > 0 from h)]
  cases b <;> rfl
theorem jd (ps:List Pt):cL [Shd ps]=#v[.int (ps.length:Int)]:=by simp[mU,c1]
theorem tU {ps:List Pt} (g:GoodSh ps) {row:List Nat} (h:Ris ps.length row) {k:Nat} (c:k+2 < row.length) {b:Bool}:cE [#v[Shd ps],#v[.tup (Nd row)],#v[.bl b],#v[.int (k:Int)]]=some (.ok (if decide ((sgn ps).f (el row k) (el row (k+1)) (el row (k+2))=way b)=true then .nx else .rt (.bl false) .z),[#v[Shd ps],#v[.tup (Nd row)],#v[.bl b],#v[.int (k:Int)]]):=by
 have f:=xO g (h.lt _ (pB (L:=row) (i:=k) (by lia))) (h.lt _ (pB (L:=row) (i:=k+1) (by lia))) (h.lt _ (pB (L:=row) (i:=k+2) (by lia)))
 have s0:=eP (r:=row) (i:=k) (by lia)
 have s1:aB (.tup (Nd row)) (.int ((k:Int)+1))=#v[.int (el row (k+1))]:=eP (r:=row) (i:=k+1) (by lia)
 have s2:aB (.tup (Nd row)) (.int ((k:Int)+2))=#v[.int (el row (k+2))]:=eP (r:=row) (i:=k+2) (by lia)
 have a:=f_way ps (el row k) (el row (k+1)) (el row (k+2)) b
 rw[<- a]
 generalize decide (aZ (bd ps (el row k)) (bd ps (el row (k+1))) (bd ps (el row (k+2))) > 0)=u at *
 have ne:neX (.bl u) (.bl b)=#v[.bl (!decide (u=b))]:=rfl
 generalize Shd ps=H at *
 generalize L3.D.tup (Nd row)=R at *
 unfold cE
 cases hd:decide (u=b) with
 | true =>
  rw[hd] at ne
  refine bX (b:=false) ?_ rfl rfl
  nomatch [f],[s0,s1,s2,ne]
 | false =>
  rw[hd] at ne
  refine dH (b:=true) ?_ rfl (bJ i_c rfl)
  nomatch [f],[s0,s1,s2,ne]
theorem sg {ps:List Pt} (g:GoodSh ps) {row:List Nat} (h:Ris ps.length row) (h2:2<=row.length) {b:Bool}:ft [(Shd ps,.z),(.tup (Nd row),.z),(.bl b,.z)]=some (.ok (.bl (rb (sgn ps) row (way b)),.z),[(Shd ps,.z),(.tup (Nd row),.z),(.bl b,.z)]):=by
 have n:=g.most
 have o:=h.len
 have l:=qi h (by lia)
 have ln:=jd ps
 have a:cL [.tup (Nd row)]=#v[.int (row.length:Int)]:=by simp[mU,c1]
 have c2:ltI (.int (row.length:Int)) (.int 2)=#v[.bl false]:=by simp[cO];lia
 have d:cU [.int ((row.length:Int) - 2)]=some (bE 0 (row.length - 2)):=di (by lia) (by lia)
 obtain ⟨Z',e,v,rfl⟩:=mx (bnd:=aA 3) (b:=cE) (λi:Nat=>L3.D.int (0+(i:Int))) (λk=>decide ((sgn ps).f (el row k) (el row (k+1)) (el row (k+2))=way b)) (λZ=>∃ v,Z=[#v[Shd ps],#v[.tup (Nd row)],#v[.bl b],v]) (r:=.bl false) (f:=.z) (xs:=List.range (row.length - 2)) (Z:=[#v[Shd ps],#v[.tup (Nd row)],#v[.bl b],none]) #[none,rfl] (by
  rintro k m Z ⟨v,rfl⟩
  rw[List.mem_range] at m
  rw[Int.zero_add]
  exact #[_,_,rfl,tU g h (k:=k) (by lia),_,rfl])
 have c:(List.range (row.length - 2)).all (λk=>decide ((sgn ps).f (el row k) (el row (k+1)) (el row (k+2))=way b))=rb (sgn ps) row (way b):=rfl
 rw[c] at e
 have j:dy (aA 3) cE (bE 0 (row.length - 2)) [#v[Shd ps],#v[.tup (Nd row)],#v[.bl b],none]=some (.ok (if rb (sgn ps) row (way b)=true then .nx else .rt (.bl false) .z),[#v[Shd ps],#v[.tup (Nd row)],#v[.bl b],v]):=e
 generalize rb (sgn ps) row (way b)=B at *
 generalize Shd ps=H at *
 generalize L3.D.tup (Nd row)=R at *
 generalize L3.D.int (ps.length:Int)=N at *
 generalize (row.length:Int)=M at *
 apply a7 (Z:=[#v[H],#v[R],#v[.bl b],none]) (Z1:=[#v[H],#v[R],#v[.bl b],v]) rfl rfl
 .unfold j0
  apply aq (Z1:=[#v[H],#v[R],#v[.bl b],none])
  .refine bX (b:=false) (iZ (b:=false) (Z1:=[#v[H],#v[R],#v[.bl b],none]) ?_ rfl ?_) rfl rfl
   .exact dA (cy (aD l (ah (ao rfl) (ah (a8 (ah (ao rfl) ay) rfl ln) ay)) rfl rfl rfl) rfl)
   .exists a,c2
  cases B with
  | true =>
   apply aq (Z1:=[#v[H],#v[R],#v[.bl b],v])
   .apply gh
    ·(repeat' (first | with_reducible apply eK (h3:=d) | infer_instance | exact a | eq_refl))
    .rfl
    .exact j
   .exact bJ i_c rfl
  | false =>
   apply gv
   apply gh
   ·(repeat' (first | with_reducible apply eK (h3:=d) | infer_instance | exact a | eq_refl))
   .rfl
   .exact j
 .rfl
def lx:Nat->Nat->List (List Nat)
 | 0,_=>[[]]
 | k+1,a=>[]::((lx k (a+1)).map (λr=>a::r)++(lx k (a+1)).tail)
abbrev Pl (l:List (List Nat)):List L3.D:=l.map λp=>L3.D.tup (Nd p)
theorem zj:∀ (k a:Nat),∀ r∈lx k a,r.Pairwise (· < ·)/\∀ x∈r,a<=x/\x < a+k
 | 0,a,r,h=>by
  rcases F9.mp h with rfl
  exact #[.nil,λx b=>by cases b]
 | k+1,a,r,h=>by
  rcases FD.mp h with rfl | h
  .exact #[.nil,λx b=>by cases b]
  rcases FH.mp h with h | h
  .obtain ⟨q,c,rfl⟩:=FO.mp h
   obtain ⟨h1,h2⟩:=zj k (a+1) q c
   refine #[List.pairwise_cons.mpr #[λx b=>?_,h1],λx b=>?_]
   .have:=h2 x b;lia
   .rcases FD.mp b with rfl | b
    .lia
    .have:=h2 x b;lia
  .obtain ⟨h1,h2⟩:=zj k (a+1) r (List.mem_of_mem_tail h)
   exact #[h1,λx b=>by have:=h2 x b;lia]
theorem sP {n:Nat} {r:List Nat} (h:r∈lx n 0):Ris n r:=by
 obtain ⟨h1,h2⟩:=zj n 0 r h
 exact #[h1,λx a=>by have:=h2 x a;lia]
theorem m9:∀ ns:List (List Int),ky (ns.map ntD)=some ns
 | []=>rfl
 | n::ns=>by
  have a:=m9 ns
  have e:cN (n.map L3.D.int)=some n:=by
   clear a
   induction n with
   | nil=>rfl
   | cons x n a=>simp[cN,a]
  show (cN (n.map L3.D.int)).bind (λn=>(ky (ns.map ntD)).map (n::·))=_
  rw[e,a];rfl
theorem jU {ns:List (List Int)} {is:List Nat} (h1:zv ns=true) (h2:ns.length<=16777216) (h3:bv ns=some is) (a:is.length<=16777216) (b:(is.all λi=>decide (i < ns.length))=true):jV [.lst (ns.map ntD)]=some (.lst (is.map λi=>ntD (ns.getD i [])),.u):=by
 show (ky (ns.map ntD)).bind _=_
 rw[m9]
 show (if (zv ns && decide (ns.length<=16777216))=true then _ else _)=_
 rw[h1,FW h2,Bool.and_self,if_pos rfl,h3]
 show (if (decide (is.length<=16777216) && is.all λi=>decide (i < ns.length))=true then _ else _)=_
 rw[b,FW a,Bool.and_self,if_pos rfl]
theorem fp1:bp [(.int (1:Int),.z)]=some (.ok (.lst (Pl (lx 1 0)),.u),[(.int (1:Int),.z)]):=by kernel_rfl
theorem fp2:bp [(.int (2:Int),.z)]=some (.ok (.lst (Pl (lx 2 0)),.u),[(.int (2:Int),.z)]):=by kernel_rfl
theorem fp3:bp [(.int (3:Int),.z)]=some (.ok (.lst (Pl (lx 3 0)),.u),[(.int (3:Int),.z)]):=by kernel_rfl
theorem fp4:bp [(.int (4:Int),.z)]=some (.ok (.lst (Pl (lx 4 0)),.u),[(.int (4:Int),.z)]):=by kernel_rfl
theorem fp5:bp [(.int (5:Int),.z)]=some (.ok (.lst (Pl (lx 5 0)),.u),[(.int (5:Int),.z)]):=by kernel_rfl
theorem fq6:(cT (bI cU (aa (ad 0) ak)) (aA 2) dM) [#v[.int (6:Int)],some (.lst [.tup []],.u),none]=some (.ok .nx,[#v[.int (6:Int)],some (.lst (φ6.map ntD),.u),#v[.int (5:Int)]]):=by kernel_rfl
theorem fr6:(L6_4.map λi=>ntD (φ6.getD i []))=Pl (lx 6 0):=by kernel_rfl
theorem fs6:jV [.lst (φ6.map ntD)]=some (.lst (Pl (lx 6 0)),.u):=by
 rw[<- fr6]
 exact jU (by kernel_rfl) (by decide +kernel) sort6 (by decide +kernel) (by decide +kernel)
theorem fp6:bp [(.int (6:Int),.z)]=some (.ok (.lst (Pl (lx 6 0)),.u),[(.int (6:Int),.z)]):=by
 have s:=fs6
 have q:=fq6
 generalize L3.D.lst (φ6.map ntD)=A at *
 generalize L3.D.lst (Pl (lx 6 0))=B at *
 apply a7 (Z:=[#v[.int (6:Int)],none,none]) (Z1:=[#v[.int (6:Int)],some (A,.u),#v[.int (5:Int)]]) rfl rfl
 .unfold iL
  refine aq (Z1:=[#v[.int (6:Int)],some (.lst [.tup []],.u),none]) rfl ?_
  refine aq q ?_
  exact bJ (a8 (ah (ao rfl) ay) rfl s) rfl
 .rfl
theorem fq7:(cT (bI cU (aa (ad 0) ak)) (aA 2) dM) [#v[.int (7:Int)],some (.lst [.tup []],.u),none]=some (.ok .nx,[#v[.int (7:Int)],some (.lst (φ7.map ntD),.u),#v[.int (6:Int)]]):=by kernel_rfl
theorem fr7:(L7_10.map λi=>ntD (φ7.getD i []))=Pl (lx 7 0):=by kernel_rfl
theorem fs7:jV [.lst (φ7.map ntD)]=some (.lst (Pl (lx 7 0)),.u):=by
 rw[<- fr7]
 exact jU (by kernel_rfl) (by decide +kernel) sort7 (by decide +kernel) (by decide +kernel)
theorem fp7:bp [(.int (7:Int),.z)]=some (.ok (.lst (Pl (lx 7 0)),.u),[(.int (7:Int),.z)]):=by
 have s:=fs7
 have q:=fq7
 generalize L3.D.lst (φ7.map ntD)=A at *
 generalize L3.D.lst (Pl (lx 7 0))=B at *
 apply a7 (Z:=[#v[.int (7:Int)],none,none]) (Z1:=[#v[.int (7:Int)],some (A,.u),#v[.int (6:Int)]]) rfl rfl
 .unfold iL
  refine aq (Z1:=[#v[.int (7:Int)],some (.lst [.tup []],.u),none]) rfl ?_
  refine aq q ?_
  exact bJ (a8 (ah (ao rfl) ay) rfl s) rfl
 .rfl
theorem fq8:(cT (bI cU (aa (ad 0) ak)) (aA 2) dM) [#v[.int (8:Int)],some (.lst [.tup []],.u),none]=some (.ok .nx,[#v[.int (8:Int)],some (.lst (φ8.map ntD),.u),#v[.int (7:Int)]]):=by kernel_rfl
theorem fr8:(L8_22.map λi=>ntD (φ8.getD i []))=Pl (lx 8 0):=by kernel_rfl
theorem fs8:jV [.lst (φ8.map ntD)]=some (.lst (Pl (lx 8 0)),.u):=by
 rw[<- fr8]
 exact jU (by kernel_rfl) (by decide +kernel) sort8 (by decide +kernel) (by decide +kernel)
theorem fp8:bp [(.int (8:Int),.z)]=some (.ok (.lst (Pl (lx 8 0)),.u),[(.int (8:Int),.z)]):=by
 have s:=fs8
 have q:=fq8
 generalize L3.D.lst (φ8.map ntD)=A at *
 generalize L3.D.lst (Pl (lx 8 0))=B at *
 apply a7 (Z:=[#v[.int (8:Int)],none,none]) (Z1:=[#v[.int (8:Int)],some (A,.u),#v[.int (7:Int)]]) rfl rfl
 .unfold iL
  refine aq (Z1:=[#v[.int (8:Int)],some (.lst [.tup []],.u),none]) rfl ?_
  refine aq q ?_
  exact bJ (a8 (ah (ao rfl) ay) rfl s) rfl
 .rfl
theorem vN:∀ n:Nat,1<=n->n<=8->bp [(.int (n:Int),.z)]=some (.ok (.lst (Pl (lx n 0)),.u),[(.int (n:Int),.z)])
 | 0,h,_=>absurd h (by decide)
 | 1,_,_=>fp1
 | 2,_,_=>fp2
 | 3,_,_=>fp3
 | 4,_,_=>fp4
 | 5,_,_=>fp5
 | 6,_,_=>fp6
 | 7,_,_=>fp7
 | 8,_,_=>fp8
 | n+9,_,h=>absurd h (by lia)
theorem Cq:∀ l:List Nat,∃ qs,eZ (Nd l)=some qs/\PyData.canLayAll0 qs=true/\PyData.depthAll qs<=10/\qs.length=l.length
 | []=>#[[],rfl,rfl,by decide,rfl]
 | x::l=>by
  obtain ⟨qs,e1,a,c,b⟩:=Cq l
  refine #[.int x::qs,?_,?_,?_,?_]
  .show (match pyD (.int x),eZ (Nd l) with | some p,some ps=>some (p::ps) | _,_=>none)=_
   rw[e1];rfl
  .simp[PyData.canLayAll0,PyData.canLay0,a]
  .simp[PyData.depthAll,PyData.depth];lia
  .simp[b]
theorem Cp:∀ l:List (List Nat),∃ qs,eZ (Pl l)=some qs/\PyData.canLayAll0 qs=true/\PyData.depthAll qs<=20/\qs.length=l.length
 | []=>#[[],rfl,rfl,by decide,rfl]
 | p::l=>by
  obtain ⟨qs,e1,a,d,b⟩:=Cp l
  obtain ⟨rs,f1,f2,c,_⟩:=Cq p
  refine #[.tuple rs::qs,?_,?_,?_,by simp[b]]
  .show (match pyD (.tup (Nd p)),eZ (Pl l) with | some p,some ps=>some (p::ps) | _,_=>none)=_
   have:pyD (.tup (Nd p))=some (.tuple rs):=by unfold pyD;rw[f1];rfl
   rw[e1,this]
  .simp[PyData.canLayAll0,PyData.canLay0,a,f2]
  .simp[PyData.depthAll,PyData.depth];lia
theorem uH (L:List (List Nat)):neX (.lst (Pl L)) (.lst [])=#v[.bl (!decide (L=[]))]:=by
 obtain ⟨qs,e1,b,d,a⟩:=Cp L
 have c:pyD (.lst (Pl L))=some (.list qs):=by unfold pyD;rw[e1];rfl
 have h:eqP (.lst (Pl L)) (.lst [])=some (decide (L=[])):=by
  have p2:pyD (.lst [])=some (.list []):=rfl
  unfold eqP
  rw[c,p2]
  have:((PyData.list qs).canLay0 && (PyData.list []).canLay0 && decide (min (PyData.list qs).depth (PyData.list []).depth<=30))=true:=by
   simp[PyData.canLay0,b,PyData.depth,PyData.canLayAll0];lia
  show (if _ then _ else _)=_
  rw[if_pos this]
  cases L with
  | nil =>
   have:qs=[]:=Gp.mp a
   subst this
   rfl
  | cons x L =>
   cases qs with
   | nil=>simp at a
   | cons y qs=>rfl
 show (eqA (.lst (Pl L)) (.lst [])).map _=_
 have h1:eqA (.lst (Pl L)) (.lst [])=some (decide (L=[])):=h
 rw[h1];rfl
theorem sQ:∀ n:Nat,n<=8->(lx n 0).length<=256
 | 0,_=>by decide +kernel
 | 1,_=>by decide +kernel
 | 2,_=>by decide +kernel
 | 3,_=>by decide +kernel
 | 4,_=>by decide +kernel
 | 5,_=>by decide +kernel
 | 6,_=>by decide +kernel
 | 7,_=>by decide +kernel
 | 8,_=>by decide +kernel
 | n+9,h=>absurd h (by lia)
def rwB (s:Sg) (way:Int) (r:List Nat):Bool:=decide (2<=r.length) && rb s r way
theorem zn (r:List Nat):cL [.tup (Nd r)]=#v[.int (r.length:Int)]:=by simp[mU,c1]
theorem Dr {ps:List Pt} (g:GoodSh ps) {r:List Nat} (h:Ris ps.length r) (b:Bool):ft [(Shd ps,.z),(.tup (Nd r),.z),(.bl b,.z)]=some (.ok (.bl (rwB (sgn ps) (way b) r),.z),[(Shd ps,.z),(.tup (Nd r),.z),(.bl b,.z)]):=by
 have pm:=g.most
 by_cases h2:2<=r.length
 .have e:rwB (sgn ps) (way b) r=rb (sgn ps) r (way b):=by unfold rwB;rw[FW h2,Bool.true_and]
  rw[e]
  exact sg g h h2
 .have e:rwB (sgn ps) (way b) r=false:=by unfold rwB;rw[FX h2,Bool.false_and]
  rw[e]
  have c:=qi h pm
  have a:=jd ps
  have ln:=zn r
  have lt:ltI (.int (r.length:Int)) (.int 2)=#v[.bl true]:=by simp[cO];lia
  generalize L3.D.int (ps.length:Int)=LN at *
  generalize L3.D.int (r.length:Int)=LR at *
  generalize L3.D.tup (Nd r)=R at *
  generalize Shd ps=H at *
  apply a7 (Z:=[#v[H],#v[R],#v[.bl b],none]) (Z1:=[#v[H],#v[R],#v[.bl b],none]) rfl rfl
  .unfold j0
   refine gv (dH (b:=true) (iZ (b:=false) (Z1:=[#v[H],#v[R],#v[.bl b],none]) ?_ rfl ?_) rfl (bJ i_c rfl))
   .exact dA (cy (aD c (ah (ao rfl) (ah (a8 (ah (ao rfl) ay) rfl a) ay)) rfl rfl rfl) rfl)
   .exact cy (aJ (a8 (ah (ao rfl) ay) rfl ln) i_c rfl rfl lt) rfl
  .rfl
abbrev rws (ps:List Pt) (b:Bool):List (List Nat):=(lx ps.length 0).filter (rwB (sgn ps) (way b))
theorem qh {ps:List Pt} (g:GoodSh ps) (a:ps.length<=8) (b:Bool):fm [(Shd ps,.z),(.bl b,.z)]=some (.ok (.lst (Pl (rws ps b)),.u),[(Shd ps,.z),(.bl b,.z)]):=by
 have pr:=vN ps.length g.pos a
 have i:=sQ ps.length a
 have f:=jd ps
 obtain ⟨Y',e,v,rfl⟩:=b9 (bnd:=aA 0) (c:=ie) (elt:=kI) (λY=>∃ v,Y=[v,#v[Shd ps],#v[.bl b]]) (λr:List Nat=>L3.D.tup (Nd r)) (rwB (sgn ps) (way b)) (λr:List Nat=>L3.D.tup (Nd r)) (xs:=lx ps.length 0) (Y:=[none,#v[Shd ps],#v[.bl b]]) #[none,rfl] (by
  rintro r d Y ⟨v,rfl⟩
  have q:=Dr g (sP d) b
  generalize rwB (sgn ps) (way b) r=bb at *
  generalize L3.D.tup (Nd r)=R at *
  generalize Shd ps=H at *
  exact #[[#v[R],#v[H],#v[.bl b]],[#v[R],#v[H],#v[.bl b]],rfl,by unfold ie;(nomatch [q]),λ_=>#[_,rfl],λ_=>#[.pl 0,[#v[R],#v[H],#v[.bl b]],(R,.z),[#v[R],#v[H],#v[.bl b]],ao rfl,rfl,rfl,_,rfl]])
 have el:((lx ps.length 0).map λr:List Nat=>L3.D.tup (Nd r)).length < 16777216:=by rw[FJ];lia
 generalize L3.D.int (ps.length:Int)=LN at *
 change fm _=some (.ok (.lst ((rws ps b).map λr:List Nat=>L3.D.tup (Nd r)),.u),_)
 generalize ((rws ps b).map λr:List Nat=>L3.D.tup (Nd r))=X at *
 have pr:bp [(LN,.z)]=some (.ok (.lst ((lx ps.length 0).map λr:List Nat=>L3.D.tup (Nd r)),.u),[(LN,.z)]):=pr
 generalize ((lx ps.length 0).map λr:List Nat=>L3.D.tup (Nd r))=P at *
 generalize Shd ps=H at *
 have h:kH [#v[H],#v[.bl b]]=some (.ok (.val (.lst X) .u),[#v[H],#v[.bl b]]):=bP (rs:=[.val (.lst P) .u]) (Z1:=[#v[H],#v[.bl b]]) (Z2:=[#v[H],#v[.bl b]]) (by (nomatch [pr],[f])) e el rfl
 apply a7 (Z:=[#v[H],#v[.bl b]]) (Z1:=[#v[H],#v[.bl b]]) rfl rfl
 .unfold qR
  exact bJ h rfl
 .rfl
theorem at_last2 {xs:List L3.D} {a b:L3.D}:aB (.tup (xs++[a,b])) (.int (-2))=#v[a]/\aB (.tup (xs++[a,b])) (.int (-1))=#v[b]:=by
 constructor
 .refine fv ?_
  unfold L2.atI ixN
  rw[if_neg (by decide),if_pos (by simp;lia)]
  rw[show (-2+((xs++[a,b]).length:Int)).toNat=xs.length by simp;lia]
  simp
 .refine fv ?_
  unfold L2.atI ixN
  rw[if_neg (by decide),if_pos (by simp;lia)]
  rw[show (-1+((xs++[a,b]).length:Int)).toNat=xs.length+1 by simp;lia]
  simp
def ov:List L3.D:=[.non,.bl true,.bl false,.int 0,.int (-1),.int 1,.str "",.str "1",.tup [],.lst [],.tup [.int 0],.tup [.int 0,.int 1],.lst [.int 0],.dk [(.inr "a",.int 1)],.int 100000000000000000000000000000,.tup [.tup [.int 0,.int 0]],.tup [.tup [.int 0,.int 1],.tup [.int 1,.int 2]],.str "0,0",.tup [.int 0,.int 1,.int 2],.dt [([.inl 0,.inl 1],.int 2)]]
theorem ov_at (i:Nat) (h:i < 20):∃ v,aB (.lst ov) (.int (i:Int))=#v[v]/\v∈ov:=by
 have a:i < ov.length:=h
 exact ⟨ov[i],t6 (by
  unfold L2.atI L2.ixN
  rw[if_pos (by omega),if_pos (by omega)]
  simp[a]),List.getElem_mem a⟩
theorem AS {n m:Int} {j v:L3.D} (t:aS [(.lst [.int n],.u),(.int 20,.z)]=some (.ok (j,.z),[(.lst [.int m],.u),(.int 20,.z)])) (h:aB (.lst ov) j=#v[v]):lw [(.lst [.int n],.u)]=some (.ok (v,.z),[(.lst [.int m],.u)]):=by
 have a:∀ B:L3.D,(aX 1 (cw (aa (mC .non) (aa (mC (.bl true)) (aa (mC (.bl false)) (aa (mC (.int 0)) (aa (mUn cV (mC (.int 1))) (aa (mC (.int 1)) (aa (mC (.str "")) (aa (mC (.str "1")) (aa (bg ak) (aa (cw ak) (aa (bg (aa (mC (.int 0)) ak)) (aa (bg (aa (mC (.int 0)) (aa (mC (.int 1)) ak))) (aa (cw (aa (mC (.int 0)) ak)) (aa (EC (.inr "a") 1) ak)))))))))))))))) [some (B,.u),none]=some (.ok .nx,[some (B,.u),some (.lst (ov.take 14),.u)]):=λB=>by kernel_rfl
 have b:∀ B:L3.D,(aX 1 (am bF (ad 1) (cw (aa (am sA (mC (.int 10)) (mC (.int 29))) (aa (bg (aa (bg (aa (mC (.int 0)) (aa (mC (.int 0)) ak))) ak)) (aa (bg (aa (bg (aa (mC (.int 0)) (aa (mC (.int 1)) ak))) (aa (bg (aa (mC (.int 1)) (aa (mC (.int 2)) ak))) ak))) (aa (mC (.str "0,0")) (aa (bg (aa (mC (.int 0)) (aa (mC (.int 1)) (aa (mC (.int 2)) ak)))) (aa (EB [0,1] 2) ak))))))))) [some (B,.u),some (.lst (ov.take 14),.u)]=some (.ok .nx,[some (B,.u),some (.lst ov,.u)]):=λB=>by kernel_rfl
 have a:=a (.lst [.int n])
 have b:=b (.lst [.int n])
 generalize L3.D.lst (ov.take 14)=S7 at *
 generalize L3.D.lst ov=SV at *
 apply a7 (Z:=[some (.lst [.int n],.u),none]) (Z1:=[some (.lst [.int m],.u),some (SV,.u)]) rfl rfl
 .unfold uL
  refine aq a ?_
  refine aq b ?_
  apply bJ
  .nomatch [t],[h]
  .rfl
 .rfl
theorem qw {m:Nat}:∀ {ts:List Str},(∀ t∈ts,t.length<=m)->piled ts<=ts.length * (m+2)
 | [],_=>by simp[piled]
 | t::ts,h=>by
  have h1:=h t Fv
  have h2:=qw (ts:=ts) λu hu=>h u (Fw _ hu)
  rw[piled_cons,F5,Nat.succ_mul]
  lia
theorem rP {m:Nat} {ts:List Str} (h:∀ t∈ts,t.length<=m):(tupleText ts).length<=ts.length * (m+2)+3:=by
 have b:=qw h
 have a:(Str.join ", " ts).length<=ts.length * (m+2):=by
  by_cases e:ts=[]
  .subst e;exact Nat.zero_le _
  .have:=join_length_add ts e
   lia
 unfold tupleText
 rw[strLen_append,strLen_append]
 have e1:(("(":String):Str).length=1:=rfl
 have c:((if ts.length == 1 then ",)" else ")":String):Str).length<=2:=by
  cases ts.length == 1 <;> decide
 lia
mutual
theorem yz:∀ (d:L3.D) (p:PyData),pyD d=some p->p.hasDict=false
 | .non,p,e=>by unfold pyD at e;cases e;rfl
 | .bl _,p,e=>by unfold pyD at e;cases e;rfl
 | .int _,p,e=>by unfold pyD at e;cases e;rfl
 | .str _,p,e=>by unfold pyD at e;cases e;rfl
 | .tup xs,p,e=>by
  unfold pyD at e
  obtain ⟨ps,e1,rfl⟩:=Fz.mp e
  simpa[PyData.hasDict] using lf xs ps e1
 | .lst xs,p,e=>by
  unfold pyD at e
  obtain ⟨ps,e1,rfl⟩:=Fz.mp e
  simpa[PyData.hasDict] using lf xs ps e1
 | .fls xs,p,e=>by
  unfold pyD at e
  obtain ⟨ps,e1,rfl⟩:=Fz.mp e
  simpa[PyData.hasDict] using lf xs ps e1
 | .dk _,p,e=>by unfold pyD at e;cases e
 | .dt _,p,e=>by unfold pyD at e;cases e
 | .exc _ _,p,e=>by unfold pyD at e;cases e
theorem lf:∀ (ds:List L3.D) (ps:List PyData),eZ ds=some ps->PyData.hasDictAll ps=false
 | [],ps,e=>by unfold eZ at e;cases e;rfl
 | d::ds,ps,e=>by
  unfold eZ at e
  cases h1:pyD d with
  | none=>rw[h1] at e;cases e
  | some p =>
   cases h2:eZ ds with
   | none=>rw[h1,h2] at e;cases e
   | some qs =>
    rw[h1,h2] at e
    cases e
    simp[PyData.hasDictAll,yz d p h1,lf ds qs h2]
end
def sm (f:L3.D->Option PyData) (k m:Nat) (d:L3.D):Bool:=match f d with
 | some p=>p.showable && decide (p.depth<=k) && decide (p.shown.length<=m)
 | none=>false
structure Sml (k m:Nat) (p:PyData):Prop where
 s:p.showable=true
 d:p.depth<=k
 l:p.shown.length<=m
theorem rZ {f:L3.D->Option PyData} {k m:Nat} {d:L3.D} (h:sm f k m d=true):∃ p,f d=some p/\Sml k m p:=by
 unfold sm at h
 cases e:f d with
 | none=>rw[e] at h;cases h
 | some p =>
  rw[e] at h
  simp only[Bool.and_eq_true,decide_eq_true_eq] at h
  exact #[p,rfl,h.1.1,h.1.2,h.2]
theorem Cl {f:L3.D->Option PyData} {k m:Nat} {d:L3.D} {p:PyData} (e:f d=some p) (h:Sml k m p):sm f k m d=true:=by
 unfold sm
 rw[e]
 simp[h.s,h.d,h.l]
theorem t7 {f:L3.D->Option PyData} {k m a b:Nat} {d:L3.D} (h:sm f k m d=true) (c:k<=a) (hm:m<=b):sm f a b d=true:=by
 obtain ⟨p,e,q⟩:=rZ h
 exact Cl e #[q.s,Gh q.d c,Gh q.l hm]
structure Rdg (f:L3.D->Option PyData) (fs:List L3.D->Option (List PyData)):Prop where
 n:fs []=some []
 c:∀ d ds p ps,f d=some p->fs ds=some ps->fs (d::ds)=some (p::ps)
 t:∀ xs ps,fs xs=some ps->f (.tup xs)=some (.tuple ps)
theorem rdD:Rdg pyD eZ:=#[rfl,λd ds p ps h1 h2=>by unfold eZ;rw[h1,h2],λxs ps h=>by unfold pyD;rw[h];rfl]
theorem xA {f:L3.D->Option PyData} {fs:List L3.D->Option (List PyData)} (R:Rdg f fs) {k m:Nat}:∀ {xs:List L3.D},(∀ x∈xs,sm f k m x=true)->∃ ps,fs xs=some ps/\PyData.showableAll ps=true/\PyData.depthAll ps<=k/\(∀ t∈PyData.shownAll ps,t.length<=m)/\(PyData.shownAll ps).length=xs.length
 | [],_=>#[[],R.n,rfl,Nat.zero_le _,(λt a=>by cases a),rfl]
 | x::xs,h=>by
  obtain ⟨p,a1,a2⟩:=rZ (h x Fv)
  obtain ⟨ps,b1,b2,i,b,e⟩:=xA R (xs:=xs) λy g=>h y (Fw _ g)
  refine #[p::ps,R.c _ _ _ _ a1 b1,by simp[PyData.showableAll,a2.s,b2],by have:=a2.d;simp only[PyData.depthAll];lia,λt a=>?_,by simp[PyData.shownAll,e]]
  rcases FD.mp (show t∈p.shown::PyData.shownAll ps from a) with rfl | a
  .exact a2.l
  .exact b t a
theorem xz {f:L3.D->Option PyData} {fs:List L3.D->Option (List PyData)} (R:Rdg f fs) {k m:Nat} {xs:List L3.D} (h:∀ x∈xs,sm f k m x=true):sm f (k+1) (xs.length * (m+2)+3) (.tup xs)=true:=by
 obtain ⟨ps,b1,b2,c,a,b⟩:=xA R h
 have:=rP a
 rw[b] at this
 exact Cl (R.t xs ps b1) #[by simpa[PyData.showable] using b2,by simp only[PyData.depth];lia,by simpa only [PyData.shown] using this]
theorem yZ (s:Str):neX (.str s) (.str s)=#v[.bl false]:=by
 simp[eqA,eqS]
theorem ints8:(List.range 9).map (λi:Nat=>sm pyD 0 20 (.int (i:Int)))=(List.range 9).map λ_=>true:=by kernel_rfl
theorem sm_Nd {r:List Nat} {n:Nat} (b:n<=8) (h:∀ x∈r,x < n) (c:r.length<=9):sm pyD 1 250 (.tup (Nd r))=true:=by
 refine t7 (xz (k:=0) (m:=20) rdD λd hd=>?_) (by decide) (by rw[FJ];omega)
 obtain ⟨x,a,rfl⟩:=FO.mp hd
 have:=h x a
 exact List.map_inj_left.mp ints8 x (List.mem_range.mpr (by lia))
theorem rp_of {xs:List L3.D} {k m:Nat} (h:sm pyD k m (.tup xs)=true) (a:k<=16) (hm:m<=16777216):∃ t,gb [.tup xs]=#v[.str t]:=by
 obtain ⟨p,e,q⟩:=rZ h
 refine #[p.shown,?_]
 show (pyD (.tup xs)).bind ub=_
 rw[e]
 show (if _ then _ else _)=_
 rw[if_pos]
 simp only[q.s,yz _ p e,Bool.not_false,Bool.true_and,Bool.and_eq_true,decide_eq_true_eq]
 exact #[Gh q.d a,Gh q.l hm]
theorem ye {s:Str} {r:List Nat} {n:Nat} (b:sm pyD 0 20 (.str s)=true) (a:n<=8) (h:∀ x∈r,x < n) (c:r.length<=9):∃ t,gb [.tup [.str s,.tup (Nd r)]]=#v[.str t]:=by
 refine rp_of (k:=2) (m:=2 * (250+2)+3) (xz (k:=1) (m:=250) rdD λd hd=>?_) (by decide) (by decide)
 rcases FD.mp hd with rfl | hd
 .exact t7 b (by decide) (by decide)
 .rw[F9.mp hd]
  exact sm_Nd a h c
section
variable {ps:List Pt} {w:Int}
def An (ps:List Pt) (d:L3.D):Prop:=∀ w:Int,ba [(d,.z),(Shd ps,.z),(.int w,.z)]=some (.ok (.bl false,.z),[(d,.z),(Shd ps,.z),(.int w,.z)])
theorem bx (g:GoodSh ps) (i:ps.length<=8) {r:List Nat} (h:Ris ps.length r):ba [(.tup (Nd r),.z),(Shd ps,.z),(.int w,.z)]=some (.ok (.bl (rwB (sgn ps) w r),.z),[(.tup (Nd r),.z),(Shd ps,.z),(.int w,.z)]):=by
 have at':=lN g i
 have j:=xc ps
 have f:=AR h g.most
 have d:=jd ps
 have ln:=zn r
 have a:=Dq j (row:=r) h g.most (way:=w)
 have lt:ltI (.int (r.length:Int)) (.int 2)=#v[.bl (!decide (2<=r.length))]:=by
  show some (L3.D.bl (decide ((r.length:Int) < 2)),Fl.z)=_
  by_cases h:2<=r.length
  .rw[FW h,FX (by omega)];rfl
  .rw[FX h,FW (by omega)];rfl
 unfold rwB
 generalize decide (2<=r.length)=b at *
 generalize rb (sgn ps) r w=c at *
 generalize tb ps (jm ps.length)=T at *
 generalize L3.D.int (ps.length:Int)=N at *
 generalize L3.D.int (r.length:Int)=LR at *
 generalize L3.D.tup (Nd r)=R at *
 generalize Shd ps=H at *
 apply a7 (Z:=[#v[R],#v[H],#v[.int w],none]) (Z1:=[#v[R],#v[H],#v[.int w],some (.dt T,.u)]) rfl rfl
 .unfold iM
  apply aq (Z1:=[#v[R],#v[H],#v[.int w],some (.dt T,.u)])
  .exact fg (bZ at' (ah (ao rfl) ay) rfl rfl rfl) rfl (Nat.le_of_ble_eq_true rfl) rfl
  have tt:∀ {b2:Bool},(!b)=b2->cOr (dE (cB (au aE (aa (ad 0) (aa (aC cL (aa (ad 1) ak)) ak))))) (cB (am ltI (aC cL (aa (ad 0) ak)) (mC (.int 2)))) [#v[R],#v[H],#v[.int w],some (.dt T,.u)]=some (.ok b2,[#v[R],#v[H],#v[.int w],some (.dt T,.u)]):=λ{b2} e=>by
   subst e
   exact iZ (b:=false) (dA (b:=true) (cy (aD f (ah (ao rfl) (ah (a8 (ah (ao rfl) ay) rfl d) ay)) rfl rfl rfl) rfl)) rfl (cy (aJ (a8 (ah (ao rfl) ay) rfl ln) i_c rfl rfl lt) rfl)
  cases b with
  | true =>
   refine aq (bX (b:=false) (tt rfl) rfl rfl) ?_
   exact bJ (aD a (ah (ao rfl) (ah (ao rfl) (ah (ao rfl) ay))) rfl rfl rfl) rfl
  | false=>exact gv (dH (b:=true) (tt rfl) rfl (bJ i_c rfl))
 .rfl
theorem z7 (g:GoodSh ps) (c:ps.length<=8) {d:L3.D} (h:aE [(d,.z),(.int (ps.length:Int),.z)]=some (.ok (.bl false,.z),[(d,.z),(.int (ps.length:Int),.z)])):An ps d:=λw=>by
 have at':=lN g c
 have a:=jd ps
 generalize tb ps (jm ps.length)=T at *
 generalize L3.D.int (ps.length:Int)=N at *
 generalize Shd ps=H at *
 apply a7 (Z:=[#v[d],#v[H],#v[.int w],none]) (Z1:=[#v[d],#v[H],#v[.int w],some (.dt T,.u)]) rfl rfl
 .unfold iM
  apply aq (Z1:=[#v[d],#v[H],#v[.int w],some (.dt T,.u)])
  .exact fg (bZ at' (ah (ao rfl) ay) rfl rfl rfl) rfl (Nat.le_of_ble_eq_true rfl) rfl
  exact gv (dH (b:=true) (CA (b:=true) (dA (b:=false) (cy (aD h (ah (ao rfl) (ah (a8 (ah (ao rfl) ay) rfl a) ay)) rfl rfl rfl) rfl)) rfl) rfl (bJ i_c rfl))
 .rfl
theorem Fe (g:GoodSh ps) (a:ps.length<=8) {o:L3.D} {c:Bool} (h:aE [(.tup [o],.z),(.int (ps.length:Int),.z)]=some (.ok (.bl c,.z),[(.tup [o],.z),(.int (ps.length:Int),.z)])):An ps (.tup [o]):=λw=>by
 cases c with
 | false=>exact z7 g a h w
 | true =>
  have at':=lN g a
  have e:=jd ps
  have f:cL [.tup [o]]=#v[.int 1]:=rfl
  generalize tb ps (jm ps.length)=T at *
  generalize L3.D.int (ps.length:Int)=N at *
  generalize Shd ps=H at *
  generalize L3.D.tup [o]=d at *
  apply a7 (Z:=[#v[d],#v[H],#v[.int w],none]) (Z1:=[#v[d],#v[H],#v[.int w],some (.dt T,.u)]) rfl rfl
  .unfold iM
   apply aq (Z1:=[#v[d],#v[H],#v[.int w],some (.dt T,.u)])
   .exact fg (bZ at' (ah (ao rfl) ay) rfl rfl rfl) rfl (Nat.le_of_ble_eq_true rfl) rfl
   exact gv (dH (b:=true) (iZ (b:=false) (dA (b:=true) (cy (aD h (ah (ao rfl) (ah (a8 (ah (ao rfl) ay) rfl e) ay)) rfl rfl rfl) rfl)) rfl (cy (aJ (a8 (ah (ao rfl) ay) rfl f) i_c rfl rfl rfl) rfl)) rfl (bJ i_c rfl))
  .rfl
theorem wo {H d:L3.D} {b:Bool} (h:ba [(d,.z),(H,.z),(.int 1,.z)]=some (.ok (.bl b,.z),[(d,.z),(H,.z),(.int 1,.z)])):ee [(d,.z),(H,.z)]=some (.ok (.bl b,.z),[(d,.z),(H,.z)]):=by
 apply a7 (Z:=[#v[d],#v[H]]) (Z1:=[#v[d],#v[H]]) rfl rfl
 .unfold me
  exact bJ (bZ h (ah (ao rfl) (ah (ao rfl) (ah i_c ay))) rfl rfl rfl) rfl
 .rfl
theorem wq {H d:L3.D} {b:Bool} (h:ba [(d,.z),(H,.z),(.int (-1),.z)]=some (.ok (.bl b,.z),[(d,.z),(H,.z),(.int (-1),.z)])):eg [(d,.z),(H,.z)]=some (.ok (.bl b,.z),[(d,.z),(H,.z)]):=by
 apply a7 (Z:=[#v[d],#v[H]]) (Z1:=[#v[d],#v[H]]) rfl rfl
 .unfold mf
  exact bJ (bZ h (ah (ao rfl) (ah (ao rfl) (ah i_c ay))) rfl rfl rfl) rfl
 .rfl
theorem uQ {H c d:L3.D} {b1 b2 b:Bool} (h1:ba [(c,.z),(H,.z),(.int 1,.z)]=some (.ok (.bl b1,.z),[(c,.z),(H,.z),(.int 1,.z)])) (h2:ba [(d,.z),(H,.z),(.int (-1),.z)]=some (.ok (.bl b2,.z),[(d,.z),(H,.z),(.int (-1),.z)])) (a:(!b1 || !b2)=b) :
  cOr (dE (cB (dG ee (aa (ad 1) (aa (ad 0) ak))))) (dE (cB (dG eg (aa (ad 2) (aa (ad 0) ak))))) [#v[H],#v[c],#v[d]]=some (.ok b,[#v[H],#v[c],#v[d]]):=by
 subst a
 have u:=wo h1
 have v:=wq h2
 cases b1 with
 | false=>exact CA (b:=true) (dA (b:=false) (cy (bZ u (ah (ao rfl) (ah (ao rfl) ay)) rfl rfl rfl) rfl)) rfl
 | true=>exact iZ (b:=false) (dA (b:=true) (cy (bZ u (ah (ao rfl) (ah (ao rfl) ay)) rfl rfl rfl) rfl)) rfl (dA (b:=b2) (cy (bZ v (ah (ao rfl) (ah (ao rfl) ay)) rfl rfl rfl) rfl))
theorem zw (g:GoodSh ps) {c d:L3.D} {b1 b2:Bool} (h1:ba [(c,.z),(Shd ps,.z),(.int 1,.z)]=some (.ok (.bl b1,.z),[(c,.z),(Shd ps,.z),(.int 1,.z)])) (h2:ba [(d,.z),(Shd ps,.z),(.int (-1),.z)]=some (.ok (.bl b2,.z),[(d,.z),(Shd ps,.z),(.int (-1),.z)])) (e:(!b1 || !b2)=true) :
  bO [(Shd ps,.z),(c,.z),(d,.z)]=some (.error (.exc "NoRow" []),[(Shd ps,.z),(c,.z),(d,.z)]):=by
 have a:=jW g
 have t:=uQ h1 h2 e
 generalize Shd ps=H at *
 apply CO (Z:=[#v[H],#v[c],#v[d]]) (Z1:=[#v[H],#v[c],#v[d]]) rfl rfl
 .unfold fO
  apply aq (Z1:=[#v[H],#v[c],#v[d]])
  .exact mn (bZ a (ah (ao rfl) ay) rfl rfl rfl)
  exact zA (dH (b:=true) t rfl (uS (ah i_c ay) (by decide)))
 .rfl
theorem EO (g:GoodSh ps) {pre post:List Nat} {a b c d:Nat} (h1:ba [(.tup (Nd (pre++[a,b])),.z),(Shd ps,.z),(.int 1,.z)]=some (.ok (.bl true,.z),[(.tup (Nd (pre++[a,b])),.z),(Shd ps,.z),(.int 1,.z)])) (h2:ba [(.tup (Nd (c::d::post)),.z),(Shd ps,.z),(.int (-1),.z)]=some (.ok (.bl true,.z),[(.tup (Nd (c::d::post)),.z),(Shd ps,.z),(.int (-1),.z)])) (w:a < ps.length) (x:b < ps.length) (hd:d < ps.length) (C:pre.length<=24) (B:post.length<=24) :
  (b≠c/\bO [(Shd ps,.z),(.tup (Nd (pre++[a,b])),.z),(.tup (Nd (c::d::post)),.z)]=some (.error (.exc "Apart" []),[(Shd ps,.z),(.tup (Nd (pre++[a,b])),.z),(.tup (Nd (c::d::post)),.z)])) \/
  (b=c/\bO [(Shd ps,.z),(.tup (Nd (pre++[a,b])),.z),(.tup (Nd (c::d::post)),.z)]=some (.ok (if aZ (bd ps a) (bd ps b) (bd ps d) > 0 then .tup [.str "cup",.tup (Nd (pre++[a,b]++[d]))] else .tup [.str "cap",.tup (Nd (a::c::d::post))],.z),[(Shd ps,.z),(.tup (Nd (pre++[a,b])),.z),(.tup (Nd (c::d::post)),.z)])):=by
 have l:=jW g
 have t:=uQ h1 h2 rfl
 have q:aB (.tup (Nd (pre++[a,b]))) (.int (-1))=#v[.int (b:Int)]:=by rw[jf];exact at_last2.2
 have v:aB (.tup (Nd (pre++[a,b]))) (.int (-2))=#v[.int (a:Int)]:=by rw[jf];exact at_last2.1
 have u:aB (.tup (Nd (c::d::post))) (.int 0)=#v[.int (c:Int)]:=eP (r:=c::d::post) (i:=0) (by simp)
 have s:aB (.tup (Nd (c::d::post))) (.int 1)=#v[.int (d:Int)]:=eP (r:=c::d::post) (i:=1) (by simp)
 have ne:=BH (i:=(b:Int)) (j:=(c:Int))
 have n:=lK (fu w) (fu x) (fu hd) (c9 g.small w) (c9 g.small x)
 have c1:bF (.tup (Nd (pre++[a,b]))) (.tup [.int (d:Int)])=#v[.tup (Nd (pre++[a,b]++[d]))]:=by
  rw[jf (pre++[a,b]) [d]]
  exact lu (by simp;omega)
 have c2:bF (.tup [.int (a:Int)]) (.tup (Nd (c::d::post)))=#v[.tup (Nd (a::c::d::post))]:=lu (A:=[.int (a:Int)]) (by simp;omega)
 have o:eqX (.int (lC (bd ps a) (bd ps b) (bd ps d))) (.int 1)=#v[.bl (decide (aZ (bd ps a) (bd ps b) (bd ps d) > 0))]:=by
  unfold lC
  by_cases h:aZ (bd ps a) (bd ps b) (bd ps d) > 0
  .rw[if_pos h,FW h];rfl
  .rw[if_neg h,FX h];rfl
 clear h1 h2
 by_cases e:b=c
 .refine .inr #[e,?_]
  rw[FW (by omega)] at ne
  have ne:neX (.int (b:Int)) (.int (c:Int))=#v[.bl false]:=ne
  have body:∀ {X:L3.D},aH (sIf (cB (am eqX (au bS (aa (ad 0) (aa (bg (aa (am aB (ad 1) (mUn cV (mC (.int 2)))) (aa (am aB (ad 1) (mUn cV (mC (.int 1)))) (aa (am aB (ad 2) (mC (.int 1))) ak)))) ak))) (mC (.int (1))))) (aP 3 (bg (aa (mC (.str "cup")) (aa (am bF (ad 1) (bg (aa (am aB (ad 2) (mC (.int 1))) ak))) ak)))) bW) (aP 3 (bg (aa (mC (.str "cap")) (aa (am bF (bg (aa (am aB (ad 1) (mUn cV (mC (.int 2)))) ak)) (ad 2)) ak)))) [#v[Shd ps],#v[.tup (Nd (pre++[a,b]))],#v[.tup (Nd (c::d::post))]]=some (.ok (.rt X .z),[#v[Shd ps],#v[.tup (Nd (pre++[a,b]))],#v[.tup (Nd (c::d::post))]]) ->
    bO [(Shd ps,.z),(.tup (Nd (pre++[a,b])),.z),(.tup (Nd (c::d::post)),.z)]=some (.ok (X,.z),[(Shd ps,.z),(.tup (Nd (pre++[a,b])),.z),(.tup (Nd (c::d::post)),.z)]):=by
   intro X y
   clear n c1 c2 o
   generalize L3.D.tup (Nd (pre++[a,b]))=R at *
   generalize L3.D.tup (Nd (c::d::post))=Q at *
   generalize Shd ps=H at *
   apply a7 (Z:=[#v[H],#v[R],#v[Q]]) (Z1:=[#v[H],#v[R],#v[Q]]) rfl rfl
   .unfold fO
    apply aq (Z1:=[#v[H],#v[R],#v[Q]])
    .exact mn (bZ l (ah (ao rfl) ay) rfl rfl rfl)
    refine aq (bX (b:=false) t rfl rfl) ?_
    refine aq (bX (b:=false) (cy (aJ (aJ (ao rfl) (ip i_c rfl rfl) rfl rfl q) (aJ (ao rfl) i_c rfl rfl u) rfl rfl ne) rfl) rfl rfl) y
   .rfl
  refine body ?_
  clear body t l
  generalize L3.D.tup (Nd (pre++[a,b]))=R at *
  generalize L3.D.tup (Nd (c::d::post))=Q at *
  have f:∀ {m:Bool},decide (aZ (bd ps a) (bd ps b) (bd ps d) > 0)=m->cB (am eqX (au bS (aa (ad 0) (aa (bg (aa (am aB (ad 1) (mUn cV (mC (.int 2)))) (aa (am aB (ad 1) (mUn cV (mC (.int 1)))) (aa (am aB (ad 2) (mC (.int 1))) ak)))) ak))) (mC (.int (1)))) [#v[Shd ps],#v[R],#v[Q]]=some (.ok m,[#v[Shd ps],#v[R],#v[Q]]):=λ{m} p=>by
   subst p
   exact cy (aJ (aD n (ah (ao rfl) (ah (bj (ah (aJ (ao rfl) (ip i_c rfl rfl) rfl rfl v) (ah (aJ (ao rfl) (ip i_c rfl rfl) rfl rfl q) (ah (aJ (ao rfl) i_c rfl rfl s) ay))) rfl (Nat.le_of_ble_eq_true rfl)) ay)) rfl rfl rfl) i_c rfl rfl o) rfl
  by_cases k:aZ (bd ps a) (bd ps b) (bd ps d) > 0
  .rw[if_pos k]
   have f:=f (FW k)
   generalize Shd ps=H at *
   exact gv (dH (b:=true) f rfl (bJ (bj (ah i_c (ah (aJ (ao rfl) (bj (ah (aJ (ao rfl) i_c rfl rfl s) ay) rfl (Nat.le_of_ble_eq_true rfl)) rfl rfl c1) ay)) rfl (Nat.le_of_ble_eq_true rfl)) rfl))
  .rw[if_neg k]
   have f:=f (FX k)
   generalize Shd ps=H at *
   exact aq (bX (b:=false) f rfl rfl) (bJ (bj (ah i_c (ah (aJ (bj (ah (aJ (ao rfl) (ip i_c rfl rfl) rfl rfl v) ay) rfl (Nat.le_of_ble_eq_true rfl)) (ao rfl) rfl rfl c2) ay)) rfl (Nat.le_of_ble_eq_true rfl)) rfl)
 .refine .inl #[e,?_]
  rw[FX (by omega)] at ne
  have ne:neX (.int (b:Int)) (.int (c:Int))=#v[.bl true]:=ne
  clear n c1 c2 o
  generalize L3.D.tup (Nd (pre++[a,b]))=R at *
  generalize L3.D.tup (Nd (c::d::post))=Q at *
  generalize Shd ps=H at *
  apply CO (Z:=[#v[H],#v[R],#v[Q]]) (Z1:=[#v[H],#v[R],#v[Q]]) rfl rfl
  .unfold fO
   apply aq (Z1:=[#v[H],#v[R],#v[Q]])
   .exact mn (bZ l (ah (ao rfl) ay) rfl rfl rfl)
   refine aq (bX (b:=false) t rfl rfl) ?_
   exact zA (dH (b:=true) (cy (aJ (aJ (ao rfl) (ip i_c rfl rfl) rfl rfl q) (aJ (ao rfl) i_c rfl rfl u) rfl rfl ne) rfl) rfl (uS (ah i_c ay) (by decide)))
  .rfl
theorem y8 (H a b:L3.D):eG [#v[H],#v[a],#v[b],#v[.exc "NoRow" []]]=some (.ok (.rt (.str "row") .z),[#v[H],#v[a],#v[b],#v[.exc "NoRow" []]]):=by kernel_rfl
theorem y9 (H a b:L3.D):eG [#v[H],#v[a],#v[b],#v[.exc "Apart" []]]=some (.ok (.rt (.str "apart") .z),[#v[H],#v[a],#v[b],#v[.exc "Apart" []]]):=by kernel_rfl
theorem r0 {H a b:L3.D} {c:String} {t:Str} (d:c∈["NoSheet","Apart","NoRow"]) (e:bO [(H,.z),(a,.z),(b,.z)]=some (.error (.exc c []),[(H,.z),(a,.z),(b,.z)])) (hm:eG [#v[H],#v[a],#v[b],#v[.exc c []]]=some (.ok (.rt (.str t) .z),[#v[H],#v[a],#v[b],#v[.exc c []]])):cb [(H,.z),(a,.z),(b,.z)]=some (.ok (.str t,.z),[(H,.z),(a,.z),(b,.z)]):=by
 have e1:dq [#v[H],#v[a],#v[b],none]=some (.error (.exc c []),[#v[H],#v[a],#v[b],none]):=by
  unfold dq
  exact EU (BU e (ah (ao rfl) (ah (ao rfl) (ah (ao rfl) ay))) rfl rfl rfl)
 apply a7 (Z:=[#v[H],#v[a],#v[b],none]) (Z1:=[#v[H],#v[a],#v[b],#v[.exc c []]]) rfl rfl
 .unfold l7
  exact ET e1 d hm
 .rfl
theorem Dm {H a b V:L3.D} (e:bO [(H,.z),(a,.z),(b,.z)]=some (.ok (V,.z),[(H,.z),(a,.z),(b,.z)])):cb [(H,.z),(a,.z),(b,.z)]=some (.ok (V,.z),[(H,.z),(a,.z),(b,.z)]):=by
 have e1:dq [#v[H],#v[a],#v[b],none]=some (.ok (.rt V .z),[#v[H],#v[a],#v[b],none]):=by
  unfold dq
  exact bJ (bZ e (ah (ao rfl) (ah (ao rfl) (ah (ao rfl) ay))) rfl rfl rfl) rfl
 apply a7 (Z:=[#v[H],#v[a],#v[b],none]) (Z1:=[#v[H],#v[a],#v[b],none]) rfl rfl
 .unfold l7
  exact ES e1
 .rfl
end
def Fg (n:Nat):List L3.D:=[.tup [.int 1,.int 0],.tup [.int 0,.int (n:Int)],.lst [.int 0,.int 1],.tup [.int 0,.bl true],.non,.tup [.int (-1),.int 0]]
def oc (n:Nat):L3.D->Bool
 | .int i=>decide (0<=i/\i < n)
 | _=>false
theorem A5:∀ n:Nat,1<=n->n<=8->(Fg n).map (λd=>aE [(d,.z),(.int (n:Int),.z)])=(Fg n).map λd=>some (.ok (.bl false,.z),[(d,.z),(.int (n:Int),.z)])
 | 0,h,_=>absurd h (by decide)
 | 1,_,_=>by kernel_rfl
 | 2,_,_=>by kernel_rfl
 | 3,_,_=>by kernel_rfl
 | 4,_,_=>by kernel_rfl
 | 5,_,_=>by kernel_rfl
 | 6,_,_=>by kernel_rfl
 | 7,_,_=>by kernel_rfl
 | 8,_,_=>by kernel_rfl
 | n+9,_,h=>absurd h (by lia)
theorem A4:∀ n:Nat,1<=n->n<=8->ov.map (λo=>aE [(.tup [o],.z),(.int (n:Int),.z)])=ov.map λo=>some (.ok (.bl (oc n o),.z),[(.tup [o],.z),(.int (n:Int),.z)])
 | 0,h,_=>absurd h (by decide)
 | 1,_,_=>by kernel_rfl
 | 2,_,_=>by kernel_rfl
 | 3,_,_=>by kernel_rfl
 | 4,_,_=>by kernel_rfl
 | 5,_,_=>by kernel_rfl
 | 6,_,_=>by kernel_rfl
 | 7,_,_=>by kernel_rfl
 | 8,_,_=>by kernel_rfl
 | n+9,_,h=>absurd h (by lia)
theorem uE:∀ n:Nat,2<=n->n<=8->[0,1]∈lx n 0
 | 0,h,_=>absurd h (by decide)
 | 1,h,_=>absurd h (by decide)
 | 2,_,_=>by decide +kernel
 | 3,_,_=>by decide +kernel
 | 4,_,_=>by decide +kernel
 | 5,_,_=>by decide +kernel
 | 6,_,_=>by decide +kernel
 | 7,_,_=>by decide +kernel
 | 8,_,_=>by decide +kernel
 | n+9,_,h=>absurd h (by lia)
theorem Bw:aE [(.tup [.int 0,.int 1],.z),(.int 1,.z)]=some (.ok (.bl false,.z),[(.tup [.int 0,.int 1],.z),(.int 1,.z)]):=by kernel_rfl
section
variable {ps:List Pt}
theorem zD (g:GoodSh ps) (a:ps.length<=8) (w:Int):∃ b,ba [(.tup [.int 0,.int 1],.z),(Shd ps,.z),(.int w,.z)]=some (.ok (.bl b,.z),[(.tup [.int 0,.int 1],.z),(Shd ps,.z),(.int w,.z)]):=by
 by_cases h:2<=ps.length
 .exact #[_,bx g a (r:=[0,1]) (sP (uE _ h a))]
 .have e:ps.length=1:=by have:=g.pos;omega
  exact #[false,z7 g a (by rw[e];exact Bw) w]
theorem Ca (g:GoodSh ps) (a:ps.length<=8) {o d:L3.D} (c:o∈ov) (hd:d∈[.tup [],.tup [.int 0],.tup [.int 1,.int 0],.tup [.int 0,.int (ps.length:Int)],.lst [.int 0,.int 1],.tup [.int 0,.bl true],.non,.tup [.int (-1),.int 0],.tup [o]]):An ps d:=by
 have pos:=g.pos
 have short:∀ r:List Nat,r.length < 2->(∀ x∈r,x < ps.length)->An ps (.tup (Nd r)):=λr f e w=>by
  have:=bx (w:=w) g a (r:=r) #[by match r,f with | [],_=>exact .nil | [_],_=>exact List.pairwise_singleton ..,e]
  rwa [show rwB (sgn ps) w r=false by unfold rwB;rw[FX (by omega),Bool.false_and]] at this
 have b:=List.map_inj_left.mp (A5 ps.length pos a)
 rcases FD.mp hd with rfl | hd
 .exact short [] (by decide) (λx h=>by cases h)
 rcases FD.mp hd with rfl | hd
 .exact short [0] (by decide) (λx h=>by rw[F9.mp h];exact pos)
 rcases FH.mp (show d∈Fg ps.length++[.tup [o]] from hd) with hd | hd
 .exact z7 g a (b d hd)
 .rw[F9.mp hd]
  exact Fe g a (List.map_inj_left.mp (A4 ps.length pos a) o c)
theorem EG (g:GoodSh ps) (a:ps.length<=8) {d:L3.D} (h:An ps d) {S K B C A:L3.D} (v6 v7 v10 v11 v12 v13:Option (L3.D×Fl)) :
  jE [#v[S],#v[K],some (B,.u),#v[Shd ps],#v[C],#v[A],v6,v7,#v[.tup [.int 0,.int 1]],#v[d],v10,v11,v12,v13]=some (.ok .nx,[#v[S],#v[K],some (B,.u),#v[Shd ps],#v[C],#v[A],v6,v7,#v[.tup [.int 0,.int 1]],#v[d],v10,v11,v12,v13]):=by
 obtain ⟨b1,g1⟩:=zD g a 1
 obtain ⟨b2,g2⟩:=zD g a (-1)
 have e1:=r0 (by decide) (zw g (h 1) g2 rfl) (y8 _ _ _)
 have c:=r0 (by decide) (zw g g1 (h (-1)) (by cases b1 <;> rfl)) (y8 _ _ _)
 generalize Shd ps=H at *
 generalize L3.D.tup [.int 0,.int 1]=G at *
 unfold jE
 exact bX (b:=false) (iZ (b:=false) (cy (aJ (aD e1 (ah (ao rfl) (ah (ao rfl) (ah (ao rfl) ay))) rfl rfl rfl) i_c rfl rfl rfl) rfl) rfl (cy (aJ (aD c (ah (ao rfl) (ah (ao rfl) (ah (ao rfl) ay))) rfl rfl rfl) i_c rfl rfl rfl) rfl)) rfl rfl
structure RowB (ps:List Pt) (b:Bool) (r:List Nat):Prop where
 ris:Ris ps.length r
 bw:rwB (sgn ps) (way b) r=true
theorem oT {b:Bool} {r:List Nat} (h:r∈rws ps b):RowB ps b r:=#[sP (Gb.mp h).1,(Gb.mp h).2]
theorem RowB.two {b:Bool} {r:List Nat} (h:RowB ps b r):2<=r.length:=by
 have:=h.bw
 unfold rwB at this
 exact of_decide_eq_true (Bool.and_eq_true .. ▸ this).1
theorem sel {X:List (List Nat)} (h:X≠[]) (n:Int):∃ r∈X,aB (.lst (Pl X)) (.int (n % (X.length:Int)))=#v[.tup (Nd r)]:=by
 have h0:0 < X.length:=List.length_pos_iff.mpr h
 have h1:=Int.emod_nonneg n (b:=(X.length:Int)) (by omega)
 have h2:=Int.emod_lt_of_pos n (b:=(X.length:Int)) (by omega)
 obtain ⟨m,hm⟩:=Int.eq_ofNat_of_zero_le h1
 rw[hm] at h2 ⊢
 have hi:m < X.length:=by omega
 exact #[X[m],List.getElem_mem hi,t6 (Aa (by rw[FP,FE hi];rfl))]
theorem EF (X:List (List Nat)):cL [.lst (Pl X)]=#v[.int (X.length:Int)]:=by simp[mU,c1]
theorem ql {r:List Nat} (h:2<=r.length):∃ pre a b,r=pre++[a,b]:=by
 refine #[r.take (r.length - 2),el r (r.length - 2),el r (r.length - 1),?_]
 apply List.ext_getElem?
 intro i
 by_cases h1:i < r.length - 2
 .rw[Gd (by rw[F6];omega),List.getElem?_take,if_pos h1]
 .rw[List.getElem?_append_right (by rw[F6];omega),F6,Nat.min_eq_left (by omega)]
  by_cases h2:i=r.length - 2
  .rw[h2,Nat.sub_self,ki (by omega)];rfl
  .by_cases h3:i=r.length - 1
   .rw[h3,show r.length - 1 - (r.length - 2)=1 by omega,ki (by omega)];rfl
   .rw[List.getElem?_eq_none (by omega),List.getElem?_eq_none (by simp;omega)]
theorem yg (g:GoodSh ps) (I:ps.length<=8) {r q:List Nat} (l:RowB ps true r) (p:RowB ps false q) {S K B C A:L3.D} {v6 v7 v8 v9 v12 v13:Option (L3.D×Fl)}:∃ σ,
  (aH (aX 13 (mC (.str "apart"))) (aH (sIf (cB (am eqX (am aB (ad 10) (mUn cV (mC (.int 1)))) (am aB (ad 11) (mC (.int 0))))) (aH (aX 13 (bg (aa (mC (.str "cap")) (aa (am bF (bg (aa (am aB (ad 10) (mUn cV (mC (.int 2)))) ak)) (ad 11)) ak)))) (sIf (cB (au jg (aa (ad 3) (aa (am aB (ad 10) (mUn cV (mC (.int 2)))) (aa (am aB (ad 10) (mUn cV (mC (.int 1)))) (aa (am aB (ad 11) (mC (.int 1))) ak)))))) (aX 13 (bg (aa (mC (.str "cup")) (aa (am bF (ad 10) (bg (aa (am aB (ad 11) (mC (.int 1))) ak))) ak)))) bW)) bW) (sIf (cB (am neX (aC gb (aa (au cb (aa (ad 3) (aa (ad 10) (aa (ad 11) ak)))) ak)) (aC gb (aa (ad 13) ak)))) (aP 1 (mC (.bl false))) bW)))
   [#v[S],#v[K],some (B,.u),#v[Shd ps],#v[C],#v[A],v6,v7,v8,v9,#v[.tup (Nd r)],#v[.tup (Nd q)],v12,v13]=some (.ok .nx,[#v[S],#v[K],some (B,.u),#v[Shd ps],#v[C],#v[A],v6,v7,v8,v9,#v[.tup (Nd r)],#v[.tup (Nd q)],v12,σ]):=by
 have J:=l.ris.len
 have F:=p.ris.len
 obtain ⟨pre,a,b,rfl⟩:=ql l.two
 obtain ⟨c,d,post,rfl⟩:∃ c d post,q=c::d::post:=by
  have:=p.two
  match q,this with
  | c::d::post,_=>exact #[c,d,post,rfl]
 have b1:=bx (w:=1) g I l.ris
 rw[show rwB (sgn ps) 1 (pre++[a,b])=true from l.bw] at b1
 have b2:=bx (w:=-1) g I p.ris
 rw[show rwB (sgn ps) (-1) (c::d::post)=true from p.bw] at b2
 have N:a < ps.length:=l.ris.lt a (by simp)
 have W:b < ps.length:=l.ris.lt b (by simp)
 have hd:d < ps.length:=p.ris.lt d (by simp)
 have k:=EO g b1 b2 N W hd (by simp at J;omega) (by simp at F;omega)
 have up:=xO g N W hd
 have G:aB (.tup (Nd (pre++[a,b]))) (.int (-1))=#v[.int (b:Int)]:=by rw[jf];exact at_last2.2
 have y:aB (.tup (Nd (pre++[a,b]))) (.int (-2))=#v[.int (a:Int)]:=by rw[jf];exact at_last2.1
 have φ:aB (.tup (Nd (c::d::post))) (.int 0)=#v[.int (c:Int)]:=eP (r:=c::d::post) (i:=0) (by simp)
 have P:aB (.tup (Nd (c::d::post))) (.int 1)=#v[.int (d:Int)]:=eP (r:=c::d::post) (i:=1) (by simp)
 have eq:eqX (.int (b:Int)) (.int (c:Int))=#v[.bl (decide ((b:Int)=(c:Int)))]:=rfl
 have c1:bF (.tup (Nd (pre++[a,b]))) (.tup [.int (d:Int)])=#v[.tup (Nd (pre++[a,b]++[d]))]:=by
  rw[jf (pre++[a,b]) [d]]
  exact lu (by simp at J ⊢;omega)
 have c2:bF (.tup [.int (a:Int)]) (.tup (Nd (c::d::post)))=#v[.tup (Nd (a::c::d::post))]:=lu (A:=[.int (a:Int)]) (by simp at F ⊢;omega)
 have o:∃ t,gb [.tup [.str "cup",.tup (Nd (pre++[a,b]++[d]))]]=#v[.str t]:=ye (n:=ps.length) (by kernel_rfl) I (λx L=>by
  rcases FH.mp L with h | h
  .exact l.ris.lt x h
  .rw[F9.mp h];exact hd) (by simp at J ⊢;omega)
 have m:∃ t,gb [.tup [.str "cap",.tup (Nd (a::c::d::post))]]=#v[.str t]:=ye (n:=ps.length) (by kernel_rfl) I (λx L=>by
  rcases FD.mp L with h | h
  .rw[h];exact N
  .exact p.ris.lt x h) (by simp at F ⊢;omega)
 obtain ⟨t1,o⟩:=o
 obtain ⟨τ,m⟩:=m
 have ρ:=yZ t1
 have X:=yZ τ
 clear b1 b2 l p J F
 generalize L3.D.tup (Nd (pre++[a,b]))=R at *
 generalize L3.D.tup (Nd (c::d::post))=Q at *
 generalize L3.D.tup (Nd (pre++[a,b]++[d]))=RD at *
 generalize L3.D.tup (Nd (a::c::d::post))=AQ at *
 have fin:∀ {V:L3.D} {t:Str} {v:Option (L3.D×Fl)},cb [(Shd ps,.z),(R,.z),(Q,.z)]=some (.ok (V,.z),[(Shd ps,.z),(R,.z),(Q,.z)])->gb [V]=#v[.str t]->neX (.str t) (.str t)=#v[.bl false] ->
   (sIf (cB (am neX (aC gb (aa (au cb (aa (ad 3) (aa (ad 10) (aa (ad 11) ak)))) ak)) (aC gb (aa (ad 13) ak)))) (aP 1 (mC (.bl false))) bW) [#v[S],#v[K],some (B,.u),#v[Shd ps],#v[C],#v[A],v6,v7,v8,v9,#v[R],#v[Q],v12,#v[V]]=some (.ok .nx,[#v[S],#v[K],some (B,.u),#v[Shd ps],#v[C],#v[A],v6,v7,v8,v9,#v[R],#v[Q],v12,#v[V]]):=by
  intro V t v e T ne
  clear k up
  generalize Shd ps=H at *
  exact bX (b:=false) (cy (aJ (a8 (ah (aD e (ah (ao rfl) (ah (ao rfl) (ah (ao rfl) ay))) rfl rfl rfl) ay) rfl T) (a8 (ah (ao rfl) ay) rfl T) rfl rfl ne) rfl) rfl rfl
 rcases k with ⟨M,k⟩ | ⟨M,k⟩
 .have j:=r0 (by decide) k (y9 _ _ _)
  rw[FX (by omega)] at eq
  refine #[#v[.str "apart"],?_]
  have f:=fin (v:=none) j (t:="'apart'") (by kernel_rfl) (by kernel_rfl)
  clear fin k up j
  generalize Shd ps=H at *
  apply aq (Z1:=[#v[S],#v[K],some (B,.u),#v[H],#v[C],#v[A],v6,v7,v8,v9,#v[R],#v[Q],v12,#v[.str "apart"]])
  .rfl
  refine aq (bX (b:=false) (cy (aJ (aJ (ao rfl) (ip i_c rfl rfl) rfl rfl G) (aJ (ao rfl) i_c rfl rfl φ) rfl rfl eq) rfl) rfl rfl) f
 .rw[FW (by omega)] at eq
  have j:=Dm k
  have s:cB (am eqX (am aB (ad 10) (mUn cV (mC (.int 1)))) (am aB (ad 11) (mC (.int 0)))) [#v[S],#v[K],some (B,.u),#v[Shd ps],#v[C],#v[A],v6,v7,v8,v9,#v[R],#v[Q],v12,#v[.str "apart"]]=some (.ok true,[#v[S],#v[K],some (B,.u),#v[Shd ps],#v[C],#v[A],v6,v7,v8,v9,#v[R],#v[Q],v12,#v[.str "apart"]]) :=
   cy (aJ (aJ (ao rfl) (ip i_c rfl rfl) rfl rfl G) (aJ (ao rfl) i_c rfl rfl φ) rfl rfl eq) rfl
  by_cases E:aZ (bd ps a) (bd ps b) (bd ps d) > 0
  .rw[if_pos E] at j
   rw[FW E] at up
   have f:=fin (v:=none) j o ρ
   refine #[#v[.tup [.str "cup",RD]],?_]
   clear fin k j
   generalize Shd ps=H at *
   apply aq (Z1:=[#v[S],#v[K],some (B,.u),#v[H],#v[C],#v[A],v6,v7,v8,v9,#v[R],#v[Q],v12,#v[.str "apart"]])
   .rfl
   refine aq (dH (b:=true) s rfl (aq (Z1:=[#v[S],#v[K],some (B,.u),#v[H],#v[C],#v[A],v6,v7,v8,v9,#v[R],#v[Q],v12,#v[.tup [.str "cap",AQ]]]) (fg (bj (ah i_c (ah (aJ (bj (ah (aJ (ao rfl) (ip i_c rfl rfl) rfl rfl y) ay) rfl (Nat.le_of_ble_eq_true rfl)) (ao rfl) rfl rfl c2) ay)) rfl (Nat.le_of_ble_eq_true rfl)) rfl (Nat.le_of_ble_eq_true rfl) rfl) (dH (b:=true) (cy (aD up (ah (ao rfl) (ah (aJ (ao rfl) (ip i_c rfl rfl) rfl rfl y) (ah (aJ (ao rfl) (ip i_c rfl rfl) rfl rfl G) (ah (aJ (ao rfl) i_c rfl rfl P) ay)))) rfl rfl rfl) rfl) rfl (fg (bj (ah i_c (ah (aJ (ao rfl) (bj (ah (aJ (ao rfl) i_c rfl rfl P) ay) rfl (Nat.le_of_ble_eq_true rfl)) rfl rfl c1) ay)) rfl (Nat.le_of_ble_eq_true rfl)) rfl (Nat.le_of_ble_eq_true rfl) rfl)))) f
  .rw[if_neg E] at j
   rw[FX E] at up
   have f:=fin (v:=none) j m X
   refine #[#v[.tup [.str "cap",AQ]],?_]
   clear fin k j
   generalize Shd ps=H at *
   apply aq (Z1:=[#v[S],#v[K],some (B,.u),#v[H],#v[C],#v[A],v6,v7,v8,v9,#v[R],#v[Q],v12,#v[.str "apart"]])
   .rfl
   refine aq (dH (b:=true) s rfl (aq (Z1:=[#v[S],#v[K],some (B,.u),#v[H],#v[C],#v[A],v6,v7,v8,v9,#v[R],#v[Q],v12,#v[.tup [.str "cap",AQ]]]) (fg (bj (ah i_c (ah (aJ (bj (ah (aJ (ao rfl) (ip i_c rfl rfl) rfl rfl y) ay) rfl (Nat.le_of_ble_eq_true rfl)) (ao rfl) rfl rfl c2) ay)) rfl (Nat.le_of_ble_eq_true rfl)) rfl (Nat.le_of_ble_eq_true rfl) rfl) (bX (b:=false) (cy (aD up (ah (ao rfl) (ah (aJ (ao rfl) (ip i_c rfl rfl) rfl rfl y) (ah (aJ (ao rfl) (ip i_c rfl rfl) rfl rfl G) (ah (aJ (ao rfl) i_c rfl rfl P) ay)))) rfl rfl rfl) rfl) rfl rfl))) f
end
section
variable {ps:List Pt}
theorem EH (g:GoodSh ps) (ρ:ps.length<=8) {X τ:List (List Nat)} (F:∀ r∈X,RowB ps true r) (H:∀ r∈τ,RowB ps false r) (J:X≠[]) (σ:τ≠[]) (lX:X.length<=256) (P:τ.length<=256) (n:Int) {S K:L3.D} (v6 v7 v8 v9 v10 v11 v12 v13:Option (L3.D×Fl)) :
  ∃ j w x s f,ic [#v[S],#v[K],some (.lst [.int n],.u),#v[Shd ps],#v[.lst (Pl X)],#v[.lst (Pl τ)],v6,v7,v8,v9,v10,v11,v12,v13]=some (.ok .nx,[#v[S],#v[K],some (.lst [.int j],.u),#v[Shd ps],#v[.lst (Pl X)],#v[.lst (Pl τ)],v6,v7,v8,v9,w,x,s,f]):=by
 obtain ⟨r,L,e1⟩:=sel J n
 have t1:=dU n (X.length:Int) (by have:=List.length_pos_iff.mpr J;omega)
 generalize ar:n / (X.length:Int)=n1 at t1
 obtain ⟨q,l,V⟩:=sel σ n1
 have I:=dU n1 (τ.length:Int) (by have:=List.length_pos_iff.mpr σ;omega)
 generalize ae:n1 / (τ.length:Int)=n2 at I
 have y:=EF X
 have φ:=EF τ
 obtain ⟨pre,a,b,o⟩:=ql (F r L).two
 have l1:aB (.tup (Nd r)) (.int (-1))=#v[.int (b:Int)]:=by rw[o,jf];exact at_last2.2
 obtain ⟨Y,G,av,rfl⟩:=b9 (bnd:=aA 0) (c:=l6) (elt:=qQ) (λY=>∃ v,Y=[v,#v[.tup (Nd r)]]) (λq:List Nat=>L3.D.tup (Nd q)) (λq=>decide ((el q 0:Int)=(b:Int))) (λq:List Nat=>L3.D.tup (Nd q)) (xs:=τ) (Y:=[none,#v[.tup (Nd r)]]) #[none,rfl] (by
  rintro q l Y ⟨v,rfl⟩
  have W:aB (.tup (Nd q)) (.int 0)=#v[.int (el q 0:Int)]:=eP (r:=q) (i:=0) (by have:=(H q l).two;omega)
  have eq:eqX (.int (el q 0:Int)) (.int (b:Int))=#v[.bl (decide ((el q 0:Int)=(b:Int)))]:=rfl
  generalize decide ((el q 0:Int)=(b:Int))=m at *
  generalize L3.D.tup (Nd q)=Q at *
  generalize L3.D.tup (Nd r)=R at *
  exact #[[#v[Q],#v[R]],[#v[Q],#v[R]],rfl,by unfold l6;exact cy (aJ (aJ (ao rfl) i_c rfl rfl W) (aJ (ao rfl) (ip i_c rfl rfl) rfl rfl l1) rfl rfl eq) rfl,λ_=>#[_,rfl],λ_=>#[.pl 0,[#v[Q],#v[R]],(Q,.z),[#v[Q],#v[R]],ao rfl,rfl,rfl,_,rfl]])
 generalize N:τ.filter (λq=>decide ((el q 0:Int)=(b:Int)))=M at G
 have E:∀ q∈M,q∈τ:=λq h=>by rw[<- N] at h;exact (Gb.mp h).1
 have lM:M.length<=256:=by rw[<- N];exact Gh (List.length_filter_le _ _) P
 have p:(τ.map λq:List Nat=>L3.D.tup (Nd q)).length < 16777216:=by rw[FJ];omega
 have t:∀ B:L3.D,qP [#v[S],#v[K],some (B,.u),#v[Shd ps],#v[.lst (Pl X)],#v[.lst (Pl τ)],v6,v7,v8,v9,#v[.tup (Nd r)],#v[.tup (Nd q)],v12,v13]=some (.ok (.val (.lst (Pl M)) .u),[#v[S],#v[K],some (B,.u),#v[Shd ps],#v[.lst (Pl X)],#v[.lst (Pl τ)],v6,v7,v8,v9,#v[.tup (Nd r)],#v[.tup (Nd q)],v12,v13]):=λB =>
  bP (rs:=[.pl 5]) (Z1:=[#v[S],#v[K],some (B,.u),#v[Shd ps],#v[.lst (Pl X)],#v[.lst (Pl τ)],v6,v7,v8,v9,#v[.tup (Nd r)],#v[.tup (Nd q)],v12,v13]) rfl G p rfl
 have nm:=uH M
 have t3:=dU n2 3 (by decide)
 have pick:∃ j d,d∈τ/\(sIf (ko (cB (am neX (ad 12) (cw ak))) (cB (am gtI (au aS (aa (ad 2) (aa (mC (.int 3)) ak))) (mC (.int 0))))) (aX 11 (am aB (ad 12) (au aS (aa (ad 2) (aa (aC cL (aa (ad 12) ak)) ak))))) bW) [#v[S],#v[K],some (.lst [.int n2],.u),#v[Shd ps],#v[.lst (Pl X)],#v[.lst (Pl τ)],v6,v7,v8,v9,#v[.tup (Nd r)],#v[.tup (Nd q)],some (.lst (Pl M),.u),v13]=some (.ok .nx,[#v[S],#v[K],some (.lst [.int j],.u),#v[Shd ps],#v[.lst (Pl X)],#v[.lst (Pl τ)],v6,v7,v8,v9,#v[.tup (Nd r)],#v[.tup (Nd d)],some (.lst (Pl M),.u),v13]):=by
  by_cases h0:M=[]
  .rw[FW h0] at nm
   refine #[n2,q,l,?_]
   exact bX (b:=false) (EZ (b:=false) (cy (aJ (ao rfl) (bj ay rfl (Nat.le_of_ble_eq_true rfl)) rfl rfl nm) rfl) rfl) rfl rfl
  .rw[FX h0] at nm
   have gt:gtI (.int (n2 % 3)) (.int 0)=#v[.bl (decide (n2 % 3 > 0))]:=rfl
   have k:∀ {m:Bool},decide (n2 % 3 > 0)=m->ko (cB (am neX (ad 12) (cw ak))) (cB (am gtI (au aS (aa (ad 2) (aa (mC (.int 3)) ak))) (mC (.int 0)))) [#v[S],#v[K],some (.lst [.int n2],.u),#v[Shd ps],#v[.lst (Pl X)],#v[.lst (Pl τ)],v6,v7,v8,v9,#v[.tup (Nd r)],#v[.tup (Nd q)],some (.lst (Pl M),.u),v13]=some (.ok m,[#v[S],#v[K],some (.lst [.int (n2 / 3)],.u),#v[Shd ps],#v[.lst (Pl X)],#v[.lst (Pl τ)],v6,v7,v8,v9,#v[.tup (Nd r)],#v[.tup (Nd q)],some (.lst (Pl M),.u),v13]):=λ{m} T=>by
    subst T
    exact EY (b:=true) (cy (aJ (ao rfl) (bj ay rfl (Nat.le_of_ble_eq_true rfl)) rfl rfl nm) rfl) rfl (cy (aJ (aD (Z2:=[#v[S],#v[K],some (.lst [.int (n2 / 3)],.u),#v[Shd ps],#v[.lst (Pl X)],#v[.lst (Pl τ)],v6,v7,v8,v9,#v[.tup (Nd r)],#v[.tup (Nd q)],some (.lst (Pl M),.u),v13]) t3 (ah (ao rfl) (ah i_c ay)) rfl rfl rfl) i_c rfl rfl gt) rfl)
   by_cases h3:n2 % 3 > 0
   .obtain ⟨d,e,e4⟩:=sel h0 (n2 / 3)
    have t4:=dU (n2 / 3) (M.length:Int) (by have:=List.length_pos_iff.mpr h0;omega)
    have lm:=EF M
    refine #[n2 / 3 / (M.length:Int),d,E d e,?_]
    refine dH (b:=true) (k (FW h3)) rfl ?_
    exact fg (aJ (ao rfl) (aD (Z2:=[#v[S],#v[K],some (.lst [.int (n2 / 3 / (M.length:Int))],.u),#v[Shd ps],#v[.lst (Pl X)],#v[.lst (Pl τ)],v6,v7,v8,v9,#v[.tup (Nd r)],#v[.tup (Nd q)],some (.lst (Pl M),.u),v13]) t4 (ah (ao rfl) (ah (a8 (ah (ao rfl) ay) rfl lm) ay)) rfl rfl rfl) rfl rfl e4) rfl (Nat.le_of_ble_eq_true rfl) rfl
   .exact #[n2 / 3,q,l,bX (b:=false) (k (FX h3)) rfl rfl]
 obtain ⟨j,d,e,pk⟩:=pick
 obtain ⟨f,fin⟩:=yg g ρ (F r L) (H d e) (S:=S) (K:=K) (B:=.lst [.int j]) (C:=.lst (Pl X)) (A:=.lst (Pl τ)) (v6:=v6) (v7:=v7) (v8:=v8) (v9:=v9) (v12:=some (.lst (Pl M),.u)) (v13:=v13)
 refine #[j,#v[.tup (Nd r)],#v[.tup (Nd d)],some (.lst (Pl M),.u),f,?_]
 have t:=t (.lst [.int n2])
 unfold ic
 apply aq (Z1:=[#v[S],#v[K],some (.lst [.int n1],.u),#v[Shd ps],#v[.lst (Pl X)],#v[.lst (Pl τ)],v6,v7,v8,v9,#v[.tup (Nd r)],v11,v12,v13])
 .exact fg (aJ (ao rfl) (aD (Z2:=[#v[S],#v[K],some (.lst [.int n1],.u),#v[Shd ps],#v[.lst (Pl X)],#v[.lst (Pl τ)],v6,v7,v8,v9,v10,v11,v12,v13]) t1 (ah (ao rfl) (ah (a8 (ah (ao rfl) ay) rfl y) ay)) rfl rfl rfl) rfl rfl e1) rfl (Nat.le_of_ble_eq_true rfl) rfl
 apply aq (Z1:=[#v[S],#v[K],some (.lst [.int n2],.u),#v[Shd ps],#v[.lst (Pl X)],#v[.lst (Pl τ)],v6,v7,v8,v9,#v[.tup (Nd r)],#v[.tup (Nd q)],v12,v13])
 .exact fg (aJ (ao rfl) (aD (Z2:=[#v[S],#v[K],some (.lst [.int n2],.u),#v[Shd ps],#v[.lst (Pl X)],#v[.lst (Pl τ)],v6,v7,v8,v9,#v[.tup (Nd r)],v11,v12,v13]) I (ah (ao rfl) (ah (a8 (ah (ao rfl) ay) rfl φ) ay)) rfl rfl rfl) rfl rfl V) rfl (Nat.le_of_ble_eq_true rfl) rfl
 apply aq (Z1:=[#v[S],#v[K],some (.lst [.int n2],.u),#v[Shd ps],#v[.lst (Pl X)],#v[.lst (Pl τ)],v6,v7,v8,v9,#v[.tup (Nd r)],#v[.tup (Nd q)],some (.lst (Pl M),.u),v13])
 .exact fg t rfl (Nat.le_of_ble_eq_true rfl) rfl
 exact aq pk fin
end
theorem zp {ns:List Int} (i:Nat) (v2 J v4 F v6 v7 v8 v9 v10 v11 v12 v13:Option (L3.D×Fl)):∃ w2 w3 ρ w5 R φ w8 G B C x A,jD [#v[.fls (ns.map .int)],#v[.int (i:Int)],v2,J,v4,F,v6,v7,v8,v9,v10,v11,v12,v13]=some (.ok .nx,[#v[.fls (ns.map .int)],#v[.int (i:Int)],w2,w3,ρ,w5,R,φ,w8,G,B,C,x,A]):=by
 obtain ⟨I,eb⟩:=AW ns i
 obtain ⟨y,ps,es,g,hl⟩:=vJ I 8 (by decide) (by decide)
 have w:ps.length<=8:=by lia
 have es:fj [(.lst [.int I],.u),(.int 8,.z)]=some (.ok (Shd ps,.z),[(.lst [.int y],.u),(.int 8,.z)]):=es
 have rx:=qh g w true
 have ry:=qh g w false
 have L:(rws ps true).length<=256:=Gh (List.length_filter_le _ _) (sQ _ w)
 have M:(rws ps false).length<=256:=Gh (List.length_filter_le _ _) (sQ _ w)
 have nx:=uH (rws ps true)
 have Q:rws ps true≠[]->rws ps false≠[]:=λh z=>by
  obtain ⟨r,E⟩:=List.exists_mem_of_ne_nil _ h
  have h1:=oT E
  have h2:=h1.two
  have h3:=h1.ris.len
  have:[0,1]∈rws ps false:=Gb.mpr #[uE _ (by omega) w,rfl]
  rw[z] at this
  cases this
 have s:∃ p q a j l c,cT (bI cU (aa (am dY (mC (.int 9)) (aC zx (aa (am neX (ad 4) (cw ak)) ak))) ak)) (aA 6) ic [#v[.fls (ns.map .int)],#v[.int (i:Int)],some (.lst [.int y],.u),#v[Shd ps],#v[.lst (Pl (rws ps true))],#v[.lst (Pl (rws ps false))],v6,v7,v8,v9,v10,v11,v12,v13]=some (.ok .nx,[#v[.fls (ns.map .int)],#v[.int (i:Int)],some (.lst [.int p],.u),#v[Shd ps],#v[.lst (Pl (rws ps true))],#v[.lst (Pl (rws ps false))],q,v7,v8,v9,a,j,l,c]):=by
  by_cases h0:rws ps true=[]
  .rw[FW h0] at nx
   refine #[y,v6,v10,v11,v12,v13,?_]
   have E:cU [.int 0]=some (bE 0 0):=di (by decide) (by decide)
   exact gh (eK (h3:=E) (ah (aJ i_c (a8 (ah (aJ (ao rfl) (bj ay rfl (Nat.le_of_ble_eq_true rfl)) rfl rfl nx) ay) rfl rfl) rfl rfl rfl) ay) rfl) rfl rfl
  .rw[FX h0] at nx
   have E:cU [.int 9]=some (bE 0 9):=di (by decide) (by decide)
   obtain ⟨Z1,e1,p,q,a,j,l,c,rfl⟩:=cP (bnd:=aA 6) (b:=ic) (λ_ Z=>∃ n q a j l c,Z=[#v[.fls (ns.map .int)],#v[.int (i:Int)],some (.lst [.int n],.u),#v[Shd ps],#v[.lst (Pl (rws ps true))],#v[.lst (Pl (rws ps false))],q,v7,v8,v9,a,j,l,c]) (ds:=bE 0 9) (Z:=[#v[.fls (ns.map .int)],#v[.int (i:Int)],some (.lst [.int y],.u),#v[Shd ps],#v[.lst (Pl (rws ps true))],#v[.lst (Pl (rws ps false))],v6,v7,v8,v9,v10,v11,v12,v13]) (k:=0) #[y,v6,v10,v11,v12,v13,rfl] (by
    rintro m d Z hd ⟨n,q,a,j,l,c,rfl⟩
    obtain ⟨n',B,C,x,A,e⟩:=EH g w (λr h=>oT h) (λr h=>oT h) h0 (Q h0) L M n (S:=.fls (ns.map .int)) (K:=.int (i:Int)) #v[d] v7 v8 v9 a j l c
    exact #[_,_,rfl,.inl e,n',_,B,C,x,A,rfl])
   refine #[p,q,a,j,l,c,?_]
   exact gh (eK (h3:=E) (ah (aJ i_c (a8 (ah (aJ (ao rfl) (bj ay rfl (Nat.le_of_ble_eq_true rfl)) rfl rfl nx) ay) rfl rfl) rfl rfl rfl) ay) rfl) rfl e1
 obtain ⟨p,q,a,j,l,c,s⟩:=s
 have t:=dU p 20 (by decide)
 obtain ⟨o,eo,W⟩:∃ v,aB (.lst ov) (.int (p % 20))=#v[v]/\v∈ov:=by
  have h1:=Int.emod_nonneg p (b:=20) (by decide)
  have h2:=Int.emod_lt_of_pos p (b:=20) (by decide)
  have:=ov_at (p % 20).toNat (by omega)
  rwa [Int.toNat_of_nonneg h1] at this
 have T:=AS t eo
 have V:=jd ps
 obtain ⟨Z2,σ,G,rfl⟩:=mx (bnd:=aA 9) (b:=jE) (r:=.bl false) (f:=.z) (λd:L3.D=>d) (λ_=>true) (λZ=>∃ P,Z=[#v[.fls (ns.map .int)],#v[.int (i:Int)],some (.lst [.int (p / 20)],.u),#v[Shd ps],#v[.lst (Pl (rws ps true))],#v[.lst (Pl (rws ps false))],q,#v[o],#v[.tup [.int 0,.int 1]],P,a,j,l,c]) (xs:=[L3.D.tup [],.tup [.int 0],.tup [.int 1,.int 0],.tup [.int 0,.int (ps.length:Int)],.lst [.int 0,.int 1],.tup [.int 0,.bl true],.non,.tup [.int (-1),.int 0],.tup [o]]) (Z:=[#v[.fls (ns.map .int)],#v[.int (i:Int)],some (.lst [.int (p / 20)],.u),#v[Shd ps],#v[.lst (Pl (rws ps true))],#v[.lst (Pl (rws ps false))],q,#v[o],#v[.tup [.int 0,.int 1]],v9,a,j,l,c]) #[v9,rfl] (by
  rintro d hd Z ⟨P,rfl⟩
  exact #[_,_,rfl,EG g w (Ca g w W hd) q #v[o] a j l c,_,rfl])
 rw[if_pos (by simp),List.map_id'] at σ
 refine #[some (.lst [.int (p / 20)],.u),#v[Shd ps],#v[.lst (Pl (rws ps true))],#v[.lst (Pl (rws ps false))],q,#v[o],#v[.tup [.int 0,.int 1]],G,a,j,l,c,?_]
 clear Q L M nx
 generalize (rws ps true)=X at *
 generalize (rws ps false)=τ at *
 generalize L3.D.int (ps.length:Int)=N at *
 generalize Shd ps=H at *
 unfold jD
 apply aq (Z1:=[#v[.fls (ns.map .int)],#v[.int (i:Int)],some (.lst [.int I],.u),J,v4,F,v6,v7,v8,v9,v10,v11,v12,v13])
 .nomatch [eb]
 apply aq (Z1:=[#v[.fls (ns.map .int)],#v[.int (i:Int)],some (.lst [.int y],.u),#v[H],v4,F,v6,v7,v8,v9,v10,v11,v12,v13])
 .nomatch [es]
 apply aq (Z1:=[#v[.fls (ns.map .int)],#v[.int (i:Int)],some (.lst [.int y],.u),#v[H],#v[.lst (Pl X)],#v[.lst (Pl τ)],v6,v7,v8,v9,v10,v11,v12,v13])
 .exact i_par (ah (aD rx (ah (ao rfl) (ah i_c ay)) rfl rfl rfl) (ah (aD ry (ah (ao rfl) (ah i_c ay)) rfl rfl rfl) ay)) rfl (Nat.le_of_ble_eq_true rfl) (Nat.le_of_ble_eq_true rfl) rfl
 refine aq s ?_
 apply aq (Z1:=[#v[.fls (ns.map .int)],#v[.int (i:Int)],some (.lst [.int (p / 20)],.u),#v[H],#v[.lst (Pl X)],#v[.lst (Pl τ)],q,#v[o],v8,v9,a,j,l,c])
 .nomatch [T]
 apply aq (Z1:=[#v[.fls (ns.map .int)],#v[.int (i:Int)],some (.lst [.int (p / 20)],.u),#v[H],#v[.lst (Pl X)],#v[.lst (Pl τ)],q,#v[o],#v[.tup [.int 0,.int 1]],v9,a,j,l,c])
 .exact fg (bj (ah i_c (ah i_c ay)) rfl (Nat.le_of_ble_eq_true rfl)) rfl (Nat.le_of_ble_eq_true rfl) rfl
 refine gh (uT (bj (ah (bj ay rfl (Nat.le_of_ble_eq_true rfl)) (ah (bj (ah i_c ay) rfl (Nat.le_of_ble_eq_true rfl)) (ah (bj (ah i_c (ah i_c ay)) rfl (Nat.le_of_ble_eq_true rfl)) (ah (bj (ah i_c (ah (a8 (ah (ao rfl) ay) rfl V) ay)) rfl (Nat.le_of_ble_eq_true rfl)) (ah (bj (ah i_c (ah i_c ay)) rfl (Nat.le_of_ble_eq_true rfl)) (ah (bj (ah i_c (ah i_c ay)) rfl (Nat.le_of_ble_eq_true rfl)) (ah i_c (ah (bj (ah (ip i_c rfl rfl) (ah i_c ay)) rfl (Nat.le_of_ble_eq_true rfl)) (ah (bj (ah (ao rfl) ay) rfl (Nat.le_of_ble_eq_true rfl)) ay))))))))) rfl (Nat.le_of_ble_eq_true rfl)) rfl rfl) rfl σ
theorem AU (ns:List Int) (v:ns.length<=63):CN [(.fls (ns.map .int),.z)]=some (.ok (.bl true,.z),[(.fls (ns.map .int),.z)]):=by
 have o:∃ m:Nat,(if (if ((4:Int) < ((ns.map L3.D.int).length:Int)) then (4:Int) else ((ns.map L3.D.int).length:Int)) > 1 then (if ((4:Int) < ((ns.map L3.D.int).length:Int)) then (4:Int) else ((ns.map L3.D.int).length:Int)) else (1:Int))=(m:Int)/\m<=4:=by
  refine #[max 1 (min ns.length 4),?_,by omega]
  simp only[FJ]
  split <;> split <;> lia
 obtain ⟨m,hm,f⟩:=o
 obtain ⟨Z',e,v1,v2,c,v4,a,v6,v7,v8,v9,v10,v11,v12,v13,rfl⟩:=cP (bnd:=aA 1) (b:=jD) (λ_ Z=>∃ v1 v2 c v4 a v6 v7 v8 v9 v10 v11 v12 v13,Z=[#v[.fls (ns.map .int)],v1,v2,c,v4,a,v6,v7,v8,v9,v10,v11,v12,v13]) (ds:=bE 0 m) (Z:=[#v[.fls (ns.map .int)],none,none,none,none,none,none,none,none,none,none,none,none,none]) (k:=0) #[_,_,_,_,_,_,_,_,_,_,_,_,_,rfl] (by
  rintro i d Z hd ⟨v1,v2,c,v4,a,v6,v7,v8,v9,v10,v11,v12,v13,rfl⟩
  obtain ⟨hi,rfl⟩:=eY hd
  rw[Int.zero_add]
  obtain ⟨x,q,w,u,p,t,r,s,g,h,l,n,e⟩:=zp (ns:=ns) i v2 c v4 a v6 v7 v8 v9 v10 v11 v12 v13
  exact #[_,_,rfl,.inl e,_,_,_,_,_,_,_,_,_,_,_,_,_,rfl])
 have j:cU [.int (if (if ((4:Int) < ((ns.map L3.D.int).length:Int)) then (4:Int) else ((ns.map L3.D.int).length:Int)) > 1 then (if ((4:Int) < ((ns.map L3.D.int).length:Int)) then (4:Int) else ((ns.map L3.D.int).length:Int)) else (1:Int))]=some (bE 0 m):=by
  rw[hm]
  exact di (by lia) (by lia)
 apply a7 (Z:=[#v[.fls (ns.map .int)],none,none,none,none,none,none,none,none,none,none,none,none,none]) rfl rfl
 .apply aq
  .apply gh
   ·(repeat' (first | with_reducible apply eK (h3:=j) | infer_instance | eq_refl))
   .rfl
   .exact e
  .nofun
 .rfl
end Bn
end
namespace Bn
open PySem L2 L3
theorem Fo {l:PySem.W.OpenLaw} {w:World} {K:FG} {h:Heap} {mg:Str -> Option Value} {fa:Addr} (X:K.In h) (G:h.Ns mainGlobals mg) (et:mg "law"=some (.ref fa)) (e:AN K=uV) :
  ∃ fd:FuncData,(∀ (s:Shared) (v:Value),BindsTo s fd #[[v],[]] [("_law_script",v)]) /\ ∀ base:Heap,K.In base -> base.Ns mainGlobals mg -> FnOk l.prog w K mg base CX0 11 fa fd ["_law_script"] (xx K):=by
 have k:dsL.map (λp=>q8 K p.1)=dsL.map (λp=>mB p.1 p.2):=congrArg (λx=>x.1) e
 have e1:blL.map (PySem.W.nsIn K mainGlobals)=blL.map (λ_=>some none):=congrArg (λx=>x.2.1) e
 have e2:ciL.map (λp=>pc K p.1)=ciL.map (λp=>some p.2):=congrArg (λx=>x.2.2.1) e
 have e3:csL.map (λp=>xw K p.1)=csL.map (λp=>some p.2):=congrArg (λx=>x.2.2.2.1) e
 have e4:xrL.map (λr:String=>vd K r)=xrL.map (λ_:String=>pE):=congrArg (λx=>x.2.2.2.2.1) e
 have e5:xcL.map (iO K)=xcL.map (λ_=>true):=congrArg (λx=>x.2.2.2.2.2.1) e
 have e6:xbL.map (PySem.W.nsIn K mainGlobals)=xbL.map (λ_=>some none):=congrArg (λx=>x.2.2.2.2.2.2.1) e
 have e7:pC K=ll:=congrArg (λx=>x.2.2.2.2.2.2.2.1) e
 have i:[PySem.W.kitOne K (.ref (aj K "NoSheet")) (.ref (aj K "Apart")),PySem.W.kitOne K (.ref (aj K "Apart")) (.ref (aj K "Apart")),PySem.W.kitOne K (.ref (aj K "NoRow")) (.ref (aj K "Apart")),PySem.W.kitOne K (.ref (aj K "NoSheet")) (.ref (aj K "Bare")),PySem.W.kitOne K (.ref (aj K "Apart")) (.ref (aj K "Bare")),PySem.W.kitOne K (.ref (aj K "NoRow")) (.ref (aj K "Bare")),PySem.W.kitOne K (.ref (aj K "NoSheet")) (.ref (aj K "BentError")),PySem.W.kitOne K (.ref (aj K "Apart")) (.ref (aj K "BentError")),PySem.W.kitOne K (.ref (aj K "NoRow")) (.ref (aj K "BentError")),PySem.W.kitOne K (.ref (aj K "NoSheet")) (.ref (aj K "NoNumber")),PySem.W.kitOne K (.ref (aj K "Apart")) (.ref (aj K "NoNumber")),PySem.W.kitOne K (.ref (aj K "NoRow")) (.ref (aj K "NoNumber")),PySem.W.kitOne K (.ref (aj K "NoSheet")) (.ref (aj K "NoPlace")),PySem.W.kitOne K (.ref (aj K "Apart")) (.ref (aj K "NoPlace")),PySem.W.kitOne K (.ref (aj K "NoRow")) (.ref (aj K "NoPlace")),PySem.W.kitOne K (.ref (aj K "NoSheet")) (.ref (aj K "NoRing")),PySem.W.kitOne K (.ref (aj K "Apart")) (.ref (aj K "NoRing")),PySem.W.kitOne K (.ref (aj K "NoRow")) (.ref (aj K "NoRing")),PySem.W.kitOne K (.ref (aj K "NoSheet")) (.ref (aj K "NoRow")),PySem.W.kitOne K (.ref (aj K "Apart")) (.ref (aj K "NoRow")),PySem.W.kitOne K (.ref (aj K "NoRow")) (.ref (aj K "NoRow")),PySem.W.kitOne K (.ref (aj K "NoSheet")) (.ref (aj K "NoSheet")),PySem.W.kitOne K (.ref (aj K "Apart")) (.ref (aj K "NoSheet")),PySem.W.kitOne K (.ref (aj K "NoRow")) (.ref (aj K "NoSheet")),PySem.W.kitOne K (.ref (aj K "NoSheet")) (.ref (aj K "NoText")),PySem.W.kitOne K (.ref (aj K "Apart")) (.ref (aj K "NoText")),PySem.W.kitOne K (.ref (aj K "NoRow")) (.ref (aj K "NoText")),PySem.W.kitOne K (.ref (aj K "NoSheet")) (.ref (aj K "OnLine")),PySem.W.kitOne K (.ref (aj K "Apart")) (.ref (aj K "OnLine")),PySem.W.kitOne K (.ref (aj K "NoRow")) (.ref (aj K "OnLine")),PySem.W.kitOne K (.ref (aj K "NoSheet")) (.ref (aj K "TooMany")),PySem.W.kitOne K (.ref (aj K "Apart")) (.ref (aj K "TooMany")),PySem.W.kitOne K (.ref (aj K "NoRow")) (.ref (aj K "TooMany")),PySem.W.kitOne K (.ref (aj K "NoSheet")) (.type "ValueError"),PySem.W.kitOne K (.ref (aj K "Apart")) (.type "ValueError"),PySem.W.kitOne K (.ref (aj K "NoRow")) (.type "ValueError")]=[some false,some true,some false,some false,some false,some false,some true,some true,some true,some false,some false,some false,some false,some false,some false,some false,some false,some false,some false,some false,some true,some true,some false,some false,some false,some false,some false,some false,some false,some false,some false,some false,some false,some true,some true,some true]:=congrArg (λx=>x.2.2.2.2.2.2.2.2.1) e
 have e9:[PySem.W.exmOne K (.ref (aj K "NoSheet")) (.ref (aj K "BentError")),PySem.W.exmOne K (.ref (aj K "Apart")) (.ref (aj K "BentError")),PySem.W.exmOne K (.ref (aj K "NoRow")) (.ref (aj K "BentError"))]=[some true,some true,some true]:=congrArg (λx=>x.2.2.2.2.2.2.2.2.2) e
 have B:Bl mg:=#[b8 X G e1 0 rfl,b8 X G e1 1 rfl,b8 X G e1 2 rfl,b8 X G e1 3 rfl,b8 X G e1 4 rfl,b8 X G e1 5 rfl,b8 X G e1 6 rfl,b8 X G e1 7 rfl,b8 X G e1 8 rfl,b8 X G e1 9 rfl,b8 X G e1 10 rfl,b8 X G e1 11 rfl,b8 X G e1 12 rfl,b8 X G e1 13 rfl,b8 X G e1 14 rfl,b8 X G e1 15 rfl,b8 X G e1 16 rfl,b8 X G e1 17 rfl,b8 X G e1 18 rfl,b8 X G e1 19 rfl]
 have D0:Def K mg "is_whole" fG:=aN X G k 0 rfl
 have D1:Def K mg "is_point" fI:=aN X G k 1 rfl
 have D2:Def K mg "is_place" fJ:=aN X G k 2 rfl
 have D3:Def K mg "are_rising_places" bG:=aN X G k 3 rfl
 have D4:Def K mg "are_points" dI:=aN X G k 4 rfl
 have D5:Def K mg "has_rising_x" cA:=aN X G k 5 rfl
 have D6:Def K mg "bend" oI:=aN X G k 6 rfl
 have D7:Def K mg "threes" jn:=aN X G k 7 rfl
 have D8:Def K mg "first_on_line" ce:=aN X G k 8 rfl
 have D9:Def K mg "is_sheet" fH:=aN X G k 9 rfl
 have fz:Def K mg "check_sheet" dh:=aN X G k 10 rfl
 have ek:Def K mg "turn_at" iF:=aN X G k 11 rfl
 have ey:Def K mg "all_turns" eB:=aN X G k 12 rfl
 have eH:Def K mg "row_bends" eA:=aN X G k 13 rfl
 have fX:Def K mg "bends" la:=aN X G k 14 rfl
 have er:Def K mg "is_cup" jw:=aN X G k 15 rfl
 have eN:Def K mg "is_cap" jx:=aN X G k 16 rfl
 have fi:Def K mg "joined" jv:=aN X G k 17 rfl
 have ej:Def K mg "_law_cell" jt:=aN X G k 18 rfl
 have fe:Def K mg "_law_mix" k8:=aN X G k 19 rfl
 have ed:Def K mg "_law_box" k9:=aN X G k 20 rfl
 have eu:Def K mg "_law_take" jp:=aN X G k 21 rfl
 have fw:Def K mg "_law_whole" iG:=aN X G k 22 rfl
 have fC:Def K mg "_law_bend" ju:=aN X G k 23 rfl
 have fb:Def K mg "_law_free" js:=aN X G k 24 rfl
 have fo:Def K mg "_law_sheet" iH:=aN X G k 25 rfl
 have ep:Def K mg "_law_odd" k7:=aN X G k 26 rfl
 have fY:Def K mg "_law_up" oH:=aN X G k 27 rfl
 have fy:Def K mg "_law_rising" fF:=aN X G k 28 rfl
 have fk:Def K mg "_law_bends" iK:=aN X G k 29 rfl
 have eo:Def K mg "_law_parts" iI:=aN X G k 30 rfl
 have ei:Def K mg "_law_rows" jr:=aN X G k 31 rfl
 have ew:Def K mg "_law_marks" iJ:=aN X G k 32 rfl
 have f3:Def K mg "_law_said" jq:=aN X G k 33 rfl
 obtain ⟨f,fd,F0,hf⟩:Def K mg "law" gx:=aN X G k 34 rfl
 cases et.symm.trans hf
 have F:=F0
 obtain ⟨oc,od,kV,doc,pm,an,ez,ct,f7,ef,lk,f6⟩:=F0.ex
 subst ef
 obtain ⟨gm,Q0⟩:=sV X G e2 0 (n:="MOST_POINTS") (v:=24) rfl
 obtain ⟨f5,Q1⟩:=sV X G e2 1 (n:="UP") (v:=1) rfl
 obtain ⟨gn,Q2⟩:=sV X G e2 2 (n:="DOWN") (v := -1) rfl
 obtain ⟨a,c3⟩:=tu X G e7 e4 0 (r:="NoSheet") rfl
 obtain ⟨b,ea⟩:=tu X G e7 e4 1 (r:="Apart") rfl
 obtain ⟨c,d2⟩:=tu X G e7 e4 2 (r:="NoRow") rfl
 have cv:mg "NoSheet"=_:=dX X G e5 0 rfl
 have d1:mg "Apart"=_:=dX X G e5 1 rfl
 have d4:mg "NoRow"=_:=dX X G e5 2 rfl
 have ec:mg "Bare"=_:=dX X G e5 3 rfl
 have o:mg "BentError"=_:=dX X G e5 4 rfl
 have a6:mg "NoNumber"=_:=dX X G e5 5 rfl
 have b6:mg "NoPlace"=_:=dX X G e5 6 rfl
 have dx:mg "NoRing"=_:=dX X G e5 7 rfl
 have c5:mg "NoText"=_:=dX X G e5 8 rfl
 have dr:mg "OnLine"=_:=dX X G e5 9 rfl
 have b5:mg "TooMany"=_:=dX X G e5 10 rfl
 have σ:mg "ValueError"=none:=b8 X G e6 0 rfl
 have d3:IsX K (.ref (aj K "Apart")) [("NoSheet",false),("Apart",true),("NoRow",false)]:=(.cons a (bL i 0 rfl rfl) (.cons b (bL i 1 rfl rfl) (.cons c (bL i 2 rfl rfl) .nil)))
 have eb:IsX K (.ref (aj K "Bare")) [("NoSheet",false),("Apart",false),("NoRow",false)]:=(.cons a (bL i 3 rfl rfl) (.cons b (bL i 4 rfl rfl) (.cons c (bL i 5 rfl rfl) .nil)))
 have ae:IsX K (.ref (aj K "BentError")) [("NoSheet",true),("Apart",true),("NoRow",true)]:=(.cons a (bL i 6 rfl rfl) (.cons b (bL i 7 rfl rfl) (.cons c (bL i 8 rfl rfl) .nil)))
 have a4:IsX K (.ref (aj K "NoNumber")) [("NoSheet",false),("Apart",false),("NoRow",false)]:=(.cons a (bL i 9 rfl rfl) (.cons b (bL i 10 rfl rfl) (.cons c (bL i 11 rfl rfl) .nil)))
 have ck:IsX K (.ref (aj K "NoPlace")) [("NoSheet",false),("Apart",false),("NoRow",false)]:=(.cons a (bL i 12 rfl rfl) (.cons b (bL i 13 rfl rfl) (.cons c (bL i 14 rfl rfl) .nil)))
 have dc:IsX K (.ref (aj K "NoRing")) [("NoSheet",false),("Apart",false),("NoRow",false)]:=(.cons a (bL i 15 rfl rfl) (.cons b (bL i 16 rfl rfl) (.cons c (bL i 17 rfl rfl) .nil)))
 have d0:IsX K (.ref (aj K "NoRow")) [("NoSheet",false),("Apart",false),("NoRow",true)]:=(.cons a (bL i 18 rfl rfl) (.cons b (bL i 19 rfl rfl) (.cons c (bL i 20 rfl rfl) .nil)))
 have c0:IsX K (.ref (aj K "NoSheet")) [("NoSheet",true),("Apart",false),("NoRow",false)]:=(.cons a (bL i 21 rfl rfl) (.cons b (bL i 22 rfl rfl) (.cons c (bL i 23 rfl rfl) .nil)))
 have c7:IsX K (.ref (aj K "NoText")) [("NoSheet",false),("Apart",false),("NoRow",false)]:=(.cons a (bL i 24 rfl rfl) (.cons b (bL i 25 rfl rfl) (.cons c (bL i 26 rfl rfl) .nil)))
 have dV:IsX K (.ref (aj K "OnLine")) [("NoSheet",false),("Apart",false),("NoRow",false)]:=(.cons a (bL i 27 rfl rfl) (.cons b (bL i 28 rfl rfl) (.cons c (bL i 29 rfl rfl) .nil)))
 have cm:IsX K (.ref (aj K "TooMany")) [("NoSheet",false),("Apart",false),("NoRow",false)]:=(.cons a (bL i 30 rfl rfl) (.cons b (bL i 31 rfl rfl) (.cons c (bL i 32 rfl rfl) .nil)))
 have L:IsX K (.type "ValueError") [("NoSheet",true),("Apart",true),("NoRow",true)]:=(.cons a (bL i 33 rfl rfl) (.cons b (bL i 34 rfl rfl) (.cons c (bL i 35 rfl rfl) .nil)))
 have φ:ExX K (aj K "BentError") ["NoSheet","Apart","NoRow"]:=(.cons a (bL e9 0 rfl rfl) (.cons b (bL e9 1 rfl rfl) (.cons c (bL e9 2 rfl rfl) .nil)))
 refine #[PySem.W.fnOf "law" "law" (aQ gx) (aI gx) (ag gx) .none kV doc pm an ez ct,λs v=>.of_eq rfl,λbase _ _=>?_]
 have t:=pL (P:=l.prog) (w:=w) (base:=base) B D0
 have az:=pN (P:=l.prog) (w:=w) (base:=base) B D1 t
 have b4:=pO (P:=l.prog) (w:=w) (base:=base) B D2 t
 have j:=gk (P:=l.prog) (w:=w) (base:=base) B D3 b4
 have N:=mH (P:=l.prog) (w:=w) (base:=base) B D4 az Q0
 have u:=km (P:=l.prog) (w:=w) (base:=base) B D5
 have c4:=z6 (P:=l.prog) (w:=w) (base:=base) B D6
 have T:=tK (P:=l.prog) (w:=w) (base:=base) B D7
 have q:=jL (P:=l.prog) (w:=w) (base:=base) B D8 c4 T
 have bt:=pM (P:=l.prog) (w:=w) (base:=base) B D9 N q u
 have d:=jM (P:=l.prog) (w:=w) (base:=base) B fz bt a c3
 have I:=rB (P:=l.prog) (w:=w) (base:=base) B ek c4
 have C:=k6 (P:=l.prog) (w:=w) (base:=base) B ey d T I
 have τ:=mY (P:=l.prog) (w:=w) (base:=base) B eH
 have z:=rG (P:=l.prog) (w:=w) (base:=base) B fX C j τ
 have a5:=pP (P:=l.prog) (w:=w) (base:=base) B er z Q1
 have a3:=pQ (P:=l.prog) (w:=w) (base:=base) B eN z Q2
 have b3:=pK (P:=l.prog) (w:=w) (base:=base) B fi d a3 a5 I Q1 b ea c d2
 have av:=tQ (P:=l.prog) (w:=w) (base:=base) B ej
 have bb:=wR (P:=l.prog) (w:=w) (base:=base) B fe
 have ax:=wS (P:=l.prog) (w:=w) (base:=base) B ed av bb
 have g:=tL (P:=l.prog) (w:=w) (base:=base) B eu
 have R:=rC (P:=l.prog) (w:=w) (base:=base) B fw
 have m:=tR (P:=l.prog) (w:=w) (base:=base) B fC
 have V:=tO (P:=l.prog) (w:=w) (base:=base) B fb m
 have S:=rD (P:=l.prog) (w:=w) (base:=base) B fo V g
 have a9:=wQ (P:=l.prog) (w:=w) (base:=base) B ep g
 have D:=z5 (P:=l.prog) (w:=w) (base:=base) B fY m
 have A:=pJ (P:=l.prog) (w:=w) (base:=base) B fy R
 have M:=rF (P:=l.prog) (w:=w) (base:=base) B fk A D
 have J:=rE (P:=l.prog) (w:=w) (base:=base) B eo
 have ar:=tN (P:=l.prog) (w:=w) (base:=base) B ei M J
 have y:=mZ (P:=l.prog) (w:=w) (base:=base) B ew d1 d3 ec eb o ae a6 a4 b6 ck dx dc d4 d0 cv c0 c5 c7 dr dV b5 cm σ L
 have ρ:=tM (P:=l.prog) (w:=w) (base:=base) B f3 y b3 o φ
 exact FnOk.imp (BW (P:=l.prog) (w:=w) (base:=base) B F ax a9 ar ρ S g D) λvs H Q E h=>BN (λns hn=>#[_,AU ns hn]) h
theorem walkL:PySem.W.WalkO viL loL (λ_ _=>True) (λ_ h=>∃ K:FG,K.In h /\ AN K=uV) PySem.Challenge.rw_bentrows_k18_rows_joined.row.toRowW ⟨"law",aQ gx,aI gx,ag gx,stPos gx⟩ [] (λf d=>PySem.call f d) :=
 L2.walk_ofS (l:=PySem.Challenge.rw_bentrows_k18_rows_joined) (n:=63) (k:=11) (x:="_law_script") (S:=λK=>AN K=uV) (CX:=CX0) (sp:=xx) rfl (by decide) rfl ⟨rfl,by decide,by decide,rfl⟩ (λ_ _ z=>z) (λ_ _ _ _ _ e X G hm=>Fo X G hm e) (λ_ _ a ns b g c=>⟨a,ns,rfl,c,g,b,λ_=>rfl⟩) λ_ _ _ _ z=>z
end Bn
open PySem PySem.W PyProof.Rows
set_option maxRecDepth 100000 in
set_option maxHeartbeats 0 in
theorem PySem.Challenge.cw_bentrows_k18_rows_joined_holds : PySem.Challenge.rw_bentrows_k18_rows_joined.Holds :=
 holds_law Bn.okL λsaid=>holds_open (r:=PySem.Challenge.rw_bentrows_k18_rows_joined.row) Bn.leftL (λ_ _ e=>⟨_,L2.fragAt_in _,e⟩) (λ_ _ _ ⟨K,X,e⟩ k=>⟨K,X.keeps k,e⟩) (λ_ _=>trivial) (λ_ _ _ _ _=>trivial) (by kernel_rfl) (by kernel_rfl) (by kernel_rfl) (λs e=>recFacts_of e) (by rfl) said (by kernel_rfl) ⟨rfl,rfl,rfl,rfl,rfl,by decide +kernel⟩ ⟨[.list []],by decide +kernel,by decide +kernel⟩ Bn.walkL
