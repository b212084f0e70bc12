import PyProof.Rows.All
import Wide.All
import OpenK.AllK
import Wide.FinOn
import Lean
import PyProof.EqAt
import PyProof.EqKinds
import PyProof.TupleCall
import PyProof.P3Eq
import PyProof.NeData
import PyProof.ListRange
import PyProof.Rows.CallKwBuiltin
import PyProof.Rows.Range3
import PyProof.DictWalks
import PyProof.MinMaxWalk
import PyProof.WalkInts
import PyProof.Walk
import PyProof.WalkLemmas
import PyProof.RulesTry
import PyProof.Rows.SortShell
import PyProof.Rows.SortWalk
import PyProof.Rows.SortRuns
import PyProof.Rows.SetFrom
import PyProof.SetKind
import PyProof.SetScanFacts
import PyProof.FactsAll.subtypes_4
import PyProof.FactsAll.set_1
import PyProof.DictDisplay
import OpenK.KOwn
import KE.KTryMore
import KE.RegKTryMore
import PyProof.Rows.Catch
import KE.KIsAll
import KE.RegKIsAll
import PyProof.ExcArgsOwn
import PyProof.SetRoads
import PySem.Challenge.RW_bentrows_k19_ends_and_starts
set_option genSizeOf false
set_option compiler.extract_closed false
set_option Elab.async false
noncomputable section
local macro_rules|`(#[$a,*])=>`(⟨$a,*⟩)
local macro_rules|`(#v[$a])=>`(some ($a,.z))
set_option linter.all false
set_option maxRecDepth 100000
set_option maxHeartbeats 4000000
section
abbrev FG:=PySem.W.Frag
open PySem PySem.Spec PyProof.Rows
abbrev GU:=@wpAny_bind
abbrev GV:=@wpAny_pure
abbrev GW:=@wpAny_holding
abbrev GX:=@List.mem_cons_self
abbrev GY:=@List.mem_cons_of_mem
abbrev GZ:=@Heap.get?_push_of_some
abbrev G3:=@Option.map_eq_some_iff
abbrev G4:=@List.mem_append_left
abbrev G5:=@List.mem_append_right
abbrev G6:=@List.mem_cons
abbrev G7:=@List.getElem?_eq_getElem
abbrev G8:=@Heap.lt_size
abbrev G9:=@List.mem_append
abbrev Ha:=@Heap.get?_push_size
abbrev Hb:=@List.length_map
abbrev Hc:=@List.getElem?_eq_some_iff
abbrev He:=@List.mem_of_getElem?
abbrev Hf:=@List.sublist_append_right
abbrev Hg:=@List.mem_map
abbrev Hh:=@List.getElem?_map
abbrev Hi:=@Nat.le_refl
abbrev Hj:=@Bool.false_ne_true
abbrev Hk:=@Nat.ne_of_lt
abbrev Hl:=@List.size_toArray
abbrev Hm:=@List.map_cons
abbrev Hn:=@decide_eq_true
abbrev Ho:=@decide_eq_false
abbrev Hq:=@Nat.lt_of_lt_of_le
abbrev Hr:=@Nat.zero_add
abbrev Hs:=@Heap.get?_update_self
abbrev Ht:=@List.length_append
abbrev Hu:=@List.length_cons
abbrev Hv:=@List.length_take
abbrev Hw:=@Option.map_some
abbrev Hx:=@Option.bind_eq_some_iff
abbrev Hy:=@List.mem_singleton
abbrev Hz:=@Bool.false_eq_true
abbrev HA:=@List.mem_filter
abbrev HB:=@Heap.get?_update_other
abbrev HC:=@Heap.size_push
abbrev HD:=@wpAny_truthy_bool
abbrev HE:=@Nat.le_trans
abbrev HF:=@List.filter_eq_self
abbrev HG:=@List.mem_flatMap
abbrev HH:=@List.map_map
abbrev HI:=@List.map_congr_left
abbrev HJ:=@Option.some.inj
abbrev HK:=@List.length_eq_zero_iff
end
section
namespace L2
open PySem
def aK (s:Stmt):Arguments:=match s with
 | .FunctionDef _ a _ _ _ _ _ _ _ _=>a
 | _=>{ posonlyargs:=[],args:=[],vararg:=none,kwonlyargs:=[],kw_defaults:=[],kwarg:=none,defaults:=[] }
def aB (s:Stmt):List Stmt:=match s with
 | .FunctionDef _ _ b _ _ _ _ _ _ _=>b
 | _=>[]
def ad (s:Stmt):Scope:=match s with
 | .FunctionDef _ _ _ _ _ _ sc _ _ _=>sc
 | _=>{ kind:=.function,names:=[],isGenerator:=false,isCoroutine:=false }
def sh (p:Nat×Obj):Option (Nat×Obj):=match p.2 with
 | #[_,_,.freed,_]=>none
 | o=>some (p.1,o)
def AF (h:Heap):FG:=((List.range h.objs.size).zip h.objs.toList).filterMap sh
def ag (K:FG) (n:Str):Addr:=match PySem.W.nsIn K mainGlobals n with
 | some (some (.ref f))=>f
 | _=>0
abbrev qz:=Str×Str×Arguments×FuncBody×Scope×Addr×List (Str×Addr)×Value×Addr×Bool
def sA (K:FG) (n:Str):Option qz:=match PySem.W.nsIn K mainGlobals n with
 | some (some (.ref f))=>(match K.lookup f with
  | some #[_,_,.func fd,_]=>some (fd.name,fd.qualname,fd.params,fd.body,fd.scope,fd.globals,fd.closure,fd.defaults,fd.builtins,PySem.W.codeIn K fd.code n)
  | _=>none)
 | _=>none
def mP (n:Str) (st:Stmt):Option qz:=some (n,n,aK st,.stmts (aB st),ad st,mainGlobals,[],.none,builtinsNs,true)
def p6 (K:FG) (n:Str):Option Int:=match PySem.W.nsIn K mainGlobals n with
 | some (some (.int v _))=>some v
 | _=>none
def yy (K:FG) (n:Str):Option Str:=match PySem.W.nsIn K mainGlobals n with
 | some (some (.str v _))=>some v
 | _=>none
open PySem.W PyProof.Rows in
theorem xk {p q:Program} {loose:List Str} {c:Shared → Bool} {α:Type} {d:Shared → α} {g:World → α} {N m:Nat} {ann:Option Value}
  (e:opening p=plainProg p.main.scope.names) (o:Nat.ble 600 N=true) (f:∀ s,fenceModules? p s=some s)
  (sz:∀ w:World,((boot_heap w.params).isNs mainGlobals && (Array.mk []:Array GenState).size == 0,(boot_heap w.params).objs.size,(boot_heap w.params).nsMap mainGlobals "__annotations__")=(true,m,ann))
  (go:∀ (w:World) (os:OsState),(PySem.W.Fast.tw14082659384304107361 PySem.W.Fast.tw14364793385576792824 p w m ann N #[boot_heap w.params,Array.mk [],boot_drawn,boot_toks,os] (topStub p)).map (λs=>((staticsOk (importedModules p.main.body) (boot_heap w.params) s.heap && namesBound p s.heap && gensDone s && laidKept (boot_heap w.params) s.heap),PySem.W.Fast.tw4187177175401517315 q loose (importedModules p.main.body) c true s,d s))=some (true,openGood q loose,g w)):LeftO p q loose c d g N:=λw=>by
 obtain ⟨⟨n,h,l,tk,os⟩,i,j⟩:=G3.mp (boot_open e o f w)
 obtain ⟨rfl,rfl,rfl,rfl⟩:n=boot_heap w.params ∧ h=Array.mk [] ∧ l=boot_drawn ∧ tk=boot_toks:=by simpa using j
 have sw:=sz w
 have a:=go w os
 rw[← PySem.W.Fast.te14082659384304107361,← PySem.W.Fast.te14364793385576792824,← PySem.W.Fast.te4187177175401517315] at a
 simp only[Prod.mk.injEq] at sw
 obtain ⟨s,k,b⟩:=G3.mp a
 simp only[Prod.mk.injEq] at b
 have tt:topFrom treeTable p w N #[boot_heap w.params,Array.mk [],boot_drawn,boot_toks,os]=some s:=by
  unfold topFrom
  dsimp only
  rw[sw.1,sw.2.1,sw.2.2,k]
  change (match staticsOk (importedModules p.main.body) (boot_heap w.params) s.heap && namesBound p s.heap && gensDone s && laidKept (boot_heap w.params) s.heap with | true=>some s | false=>none)=some s
  rw[b.1]
 unfold openEnds
 rw[i]
 change Option.map _ (topFrom treeTable p w N _)=_
 rw[tt]
 exact congrArg some (Prod.ext b.2.1 b.2.2)
theorem wD (h:PySem.W.Fast.tw9446332074065402090 l=true):l.wellSaid=true:=by rw[← PySem.W.Fast.te9446332074065402090] at h; exact h
abbrev mroV:List Value:=[.type "ValueError",.type "Exception",.type "BaseException",.type "object"]
end L2
namespace L3
open PySem L2
def ja (K:FG) (n:Str):Bool:=match PySem.W.nsIn K mainGlobals n with
 | some (some (.ref _))=>true
 | _=>false
abbrev qB:=Bool×Option (Option Value)×Option (Option Value)×Bool×Option (Option Value)×Option Bool×Option Bool×Bool
def vY (K:FG) (r:Str):qB:=(ja K r,PySem.W.findIn K (.ref (ag K r)) "__getattribute__",PySem.W.findIn K (.ref (ag K r)) "__getattr__",PySem.W.isClsIn K (ag K r),PySem.W.findIn K (.ref (ag K r)) "__class__",PySem.W.mroIn K (ag K r) (.type "object"),PySem.W.mroIn K (ag K r) (.type "BaseException"),PySem.W.excIn K (ag K r) mroV "ValueError.__new__")
def qj:qB:=(true,some (some (.builtin "BaseException.__getattribute__")),some none,true,some (some (.builtin "object.__class__")),some true,some true,true)
def qg (K:FG):Option (Option Value)×Option Bool:=(PySem.W.specialIn K (.builtin "object.__class__") "__get__",PySem.W.takesIn K (.builtin "object.__class__"))
def lQ:Option (Option Value)×Option Bool:=(some (some (.builtin "getset_descriptor.__get__")),some true)
end L3
namespace Bn
open PySem L2 L3
def top (i:Nat):Stmt:=PySem.Challenge.pw_bentrows_k19_ends_and_starts.main.body.getD i (.Pass ⟨0,0,0,0⟩)
abbrev fT:Stmt:=top 13
abbrev fV:Stmt:=top 14
abbrev cG:Stmt:=top 15
abbrev dS:Stmt:=top 18
abbrev cF:Stmt:=top 19
abbrev ph:Stmt:=top 20
abbrev jC:Stmt:=top 21
abbrev ce:Stmt:=top 22
abbrev fU:Stmt:=top 23
abbrev b7:Stmt:=top 24
abbrev iX:Stmt:=top 25
abbrev eJ:Stmt:=top 26
abbrev eG:Stmt:=top 30
abbrev eI:Stmt:=top 31
abbrev cE:Stmt:=top 32
abbrev fW:Stmt:=top 35
abbrev dR:Stmt:=top 36
abbrev jH:Stmt:=top 38
abbrev lG:Stmt:=top 39
abbrev lH:Stmt:=top 40
abbrev jD:Stmt:=top 41
abbrev iY:Stmt:=top 42
abbrev jI:Stmt:=top 43
abbrev jG:Stmt:=top 44
abbrev iZ:Stmt:=top 45
abbrev pg:Stmt:=top 46
abbrev fS:Stmt:=top 47
abbrev i7:Stmt:=top 48
abbrev i5:Stmt:=top 49
abbrev jF:Stmt:=top 50
abbrev i6:Stmt:=top 51
abbrev jE:Stmt:=top 52
abbrev iu:Stmt:=top 53
abbrev dsL:List (Str×Stmt):=[(("is_whole":Str),fT),(("is_point":Str),fV),(("check_number":Str),cG),(("are_points":Str),dS),(("has_rising_x":Str),cF),(("bend":Str),ph),(("threes":Str),jC),(("first_on_line":Str),ce),(("is_sheet":Str),fU),(("check_sheet":Str),b7),(("turn_at":Str),iX),(("all_turns":Str),eJ),(("row_table":Str),eG),(("cup_table":Str),eI),(("onward_table":Str),cE),(("cup_ends":Str),fW),(("cap_starts":Str),dR),(("_law_cell":Str),jH),(("_law_mix":Str),lG),(("_law_box":Str),lH),(("_law_take":Str),jD),(("_law_whole":Str),iY),(("_law_bend":Str),jI),(("_law_free":Str),jG),(("_law_sheet":Str),iZ),(("_law_up":Str),pg),(("_law_rising":Str),fS),(("_law_bends":Str),i7),(("_law_parts":Str),i5),(("_law_rows":Str),jF),(("_law_marks":Str),i6),(("_law_said":Str),jE),(("law":Str),iu)]
abbrev blL:List Str:=[("len":Str),("range":Str),("abs":Str),("divmod":Str),("enumerate":Str),("tuple":Str),("isinstance":Str),("int":Str),("bool":Str),("all":Str),("str":Str),("max":Str),("min":Str),("list":Str),("dict":Str),("repr":Str),("sorted":Str),("set":Str),("zip":Str),("reversed":Str)]
abbrev ciL:List (Str×Int):=[(("MOST_POINTS":Str),(24:Int)),(("UP":Str),(1:Int)),(("LEAST_PLACES":Str),(2:Int)),(("DOWN":Str),(-1:Int))]
abbrev csL:List (Str×Str):=[]
abbrev xrL:List String:=["NoNumber","NoSheet"]
abbrev xcL:List Str:=[("NoNumber":Str),("NoSheet":Str),("Apart":Str),("Bare":Str),("BentError":Str),("NoPlace":Str),("NoRing":Str),("NoRow":Str),("NoText":Str),("OnLine":Str),("TooMany":Str)]
abbrev xbL:List Str:=[("ValueError":Str)]
def BN (K:FG):List (Option qz)×List (Option (Option Value))×List (Option Int)×List (Option Str)×List qB×List Bool×List (Option (Option Value))×(Option (Option Value)×Option Bool)×List (Option Bool)×List (Option Bool):=(dsL.map (λp=>sA K p.1),blL.map (PySem.W.nsIn K mainGlobals),ciL.map (λp=>p6 K p.1),csL.map (λp=>yy K p.1),xrL.map (λr:String=>vY K r),xcL.map (ja K),xbL.map (PySem.W.nsIn K mainGlobals),qg K,[PySem.W.kitOne K (.ref (ag K "NoNumber")) (.ref (ag K "Apart")),PySem.W.kitOne K (.ref (ag K "NoSheet")) (.ref (ag K "Apart")),PySem.W.kitOne K (.ref (ag K "NoNumber")) (.ref (ag K "Bare")),PySem.W.kitOne K (.ref (ag K "NoSheet")) (.ref (ag K "Bare")),PySem.W.kitOne K (.ref (ag K "NoNumber")) (.ref (ag K "BentError")),PySem.W.kitOne K (.ref (ag K "NoSheet")) (.ref (ag K "BentError")),PySem.W.kitOne K (.ref (ag K "NoNumber")) (.ref (ag K "NoNumber")),PySem.W.kitOne K (.ref (ag K "NoSheet")) (.ref (ag K "NoNumber")),PySem.W.kitOne K (.ref (ag K "NoNumber")) (.ref (ag K "NoPlace")),PySem.W.kitOne K (.ref (ag K "NoSheet")) (.ref (ag K "NoPlace")),PySem.W.kitOne K (.ref (ag K "NoNumber")) (.ref (ag K "NoRing")),PySem.W.kitOne K (.ref (ag K "NoSheet")) (.ref (ag K "NoRing")),PySem.W.kitOne K (.ref (ag K "NoNumber")) (.ref (ag K "NoRow")),PySem.W.kitOne K (.ref (ag K "NoSheet")) (.ref (ag K "NoRow")),PySem.W.kitOne K (.ref (ag K "NoNumber")) (.ref (ag K "NoSheet")),PySem.W.kitOne K (.ref (ag K "NoSheet")) (.ref (ag K "NoSheet")),PySem.W.kitOne K (.ref (ag K "NoNumber")) (.ref (ag K "NoText")),PySem.W.kitOne K (.ref (ag K "NoSheet")) (.ref (ag K "NoText")),PySem.W.kitOne K (.ref (ag K "NoNumber")) (.ref (ag K "OnLine")),PySem.W.kitOne K (.ref (ag K "NoSheet")) (.ref (ag K "OnLine")),PySem.W.kitOne K (.ref (ag K "NoNumber")) (.ref (ag K "TooMany")),PySem.W.kitOne K (.ref (ag K "NoSheet")) (.ref (ag K "TooMany")),PySem.W.kitOne K (.ref (ag K "NoNumber")) (.type "ValueError"),PySem.W.kitOne K (.ref (ag K "NoSheet")) (.type "ValueError")],[PySem.W.exmOne K (.ref (ag K "NoNumber")) (.ref (ag K "BentError")),PySem.W.exmOne K (.ref (ag K "NoSheet")) (.ref (ag K "BentError"))])
def vK:List (Option qz)×List (Option (Option Value))×List (Option Int)×List (Option Str)×List qB×List Bool×List (Option (Option Value))×(Option (Option Value)×Option Bool)×List (Option Bool)×List (Option Bool):=(dsL.map (λp=>mP p.1 p.2),blL.map (λ_=>some none),ciL.map (λp=>some p.2),csL.map (λp=>some p.2),xrL.map (λ_:String=>qj),xcL.map (λ_=>true),xbL.map (λ_=>some none),lQ,[some false,some false,some false,some false,some true,some true,some true,some false,some false,some false,some false,some false,some false,some false,some false,some true,some false,some false,some false,some false,some false,some false,some true,some true],[some true,some true])
theorem okL:PySem.Challenge.rw_bentrows_k19_ends_and_starts.wellSaid=true:=wD (by kernel_rfl)
abbrev loL:List Str:=[("BentError":Str),("NoSheet":Str),("NoPlace":Str),("NoNumber":Str),("NoRow":Str),("Apart":Str),("NoRing":Str),("TooMany":Str),("Bare":Str),("OnLine":Str),("NoText":Str),("is_whole":Str),("is_point":Str),("check_number":Str),("MOST_POINTS":Str),("are_points":Str),("has_rising_x":Str),("bend":Str),("threes":Str),("first_on_line":Str),("is_sheet":Str),("check_sheet":Str),("turn_at":Str),("all_turns":Str),("UP":Str),("DOWN":Str),("row_table":Str),("cup_table":Str),("onward_table":Str),("LEAST_PLACES":Str),("cup_ends":Str),("cap_starts":Str),("_law_cell":Str),("_law_mix":Str),("_law_box":Str),("_law_take":Str),("_law_whole":Str),("_law_bend":Str),("_law_free":Str),("_law_sheet":Str),("_law_up":Str),("_law_rising":Str),("_law_bends":Str),("_law_parts":Str),("_law_rows":Str),("_law_marks":Str),("_law_said":Str)]
abbrev viL:Program:=PySem.W.view PySem.Challenge.rw_bentrows_k19_ends_and_starts.row.prog [53]
theorem leftL:PySem.W.LeftO PySem.Challenge.rw_bentrows_k19_ends_and_starts.row.prog viL loL (λs=>PySem.W.recOk (PySem.W.RowW.records PySem.Challenge.rw_bentrows_k19_ends_and_starts.row.toRowW) s) (λs=>BN (AF s.heap)) (λ_=>vK) 40000 :=
 xk (m:=11) (ann:=some (.ref 6)) (by kernel_rfl) rfl (λ_=>rfl) (λw=>by kernel_rfl) (λw os=>by kernel_rfl)
end Bn
end
section
namespace L2
open PySem PySem.Spec PyProof.Rows
abbrev Key:=Sum Int Str
def oK:Key->Value->Bool
 | .inl k,v=>Value.isInt k v
 | .inr x,v=>Value.isStrOf x v
def keyH (w:World):Key->Int
 | .inl k=>hashInt k
 | .inr x=>hashStr w x
theorem bv:∀ {k:Key} {v:Value},oK k v=true->(∃ i t,k=Sum.inl i/\v=Value.int i t)\/(∃ x t,k=Sum.inr x/\v=Value.str x t)
 | .inl i,v,h=>by
  obtain ⟨t,e⟩:=Value.isInt_shape (k:=i) (v:=v) h
  exact .inl #[i,t,rfl,e]
 | .inr x,v,h=>by
  obtain ⟨t,e⟩:=Value.isStrOf_shape (x:=x) (v:=v) h
  exact .inr #[x,t,rfl,e]
theorem xq (i:Int) (t:Tok):oK (.inl i) (.int i t)=true:=by simp[oK,Value.isInt]
theorem xp (x:Str) (t:Tok):oK (.inr x) (.str x t)=true:=by simp[oK,Value.isStrOf]
theorem Gi (a b:Int):decide ((Sum.inl a:Key)=Sum.inl b)=(a == b):=by
 by_cases e:a=b
 .subst e;simp
 .have h:¬ (Sum.inl a:Key)=Sum.inl b:=λq=>e (Sum.inl.inj q)
  rw[Ho h]
  exact (beq_eq_false_iff_ne.mpr e).symm
theorem Gf (a b:Str):decide ((Sum.inr a:Key)=Sum.inr b)=decide (a=b):=by
 by_cases e:a=b
 .subst e;simp
 .have h:¬ (Sum.inr a:Key)=Sum.inr b:=λq=>e (Sum.inr.inj q)
  rw[Ho h,Ho e]
theorem Gh (a:Int) (b:Str):decide ((Sum.inl a:Key)=Sum.inr b)=false:=Ho (λq=>nomatch q)
theorem Gg (a:Str) (b:Int):decide ((Sum.inr a:Key)=Sum.inl b)=false:=Ho (λq=>nomatch q)
def bZ (prog:Program) (w:World):PySem.KeyKind prog w Key where
 is:=oK
 hash:=keyH w
 inj:=λv a b f d=>by
  rcases bv f with ⟨i,t,rfl,rfl⟩ | ⟨x,t,rfl,rfl⟩
  .rcases bv d with ⟨j,u,rfl,e⟩ | ⟨y,u,rfl,e⟩
   .injection e with e1 _;rw[e1]
   .exact nomatch e
  .rcases bv d with ⟨j,u,rfl,e⟩ | ⟨y,u,rfl,e⟩
   .exact nomatch e
   .injection e with e1 _;rw[e1]
 byValue:=λk v h=>by
  rcases bv h with ⟨i,t,rfl,rfl⟩ | ⟨x,t,rfl,rfl⟩ <;> rfl
 pyHash:=λc h=>by
  rcases bv c with ⟨i,t,rfl,rfl⟩ | ⟨x,t,rfl,rfl⟩
  .exact wpAny_pyHash_int h
  .exact wpAny_pyHash_str h
 eqBool:=λhu c h=>by
  rcases bv hu with ⟨i,t,rfl,rfl⟩ | ⟨x,t,rfl,rfl⟩
  .rcases bv c with ⟨j,u,rfl,rfl⟩ | ⟨y,u,rfl,rfl⟩
   .rw[Gi] at h;exact wpAny_eqBool_int h
   .rw[Gh] at h;exact SeqAt.EqAt.int_str i t y u _ _ _ _ h
  .rcases bv c with ⟨j,u,rfl,rfl⟩ | ⟨y,u,rfl,rfl⟩
   .rw[Gg] at h;exact SeqAt.EqAt.str_int x t j u _ _ _ _ h
   .rw[Gf] at h;exact wpAny_eqBool_str h
 «strs»:=λk x t v h=>by
  rcases bv h with ⟨i,u,rfl,e⟩ | ⟨y,u,rfl,e⟩
  .exact nomatch e
  .injection e with e1 _
   subst e1
   cases v <;> rfl
theorem rO (prog:Program) (w:World) (i:Int) (t:Tok):(bZ prog w).is (.inl i) (.int i t)=true:=xq i t
theorem rN (prog:Program) (w:World) (x:Str) (t:Tok):(bZ prog w).is (.inr x) (.str x t)=true:=xp x t
end L2
namespace L2
open PySem PySem.Spec PyProof.Rows
inductive V where
 | non | bl (b:Bool) | int (i:Int) | str (x:Str) | byt (b:Array UInt8) | flt (b:UInt64) | ref (a:Addr) | ty (n:String)
 deriving DecidableEq
def RelV:V->Value->Prop
 | .non,u=>u=Value.none
 | .bl b,u=>u=Value.bool b
 | .int i,u=>∃ t,u=Value.int i t
 | .str x,u=>∃ t,u=Value.str x t
 | .byt b,u=>∃ t,u=Value.bytes b t
 | .flt b,u=>∃ t,u=Value.float b t
 | .ref a,u=>u=Value.ref a
 | .ty n,u=>u=Value.type n
abbrev Vals:List V->List Value->Prop:=Paired RelV
theorem Vals.length (r:Vals xs us):xs.length=us.length:=Paired.length r
theorem Vals.get:∀ {xs:List V} {us:List Value} {i:Nat} {x:V},Vals xs us->xs[i]?=some x->∃ u,us[i]?=some u/\RelV x u
 | _,_,_,_,.nil,e=>by simp at e
 | _,_,0,_,.cons r _,e=>by simp at e;subst e;exact #[_,rfl,r]
 | _,_,i+1,x,.cons _ t,e=>by
  obtain ⟨u,h1,h2⟩:=Vals.get (i:=i) (x:=x) t (by simpa using e)
  exact #[u,by simpa using h1,h2]
theorem Vals.set (r:RelV x u):∀ {xs:List V} {us:List Value} (i:Nat),Vals xs us->Vals (xs.set i x) (us.set i u)
 | _,_,_,.nil=>.nil
 | _,_,0,.cons _ t=>.cons r t
 | _,_,i+1,.cons q t=>.cons q (Vals.set r i t)
theorem Vals.append:∀ {xs ys:List V} {us ws:List Value},Vals xs us->Vals ys ws->Vals (xs++ys) (us++ws)
 | _,_,_,_,.nil,s=>s
 | _,_,_,_,.cons r t,s=>.cons r (Vals.append t s)
theorem Vals.take:∀ {xs:List V} {us:List Value} (n:Nat),Vals xs us->Vals (xs.take n) (us.take n)
 | _,_,0,_=>.nil
 | _,_,_+1,.nil=>.nil
 | _,_,n+1,.cons r t=>.cons r (Vals.take n t)
theorem Vals.drop:∀ {xs:List V} {us:List Value} (n:Nat),Vals xs us->Vals (xs.drop n) (us.drop n)
 | _,_,0,r=>r
 | _,_,_+1,.nil=>.nil
 | _,_,n+1,.cons _ t=>Vals.drop n t
def RelO:Option V->Option Value->Prop
 | some v,some u=>RelV v u
 | none,none=>True
 | _,_=>False
def KV {κ:Type}:List (κ×V)->List (κ×Value)->Prop:=Paired λ(p:κ×V) (q:κ×Value)=>p.1=q.1/\RelV p.2 q.2
def kV:Key->V
 | .inl i=>.int i
 | .inr x=>.str x
inductive HO where
 | lst (xs:List V)
 | tup (xs:List V)
 | dK (kvs:List (Key×V)) | dT (kvs:List (List Key×V))
 | set (S:Int->Bool) (n:Nat)
 | ins (C dx:Addr) (fs:List (Str×V))
 | own (x:Addr)
 | xd (fs:List (Str×V))
 | met (f x:Addr)
 | rng (lo hi:Int)
 | frz (o:Obj) (u:HO)
 | tbl (ps:Array Value)
 | ext (U:Heap->Prop)
abbrev Hp:=Addr->Option HO
def upd (H:Hp) (a:Addr) (o:HO):Hp:=λb=>if b=a then some o else H b
theorem aE:upd H a o a=some o:=by unfold upd;rw[if_pos rfl]
theorem aq (h:b≠a):upd H a o b=H b:=by unfold upd;rw[if_neg h]
theorem ne_of {H:Hp} (h:H a=some o) (h':H b=some u) (d:o≠u):a≠b:=by
 intro e;subst e;rw[h] at h';exact d (HJ h')
theorem aN {H:Hp} (h:H a=some o) (h':H b=none):a≠b:=by
 intro e;subst e;rw[h] at h';cases h'
def DictOfE {prog:Program} {w:World} {κ:Type} [DecidableEq κ] (knd:KeyKind prog w κ) (h:Heap) (a:Addr) (kvs:List (κ×Value)):Prop :=
 ∃ o es b,h.get? a=some o/\o.ExactDict/\o.data=.dict es b/\KeysOf knd es/\Pairs knd es.toList kvs/\(kvs.map (·.1)).Nodup/\b=es.size
theorem DictOfE.of [DecidableEq κ] {knd:KeyKind prog w κ} {kvs:List (κ×Value)} (x:DictOfE knd h a kvs):h.DictOf knd a kvs:=let #[o,es,b,h1,h2,h3,c,e,d,_]:=x;#[o,es,b,h1,h2,h3,c,e,d]
def IsTupD (h:Heap) (a:Addr) (items:Array Value):Prop:=∃ o,h.get? a=some o/\o.cls=.type "tuple"/\∃ n,(o.data,o.dict)=(Data.seq items n,none)
theorem IsTupD.tup {h:Heap} {a:Addr} {items:Array Value} (x:IsTupD h a items):IsTup h a items:=let #[o,e,c,n,d]:=x;#[o,e,c,n,congrArg Prod.fst d]
theorem IsTupD.lt (x:IsTupD h a items):a < h.objs.size:=x.tup.lt
theorem IsTupD.new (h:Heap) (items:Array Value):IsTupD (h.push { cls:=.type "tuple",data:=.seq items }) h.objs.size items:=#[_,Ha h rfl,rfl,_,rfl]
section
variable (P:Program) (w:World)
def ObjOk (H:Hp) (h:Heap) (a:Addr):HO->Prop
 | .lst xs=>xs.length<=sizeLine/\∃ (its:List Value) (n:Nat),Vals xs its/\h.get? a=some { cls:=.type "list",data:=.seq its.toArray n }
 | .tup xs=>xs.length<=sizeLine/\∃ its:List Value,Vals xs its/\IsTupD h a its.toArray
 | .dK kvs=>kvs.length<=sizeLine/\(a == sysModules)=false/\∃ d,KV kvs d/\DictOfE (bZ P w) h a d
 | .dT kvs=>kvs.length<=sizeLine/\(a == sysModules)=false/\∃ xs:List (List Key×Addr×Value),
   Paired (λ(p:List Key×V) (q:List Key×Addr×Value)=>p.1=q.1/\H q.2.1=some (.tup (p.1.map kV))/\RelV p.2 q.2.2) kvs xs /\
   ∃ o es c,h.get? a=some o/\o.ExactDict/\o.data=.dict es c/\es.toList=xs.map (entryOfKey (tupleKind (bZ P w)))/\(xs.map (·.1)).Nodup/\c=es.size
 | .set S n=>h.SetOf (intKind P w) a S n
 | .ins C dx fs=>H dx=some (.own a)/\fs.length<=1000/\dx≠a/\h.get? a=some (PySem.W.instObj C dx) /\
   ∃ b,h.Ns1 dx b/\(∀ f,RelO (fs.lookup f) (b f))/\PySem.Within b (fs.map (·.1))
 | .own _=>∃ o,h.get? a=some o
 | .xd fs=>∃ b,h.Ns1 a b/\∀ f,RelO (fs.lookup f) (b f)
 | .rng lo hi=>∃ t u v,h.get? a=some { cls:=.type "range",data:=.fields (List.toArray [.int lo t,.int hi u,.int 1 v]) }
 | .frz o u=>h.get? a=some o/\ObjOk H h a u
 | .tbl ps=>h.get? a=some { cls:=.none,data:=.fields ps }
 | .met f x=>h.get? a=some (PySem.W.methodObj (.ref f) (.ref x))
 | .ext U=>U h/\(∃ o,h.get? a=some o)/\∀ h1 h2:Heap,U h1->(∀ o,h1.get? a=some o->h2.get? a=some o)->U h2
def HOk (H:Hp) (h:Heap):Prop:=∀ a o,H a=some o->ObjOk P w H h a o
end
section
variable {P:Program} {w:World} {H H':Hp} {h h':Heap} {a:Addr} {o:HO}
theorem ObjOk.lt (x:ObjOk P w H h a o):a < h.objs.size:=by
 cases o with
 | lst xs=>obtain ⟨_,_,_,_,e⟩:=x;exact G8 e
 | tup xs=>obtain ⟨_,_,_,p⟩:=x;exact p.lt
 | dK kvs=>obtain ⟨_,_,_,_,o,_,_,e,_⟩:=x;exact G8 e
 | dT kvs=>obtain ⟨_,_,_,_,o,_,_,e,_⟩:=x;exact G8 e
 | set S n=>obtain ⟨o,_,_,_,e,_⟩:=x;exact G8 e
 | ins C dx fs=>obtain ⟨_,_,_,e,_⟩:=x;exact G8 e
 | own y=>obtain ⟨_,e⟩:=x;exact G8 e
 | xd fs=>obtain ⟨_,⟨_,_,_,e,_⟩,_⟩:=x;exact G8 e
 | rng lo hi=>obtain ⟨_,_,_,e⟩:=x;exact G8 e
 | frz ob u=>obtain ⟨e,_⟩:=x;exact G8 e
 | tbl ps=>exact G8 (show h.get? a=some _ from x)
 | met f y=>exact G8 (show h.get? a=some _ from x)
 | ext U=>obtain ⟨_,⟨_,e⟩,_⟩:=x;exact G8 e
theorem Paired.mapP:∀ {c:List α} {d:List β},Paired F c d->(∀ a b,F a b->G a b)->Paired G c d
 | _,_,.nil,_=>.nil
 | _,_,.cons r t,f=>.cons (f _ _ r) (Paired.mapP t f)
theorem ObjOk.stay (x:ObjOk P w H h a o) (k:∀ b u,(b=a\/H b=some (.own a))->h.get? b=some u->h'.get? b=some u)
  (m:∀ b,H b=some (.own a)->H' b=some (.own a)) (A:∀ b xs,H b=some (.tup xs)->H' b=some (.tup xs)):ObjOk P w H' h' a o:=by
 induction o with
 | lst xs=>obtain ⟨z,its,n,r,e⟩:=x;exact #[z,its,n,r,k _ _ (.inl rfl) e]
 | tup xs=>obtain ⟨z,its,r,ob,e,c⟩:=x;exact #[z,its,r,ob,k _ _ (.inl rfl) e,c]
 | dK kvs=>obtain ⟨z,y,s,r,ob,es,g,e,c⟩:=x;exact #[z,y,s,r,ob,es,g,k _ _ (.inl rfl) e,c]
 | dT kvs =>
  obtain ⟨z,y,xs,r,ob,es,g,e,c⟩:=x
  exact #[z,y,xs,Paired.mapP r λp q z=>#[z.1,A _ _ z.2.1,z.2.2],ob,es,g,k _ _ (.inl rfl) e,c]
 | set S n=>obtain ⟨ob,es,g,t,e,c⟩:=x;exact #[ob,es,g,t,k _ _ (.inl rfl) e,c]
 | ins C dx fs =>
  obtain ⟨d,z,ne,e,j,⟨i,es,g,l,c⟩,r⟩:=x
  exact #[m _ d,z,ne,k _ _ (.inl rfl) e,j,#[i,es,g,k _ _ (.inr d) l,c],r]
 | own y=>obtain ⟨ob,e⟩:=x;exact #[ob,k _ _ (.inl rfl) e]
 | xd fs=>obtain ⟨j,⟨i,es,g,e,c⟩,r⟩:=x;exact #[j,#[i,es,g,k _ _ (.inl rfl) e,c],r]
 | rng lo hi=>obtain ⟨t,u,v,e⟩:=x;exact #[t,u,v,k _ _ (.inl rfl) e]
 | frz ob u ih=>obtain ⟨e,q⟩:=x;exact #[k _ _ (.inl rfl) e,ih q]
 | tbl ps =>
  have e:h.get? a=some { cls:=.none,data:=.fields ps }:=x
  show h'.get? a=some { cls:=.none,data:=.fields ps }
  exact k a _ (.inl rfl) e
 | met f y =>
  have e:h.get? a=some (PySem.W.methodObj (.ref f) (.ref y)):=x
  show h'.get? a=some (PySem.W.methodObj (.ref f) (.ref y))
  exact k a _ (.inl rfl) e
 | ext U=>obtain ⟨p,⟨o,e⟩,st⟩:=x;exact #[st _ _ p λo q=>k _ _ (.inl rfl) q,#[o,k _ _ (.inl rfl) e],st]
theorem HOk.lt (x:HOk P w H h) (e:H a=some o):a < h.objs.size:=(x a o e).lt
theorem HOk.fresh (x:HOk P w H h) (e:h.objs.size<=a):H a=none:=by
 cases q:H a with
 | none=>rfl
 | some u=>exact absurd (Hq (x.lt q) e) (Nat.lt_irrefl _)
theorem HOk.kept (x:HOk P w H h) (k:∀ b u,h.get? b=some u->h'.get? b=some u):HOk P w H h':=λa o e =>
 (x a o e).stay (λb u _ q=>k b u q) (λ_ q=>q) λ_ _ q=>q
theorem HOk.laid (x:HOk P w H h) (k:∀ b u,h.get? b=some u->h'.get? b=some u) (g:h.objs.size<=a) (new:ObjOk P w (upd H a o) h' a o):HOk P w (upd H a o) h':=λb u e=>by
 have d:=x.fresh g
 by_cases f:b=a
 .subst f;rw[aE] at e;cases e;exact new
 .rw[aq f] at e
  exact (x b u e).stay (λc v _ q=>k c v q) (λc q=>by rw[aq (aN q d)];exact q) λc xs q=>by rw[aq (aN q d)];exact q
end
def Rd (H:Hp) (a:Addr) (u:HO):Prop:=H a=some u\/∃ o,H a=some (.frz o u)
theorem Rd.ok (r:Rd H a u) (x:HOk P w H h):ObjOk P w H h a u:=by
 rcases r with r | ⟨o,r⟩
 .exact x a u r
 .obtain ⟨_,q⟩:=x a _ r
  exact q
def Mut:Option HO->Prop
 | some (.lst _)=>True
 | some (.dK _)=>True
 | some (.dT _)=>True
 | some (.set _ _)=>True
 | some (.ins _ _ _)=>True
 | some (.ext _)=>True
 | _=>False
section
variable {P:Program} {w:World} {H:Hp} {h h':Heap} {x e:Addr} {o':HO}
theorem HOk.write (ok:HOk P w H h) (i:Mut (H x)) (he:e=x\/H e=some (.own x)) (k:∀ b u,b≠e->h.get? b=some u->h'.get? b=some u) (l:∃ u,h'.get? e=some u)
  (new:ObjOk P w (upd H x o') h' x o'):HOk P w (upd H x o') h':=λb u q=>by
 have d:∀ c y,H c=some (.own y)->c≠x:=λc y r z=>by subst z;rw[r] at i;exact i
 have f:∀ c xs,H c=some (.tup xs)->c≠x:=λc xs r z=>by subst z;rw[r] at i;exact i
 by_cases g:b=x
 .subst g;rw[aE] at q;cases q;exact new
 .rw[aq g] at q
  by_cases a:b=e
  .have m:H b=some (.own x):=by
    rcases he with z | z
    .exact absurd (a.trans z) g
    .rw[a];exact z
   rw[q] at m;cases m
   obtain ⟨v,n⟩:=l
   exact #[v,by rw[a];exact n]
  .refine (ok b u q).stay (λc v j r=>k c v ?_ r) (λc r=>by rw[aq (d c b r)];exact r) λc xs r=>by rw[aq (f c xs r)];exact r
   rcases j with rfl | j
   .exact a
   .rintro rfl
    rcases he with z | z
    .exact d c b j z
    .rw[j] at z;cases z;exact g rfl
end
structure Un (fs ex:List Addr) (H H':Hp) (h h':Heap):Prop where
 keep:∀ b o,h.get? b=some o->H b=none->b ∉ fs->b ∉ ex->h'.get? b=some o
 slot:∀ b o,h.get? b=some o->H b=none->b∈fs->b ∉ ex->∃ sl,h'.get? b=some { o with slots:=sl }
 free:∀ b o,h.get? b=some o->H b=none->b ∉ ex->H' b=none
 there:∀ b o,h.get? b=some o->b ∉ ex->∃ o',h'.get? b=some o'
 tups:∀ b xs,H b=some (.tup xs)->H' b=some (.tup xs)
 frzs:∀ b o u,H b=some (.frz o u)->H' b=some (.frz o u)
 tbls:∀ b ps,H b=some (.tbl ps)->∃ more,H' b=some (.tbl (ps++more))
section
variable {fs fs' ex ex':List Addr} {H H1 H2:Hp} {h h1 h2 h':Heap} {a x e:Addr} {o:HO}
theorem Un.any (u:Un fs ex H H1 h h1) (q:h.get? b=some ob) (n:H b=none) (c:b ∉ ex):∃ sl,h1.get? b=some { ob with slots:=sl }:=by
 by_cases a:b∈fs
 .exact u.slot b ob q n a c
 .exact #[ob.slots,u.keep b ob q n a c]
theorem Un.trans (a:Un fs ex H H1 h h1) (b:Un fs ex H1 H2 h1 h2):Un fs ex H H2 h h2 where
 keep:=λc ob q n e d=>b.keep c ob (a.keep c ob q n e d) (a.free c ob q n d) e d
 slot:=λc ob q n e d=>by
  obtain ⟨sl,e1⟩:=a.slot c ob q n e d
  obtain ⟨f,g⟩:=b.slot c _ e1 (a.free c ob q n d) e d
  exact #[f,g]
 free:=λc ob q n d=>by
  obtain ⟨o',e1⟩:=a.there c ob q d
  exact b.free c o' e1 (a.free c ob q n d) d
 there:=λc ob q d=>by
  obtain ⟨o',e1⟩:=a.there c ob q d
  exact b.there c o' e1 d
 tups:=λc xs q=>b.tups c xs (a.tups c xs q)
 frzs:=λc ob xs q=>b.frzs c ob xs (a.frzs c ob xs q)
 tbls:=λc ps q=>by
  obtain ⟨j,e1⟩:=a.tbls c ps q
  obtain ⟨i,g⟩:=b.tbls c _ e1
  exact #[j++i,by rw[g,Array.append_assoc]]
theorem Un.kept (k:∀ b u,h.get? b=some u->h'.get? b=some u):Un fs ex H H h h' :=
 #[λb ob q _ _ _=>k b ob q,λb ob q _ _ _=>#[ob.slots,k b ob q],λ_ _ _ n _=>n,λb ob q _=>#[ob,k b ob q],λ_ _ q=>q,λ_ _ _ q=>q,λ_ ps q=>#[(List.toArray []),by rw[q];simp]]
theorem Un.refl:Un fs ex H H h h:=Un.kept λ_ _ q=>q
theorem Un.laid (k:∀ b u,h.get? b=some u->h'.get? b=some u) (d:h.objs.size<=a) (c:H a=none):Un fs ex H (upd H a o) h h' where
 keep:=λb u q _ _ _=>k b u q
 slot:=λb u q _ _ _=>#[u.slots,k b u q]
 free:=λb u q n _=>by rw[aq (Hk (Hq (G8 q) d))];exact n
 there:=λb u q _=>#[u,k b u q]
 tups:=λb xs q=>by rw[aq (aN q c)];exact q
 frzs:=λb u xs q=>by rw[aq (aN q c)];exact q
 tbls:=λb ps q=>#[(List.toArray []),by rw[aq (aN q c),q];simp]
theorem Un.write (c:Mut (H x)) (he:e=x\/H e=some (.own x)) (k:∀ b u,b≠e->h.get? b=some u->h'.get? b=some u) (d:∃ u,h'.get? e=some u):Un fs ex H (upd H x o) h h':=by
 have g:∀ b,H b=none->b≠x:=λb n z=>by subst z;rw[n] at c;exact c
 have f:∀ b,H b=none->b≠e:=λb n z=>by
  subst z
  rcases he with r | r
  .exact g b n r
  .rw[n] at r;cases r
 have hm:∀ b u,H b=some u->¬ Mut (some u)->b≠x:=λb u q nm z=>by subst z;rw[q] at c;exact nm c
 refine ⟨λb u q n _ _=>k b u (f b n) q,λb u q n _ _=>⟨u.slots,k b u (f b n) q⟩,λb u q n _=>by rw[aq (g b n)];exact n,λb u q _=>?_,
  λb xs q=>by rw[aq (hm b _ q λz=>z)];exact q,λb u xs q=>by rw[aq (hm b _ q λz=>z)];exact q,λb ps q=>⟨(List.toArray []),by rw[aq (hm b _ q λz=>z),q];simp⟩⟩
 by_cases a:b=e
 .subst a;exact d
 .exact #[u,k b u a q]
end
def trk (h:Heap) (H:Hp):List Addr:=(List.range h.objs.size).filter λa=>(H a).isSome
def p9 (h:Heap) (H:Hp):Heap:=PySem.W.hideAll h (trk h H)
theorem xt (h:Heap) (H:Hp):(p9 h H).objs.size=h.objs.size:=PySem.W.hideAll_size _ _
theorem AB (e:h.get? b=some o) (n:H b=none):(p9 h H).get? b=some o :=
 PySem.W.hideAll_get _ e λhm=>by
  have q:(H b).isSome=true:=(HA.mp hm).2
  rw[n] at q;simp at q
theorem CC (e:(p9 h H).get? b=some o):h.get? b=some o/\H b=none:=by
 have a:h.get? b=some o:=PySem.W.of_hideAll (trk h H) e
 refine #[a,?_]
 cases q:H b with
 | none=>rfl
 | some x =>
  have hm:b∈trk h H:=HA.mpr #[List.mem_range.mpr (G8 a),by simp[q]]
  have z:(p9 h H).get? b=none:=PySem.W.hideAll_none (trk h H) hm
  rw[z] at e;cases e
def Dj (g h:Heap) (L:Addr):List (Addr×Obj):=(List.range h.objs.size).filterMap λa=>if a=L\/(g.get? a).isSome=true then none else (h.get? a).map λo=>(a,o)
def ig (g h:Heap) (L d:Addr):List (Addr×Obj):=(Dj g h L).filter λp=>decide (p.1≠d)
end L2
namespace L2
open PySem PySem.Spec PyProof.Rows
structure Mod (K:FG) (mg:Str->Option Value) (base:Heap):Prop where
 kin:K.In base
 glob:base.Ns mainGlobals mg
 blt:∃ mb,base.Ns builtinsNs mb/\∀ x:Str,x≠"__name__"->mb x=bootBuiltins x
 nolimit:base.NoLimit
structure Cx where
 prog:Program
 w:World
 K:FG
 mg:Str->Option Value
 base:Heap
 A:Around
 N:List Str
 s₀:Shared
 H₀:Hp
 env:Env
 outer:List Env
 stack:List Env
 ex:List Addr
 fn:Str->Bool
 calm:Bool
 pn:List (Addr×Obj)
 xe:Value->Shared->Prop
def frs (l:List Env):List Addr:=l.filterMap (·.frame)
abbrev Cx.fs (X:Cx):List Addr:=frs X.outer
def Vis (sc:Scope) (x:Str):Prop:=sc.names.lookup x=some .local\/sc.names.lookup x=some .cell\/sc.names.lookup x=some .free
def Loc (sc:Scope) (x:Str):Prop:=sc.names.lookup x=some .local\/sc.names.lookup x=some .cell
def Look (env:Env) (h:Heap) (m:Str->Option Value) (x:Str) (u:Value):Prop :=
 (env.kindOf x=some .local/\m x=some u)\/((env.kindOf x=some .cell\/env.kindOf x=some .free)/\∃ c,env.cells.lookup x=some c/\h.IsCell c (some u))
structure Cx.Ok (X:Cx):Prop where
 mod:Mod X.K X.mg X.base
 kind:X.env.scope.kind=.function
 glob:X.env.globals=mainGlobals
 blt:X.env.builtins=builtinsNs
 above:X.s₀.heap.objs.size<=X.env.locals
 inj:∀ x y c,X.env.cells.lookup x=some c->X.env.cells.lookup y=some c->x=y
 has:∀ x,(X.env.kindOf x=some .cell\/X.env.kindOf x=some .free)->∃ c,X.env.cells.lookup x=some c
 cab:∀ x c,X.fn x=true->X.env.cells.lookup x=some c->X.s₀.heap.objs.size<=c
 hd:X.calm=true->X.A.handled=none
 frames:X.A.frames=some X.stack
 stk:X.stack=X.outer\/(X.stack=X.env::X.outer/\X.env.frame=some X.env.locals)
 exf:∀ b∈X.ex,b≠X.env.locals/\∀ x c,X.env.cells.lookup x=some c->c≠b
 bs:∀ b o,X.base.get? b=some o->X.s₀.heap.get? b=some o/\X.H₀ b=none
 bsz:X.base.objs.size<=X.s₀.heap.objs.size
 noex:∀ b o,X.base.get? b=some o->b ∉ X.ex
 exfs:∀ b∈X.ex,b ∉ X.fs
 funs:X.s₀.heap.FunFrames X.base X.outer
 frf:∀ b∈X.fs,X.H₀ b=none
structure Inv (X:Cx) (pins:List (Addr×Obj)) (Y:List (Option V)) (H:Hp) (s:Shared):Prop where
 ok:X.Ok
 os:s.os=X.s₀.os
 bare:AllBare s.gens
 base:Un X.fs X.ex X.H₀ H X.s₀.heap s.heap
 loc:∃ m,s.heap.Ns X.env.locals m/\∀ (i:Nat) (x:Str) (v:V),X.N[i]?=some x->Y[i]?=some (some v)->Vis X.env.scope x->∃ u,RelV v u/\Look X.env s.heap m x u
 cell:∀ x c,X.env.cells.lookup x=some c->∃ v,s.heap.IsCell c v
 free:H X.env.locals=none
 freeC:∀ x c,X.env.cells.lookup x=some c->H c=none
 pin:∀ p∈X.pn++pins,s.heap.get? p.1=some p.2/\H p.1=none/\p.1≠X.env.locals/\p.1 ∉ X.fs/\∀ v,p.2.data≠.cell v
 hok:HOk X.prog X.w H s.heap
 len:Y.length=X.N.length
section
variable {X:Cx} {pins:List (Addr×Obj)} {Y:List (Option V)} {H H':Hp} {s:Shared} {h':Heap}
theorem Cx.Ok.nofr (ok:X.Ok) (e:X.base.get? b=some o):b ∉ X.fs:=λa=>by
 have:=(ok.funs.mem a).1
 rw[e] at this;cases this
theorem Inv.bs (I:Inv X pins Y H s):∀ b o,X.base.get? b=some o->s.heap.get? b=some o/\H b=none:=λb o e =>
 #[I.base.keep b o (I.ok.bs b o e).1 (I.ok.bs b o e).2 (I.ok.nofr e) (I.ok.noex b o e),I.base.free b o (I.ok.bs b o e).1 (I.ok.bs b o e).2 (I.ok.noex b o e)]
theorem Inv.bk (I:Inv X pins Y H s):∀ b o,X.base.get? b=some o->s.heap.get? b=some o:=λb o e=>(I.bs b o e).1
theorem Inv.mod (I:Inv X pins Y H s):Mod X.K X.mg X.base:=I.ok.mod
theorem Inv.kIn (I:Inv X pins Y H s):X.K.In s.heap:=I.ok.mod.kin.keeps I.bk
theorem Inv.lt (I:Inv X pins Y H s):X.env.locals < s.heap.objs.size:=let #[_,a,_]:=I.loc;a.lt
theorem Inv.sz (I:Inv X pins Y H s):X.s₀.heap.objs.size<=s.heap.objs.size:=HE I.ok.above (Nat.le_of_lt I.lt)
theorem Inv.nofs (I:Inv X pins Y H s) (h:s.heap.objs.size<=a):a ∉ X.fs:=λc=>by
 obtain ⟨_,o,b,_⟩:=I.ok.funs.mem c
 exact absurd (Hq (G8 b) (HE I.sz h)) (Nat.lt_irrefl _)
theorem Inv.cne (I:Inv X pins Y H s):∀ x c,X.env.cells.lookup x=some c->c≠X.env.locals:=λx c e z=>by
 obtain ⟨v,o,d,hd⟩:=I.cell x c e
 obtain ⟨m,⟨o',es,f,a,b,_⟩,_⟩:=I.loc
 rw[z,a] at d;cases d;rw[b] at hd;cases hd
theorem Inv.funs (I:Inv X pins Y H s):s.heap.FunFrames X.base X.outer:=by
 have all:∀ (l:List Env),(∀ b∈frs l,b∈X.fs)->X.s₀.heap.FunFrames X.base l->s.heap.FunFrames X.base l:=by
  intro l
  induction l with
  | nil=>intro _ _;trivial
  | cons env r ih =>
   intro d h
   obtain ⟨j,⟨L,o,hf,i,g,hd⟩,f⟩:=h
   have a:L∈X.fs:=d L (by unfold frs;rw[List.filterMap_cons,hf];exact GX)
   obtain ⟨sl,e⟩:=I.base.slot L o g (I.ok.frf L a) a λz=>I.ok.exfs L z a
   exact #[j,#[L,_,hf,i,e,hd],ih (λb c=>d b (by unfold frs;rw[List.filterMap_cons,hf];exact GY _ c)) f]
 exact all X.outer (λ_ c=>c) I.ok.funs
theorem Inv.stack (I:Inv X pins Y H s):s.heap.FunFrames X.base X.stack:=by
 rcases I.ok.stk with e | ⟨e,hf⟩
 .rw[e];exact I.funs
 .rw[e]
  obtain ⟨m,a,_⟩:=I.loc
  refine .cons (by rw[I.ok.kind];decide) hf a ?_ I.funs
  exact Heap.get?_none_of_le (HE I.ok.bsz I.ok.above)
theorem Inv.stkSub (I:Inv X pins Y H s):∀ b∈frs X.stack,b∈X.env.locals::X.fs:=λb a=>by
 rcases I.ok.stk with e | ⟨e,hf⟩
 .rw[e] at a;exact GY _ a
 .rw[e] at a
  unfold frs at a
  rw[List.filterMap_cons,hf] at a
  exact a
theorem Inv.stkFree (I:Inv X pins Y H s):∀ b∈frs X.stack,H b=none:=λb a=>by
 rcases G6.mp (I.stkSub b a) with e | a
 .rw[e];exact I.free
 .obtain ⟨_,o,c,_⟩:=I.ok.funs.mem a
  exact I.base.free b o c (I.ok.frf b a) λz=>I.ok.exfs b z a
theorem Inv.step {t':Nat} {ch:List Addr} (I:Inv X pins Y H s) (f:∀ b∈ch,(b∈X.ex\/X.s₀.heap.objs.size<=b)/\b≠X.env.locals/\(∀ x c,X.env.cells.lookup x=some c->c≠b)/\∀ p∈X.pn++pins,p.1≠b) (keep:∀ b o,b≠X.env.locals->b ∉ X.fs->b ∉ ch->s.heap.get? b=some o->H b=none->h'.get? b=some o) (slot:∀ b o,b≠X.env.locals->b∈X.fs->b ∉ ch->s.heap.get? b=some o->H b=none->∃ sl,h'.get? b=some { o with slots:=sl }) (free:∀ b o,b ∉ ch->s.heap.get? b=some o->H b=none->H' b=none) (there:∀ b o,b ∉ ch->s.heap.get? b=some o->∃ o',h'.get? b=some o') (tups:∀ b xs,H b=some (.tup xs)->H' b=some (.tup xs)) (frzs:∀ b o u,H b=some (.frz o u)->H' b=some (.frz o u)) (tbls:∀ b ps,H b=some (.tbl ps)->∃ more,H' b=some (.tbl (ps++more))) (ns:∀ m,s.heap.Ns X.env.locals m->h'.Ns X.env.locals m) (hok:HOk X.prog X.w H' h') (G:AllBare g') :
  Inv X pins Y H' { s with heap:=h',gens:=g',drawn:=d',toks:=t' }:=by
 have y:∀ b o,X.s₀.heap.get? b=some o->b≠X.env.locals:=λb o e=>Hk (Hq (G8 e) I.ok.above)
 have h:∀ b o,X.s₀.heap.get? b=some o->b ∉ X.ex->b ∉ ch:=λb o e a j=>by
  rcases (f b j).1 with z | z
  .exact a z
  .exact absurd (Hq (G8 e) z) (Nat.lt_irrefl _)
 have cellK:∀ x c,X.env.cells.lookup x=some c->∀ v,s.heap.IsCell c v->h'.IsCell c v:=λx c e v #[o,t,hd]=>by
  have g:c ∉ ch:=λz=>(f c z).2.2.1 x c e rfl
  by_cases D:c∈X.fs
  .obtain ⟨sl,q⟩:=slot c o (I.cne x c e) D g t (I.freeC x c e)
   exact #[_,q,hd]
  .exact #[o,keep c o (I.cne x c e) D g t (I.freeC x c e),hd]
 refine #[I.ok,I.os,G,#[λb o e n j a=>?_,λb o e n j a=>?_,λb o e n a=>?_,λb o e a=>?_,λb xs e=>tups b xs (I.base.tups b xs e),λb o xs e=>frzs b o xs (I.base.frzs b o xs e),λb ps e=>?_],?_,λx c e=>?_,?_,λx c e=>?_,λp C=>?_,hok,I.len]
 .exact keep b o (y b o e) j (h b o e a) (I.base.keep b o e n j a) (I.base.free b o e n a)
 .obtain ⟨sl,e1⟩:=I.base.slot b o e n j a
  obtain ⟨B,A⟩:=slot b _ (y b o e) j (h b o e a) e1 (I.base.free b o e n a)
  exact #[B,A]
 .obtain ⟨o',e1⟩:=I.base.there b o e a
  exact free b o' (h b o e a) e1 (I.base.free b o e n a)
 .obtain ⟨o',e1⟩:=I.base.there b o e a
  exact there b o' (h b o e a) e1
 .obtain ⟨L,e1⟩:=I.base.tbls b ps e
  obtain ⟨K,A⟩:=tbls b _ e1
  exact #[L++K,by rw[A,Array.append_assoc]]
 .obtain ⟨m,J,M⟩:=I.loc
  refine #[m,ns m J,λi x v e1 A F=>?_]
  obtain ⟨u,r,l⟩:=M i x v e1 A F
  refine #[u,r,?_]
  rcases l with l | ⟨k,c,e,z⟩
  .exact .inl l
  .exact .inr #[k,c,e,cellK x c e _ z]
 .obtain ⟨v,z⟩:=I.cell x c e
  exact #[v,cellK x c e v z]
 .obtain ⟨m,⟨o,_,_,t,_⟩,_⟩:=I.loc
  exact free _ o (λz=>(f _ z).2.1 rfl) t I.free
 .obtain ⟨v,o,t,hd⟩:=I.cell x c e
  exact free c o (λz=>(f c z).2.2.1 x c e rfl) t (I.freeC x c e)
 .obtain ⟨e,n,ne,E,d⟩:=I.pin p C
  have g:p.1 ∉ ch:=λz=>(f p.1 z).2.2.2 p C rfl
  exact #[keep p.1 p.2 ne E g e n,free p.1 p.2 g e n,ne,E,d]
theorem Inv.un {t':Nat} (I:Inv X pins Y H s) (u:Un X.fs [] H H' s.heap h') (hok:HOk X.prog X.w H' h'):Inv X pins Y H' { s with heap:=h',toks:=t' }:=by
 obtain ⟨m,⟨o,es,j,g,r⟩,_⟩:=id I.loc
 obtain ⟨sl,h⟩:=u.any g I.free (by simp)
 exact I.step (g':=s.gens) (d':=s.drawn) (ch:=[]) (λ_ z=>nomatch z) (λb o _ d _ e n=>u.keep b o e n d (by simp)) (λb o _ d _ e n=>u.slot b o e n d (by simp)) (λb o _ e n=>u.free b o e n (by simp)) (λb o _ e=>u.there b o e (by simp)) u.tups u.frzs u.tbls (λk hm=>by
  obtain ⟨o',c,f,a,i⟩:=hm
  rw[g] at a;cases a
  exact #[_,c,f,h,i]) hok I.bare
theorem Inv.call {t':Nat} (I:Inv X pins Y H s) (u:Un (frs X.stack) ch H H' s.heap h') (hok:HOk X.prog X.w H' h') (l:AllBare g') (f:∀ b∈ch,(b∈X.ex\/X.s₀.heap.objs.size<=b)/\b≠X.env.locals/\(∀ x c,X.env.cells.lookup x=some c->c≠b)/\∀ p∈X.pn++pins,p.1≠b) :
  Inv X pins Y H' { s with heap:=h',gens:=g',drawn:=d',toks:=t' }:=by
 obtain ⟨m,⟨o,es,t,j,r⟩,_⟩:=id I.loc
 obtain ⟨sl,h⟩:=u.any j I.free λz=>(f _ z).2.1 rfl
 exact I.step (ch:=ch) f (λb o h k a e n=>u.keep b o e n (λz=>(G6.mp (I.stkSub b z)).elim h k) a) (λb o _ _ a e n=>u.any e n a) (λb o a e n=>u.free b o e n a) (λb o a e=>u.there b o e a) u.tups u.frzs u.tbls (λv hm=>by
  obtain ⟨o',g,i,d,q⟩:=hm
  rw[j] at d;cases d
  exact #[_,g,i,h,q]) hok l
theorem Inv.turned {t':Nat} (I:Inv X pins Y H s) (k:∀ b o,b≠it->s.heap.get? b=some o->h'.get? b=some o) (j:H it=none) (f:it≠X.env.locals) (h1:it∈X.ex\/X.s₀.heap.objs.size<=it) (h2:∀ x c,X.env.cells.lookup x=some c->c≠it) (h3:∀ p∈X.pn++pins,p.1≠it):Inv X pins Y H { s with heap:=h',toks:=t' }:=by
 have d:∀ b u,H b=some u->b≠it:=λb u e z=>by rw[z,j] at e;cases e
 refine I.step (g':=s.gens) (d':=s.drawn) (ch:=[it]) (λb h=>?_) (λb o _ _ a e _=>k b o (λz=>a (by simp[z])) e) (λb o _ _ a e _=>#[o.slots,k b o (λz=>a (by simp[z])) e]) (λ_ _ _ _ n=>n)
  (λb o a e=>#[o,k b o (λz=>a (by simp[z])) e]) (λ_ _ e=>e) (λ_ _ _ e=>e) (λb ps e=>#[(List.toArray []),by rw[e];simp]) (λm hm=>?_) (λb u e=>?_) I.bare
 .have e:b=it:=by simpa using h
  subst e
  exact #[h1,f,h2,h3]
 .obtain ⟨o,es,g,i,r⟩:=hm
  exact #[o,es,g,k _ o (Ne.symm f) i,r]
 .refine (I.hok b u e).stay (λc v a q=>k c v ?_ q) (λ_ q=>q) λ_ _ q=>q
  rcases a with z | z
  .rw[z];exact d b u e
  .exact d c _ z
theorem Inv.tok (I:Inv X pins Y H s) (t:Nat):Inv X pins Y H { s with toks:=t }:=I.un (h':=s.heap) (t':=t) Un.refl I.hok
theorem Inv.kept {t':Nat} (I:Inv X pins Y H s) (k:∀ b u,s.heap.get? b=some u->h'.get? b=some u):Inv X pins Y H { s with heap:=h',toks:=t' }:=I.un (Un.kept k) (I.hok.kept k)
theorem Inv.laid {t':Nat} (I:Inv X pins Y H s) (k:∀ b u,s.heap.get? b=some u->h'.get? b=some u) (c:s.heap.objs.size<=a) (new:ObjOk X.prog X.w (upd H a o) h' a o) :
  Inv X pins Y (upd H a o) { s with heap:=h',toks:=t' }:=I.un (Un.laid k c (I.hok.fresh c)) (I.hok.laid k c new)
theorem Inv.write {t':Nat} (I:Inv X pins Y H s) (c:Mut (H x)) (he:e=x\/H e=some (.own x)) (k:∀ b u,b≠e->s.heap.get? b=some u->h'.get? b=some u) (a:∃ u,h'.get? e=some u) (new:ObjOk X.prog X.w (upd H x o) h' x o):Inv X pins Y (upd H x o) { s with heap:=h',toks:=t' }:=I.un (Un.write c he k a) (I.hok.write c he k a new)
theorem Inv.pins_of (I:Inv X pins Y H s) (h:∀ p∈pins',s.heap.get? p.1=some p.2/\H p.1=none/\p.1≠X.env.locals/\p.1 ∉ X.fs/\∀ v,p.2.data≠.cell v):Inv X pins' Y H s :=
 #[I.ok,I.os,I.bare,I.base,I.loc,I.cell,I.free,I.freeC,λp a=>(G9.mp a).elim (λz=>I.pin p (G4 _ z)) (h p),I.hok,I.len]
theorem rG {N:List Str} (c:N.Nodup) {i j:Nat} (a:N[i]?=some x) (b:N[j]?=some x):i=j:=by
 obtain ⟨h1,e1⟩:=Hc.mp a
 obtain ⟨h2,d⟩:=Hc.mp b
 exact (List.getElem_inj c).mp (e1.trans d.symm)
theorem nV {i:Nat} (I:Inv X pins Y H s) (hN:X.N.Nodup) (hi:X.N[i]?=some x) (t:Loc X.env.scope x) (r:RelV v u) (h:∀ s',Inv X pins (Y.set i (some v)) H s'->(∃ a,Heap.SameBut a s.heap s'.heap/\(a=X.env.locals\/X.env.cells.lookup x=some a))->Q () s') (hf:X.fn x=true\/X.env.scope.names.lookup x=some .local:=by first | exact .inl rfl | exact .inr rfl | assumption):wpAny M A (storeName X.env x u) Q E s:=by
 obtain ⟨m,hn,hl⟩:=id I.loc
 have P:(X.env.scope.kind == .class || (X.env.scope.kind == .module && X.env.locals != X.env.globals))=false:=by rw[I.ok.kind];rfl
 have hiσ:i < Y.length:=by rw[I.len];exact (Hc.mp hi).1
 have cne:=I.cne
 have g:∀ {a:Addr} {h':Heap},(∃ o,s.heap.get? a=some o/\H a=none)->Heap.SameBut a s.heap h'->HOk X.prog X.w H h':=λ{a h'} ha f b ob e=>by
  obtain ⟨_,_,B⟩:=ha
  refine (I.hok b ob e).stay (λc S l q=>(f.2 c ?_).trans q) (λ_ q=>q) λ_ _ q=>q
  rintro rfl
  rcases l with rfl | l
  .rw[B] at e;cases e
  .rw[B] at l;cases l
 rcases t with D | D
 .refine wpAny_storeName_local D hn (λh' ae f=>?_) P
  obtain ⟨oL,_,_,V,_⟩:=id hn
  refine h _ #[I.ok,I.os,I.bare,#[λb o e n F t=>?_,λb o e n F t=>?_,I.base.free,λb o e t=>?_,I.base.tups,I.base.frzs,I.base.tbls],#[_,ae,λj y W e1 C φ=>?_],λy c e=>?_,I.free,I.freeC,λp σ=>?_,g #[oL,V,I.free] f,by simpa using I.len] #[_,f,.inl rfl]
  .exact (f.2 b (Hk (Hq (G8 e) I.ok.above))).trans (I.base.keep b o e n F t)
  .obtain ⟨sl,e1⟩:=I.base.slot b o e n F t
   exact #[sl,(f.2 b (Hk (Hq (G8 e) I.ok.above))).trans e1]
  .obtain ⟨o',e1⟩:=I.base.there b o e t
   exact #[o',(f.2 b (Hk (Hq (G8 e) I.ok.above))).trans e1]
  .by_cases G:j=i
   .subst G
    rw[hi] at e1;cases e1
    rw[List.getElem?_set_self hiσ] at C
    cases C
    exact #[u,r,.inl #[D,by simp]]
   .rw[List.getElem?_set_ne (Ne.symm G)] at C
    obtain ⟨u',ρ,q⟩:=hl j y W e1 C φ
    refine #[u',ρ,?_]
    rcases q with ⟨k,e⟩ | ⟨k,c,e,z⟩
    .refine .inl #[k,?_]
     have:y≠x:=λe=>G (rG hN e1 (e ▸ hi))
     simp[this,e]
    .exact .inr #[k,c,e,z.sameBut f (cne y c e)]
  .obtain ⟨S,z⟩:=I.cell y c e
   exact #[S,z.sameBut f (cne y c e)]
  .obtain ⟨e,n,ne,nf,d⟩:=I.pin p σ
   exact #[(f.2 p.1 ne).trans e,n,ne,nf,d]
 .have J:X.fn x=true:=by
   rcases hf with z | z
   .exact z
   .rw[z] at D;cases D
  obtain ⟨c,l⟩:=I.ok.has x (.inl D)
  obtain ⟨S,z⟩:=I.cell x c l
  refine wpAny_storeName_cell I.ok.kind D l z (λh' R f=>?_)
  obtain ⟨oc,K,L⟩:=id z
  refine h { s with heap:=h' } #[I.ok,I.os,I.bare,#[λb o e n F t=>?_,λb o e n F t=>?_,I.base.free,λb o e t=>?_,I.base.tups,I.base.frzs,I.base.tbls],#[m,hn.sameBut f (Ne.symm (cne x c l)),λj y W e1 C φ=>?_],λy T e=>?_,I.free,I.freeC,λp σ=>?_,g #[oc,K,I.freeC x c l] f,by simpa using I.len] #[c,f,.inr l]
  .exact (f.2 b (Hk (Hq (G8 e) (I.ok.cab x c J l)))).trans (I.base.keep b o e n F t)
  .obtain ⟨sl,e1⟩:=I.base.slot b o e n F t
   exact #[sl,(f.2 b (Hk (Hq (G8 e) (I.ok.cab x c J l)))).trans e1]
  .obtain ⟨o',e1⟩:=I.base.there b o e t
   exact #[o',(f.2 b (Hk (Hq (G8 e) (I.ok.cab x c J l)))).trans e1]
  .by_cases G:j=i
   .subst G
    rw[hi] at e1;cases e1
    rw[List.getElem?_set_self hiσ] at C
    cases C
    exact #[u,r,.inr #[.inl D,c,l,R]]
   .rw[List.getElem?_set_ne (Ne.symm G)] at C
    obtain ⟨u',ρ,q⟩:=hl j y W e1 C φ
    refine #[u',ρ,?_]
    rcases q with q | ⟨k,T,e,z'⟩
    .exact .inl q
    .refine .inr #[k,T,e,z'.sameBut f ?_]
     rintro rfl
     exact G (rG hN e1 (I.ok.inj _ _ _ e l ▸ hi))
  .by_cases τ:T=c
   .subst τ;exact #[_,R]
   .obtain ⟨w2,z2⟩:=I.cell y T e
    exact #[w2,z2.sameBut f τ]
  .obtain ⟨e,n,ne,nf,d⟩:=I.pin p σ
   refine #[(f.2 p.1 ?_).trans e,n,ne,nf,d]
   intro q
   rw[q,K] at e
   have q':oc=p.2:=HJ e
   exact d S (by rw[<- q'];exact L)
theorem ip {i:Nat} (I:Inv X pins Y H s) (a:X.N.Nodup) (hi:X.N[i]?=some x) (c:Loc X.env.scope x) (r:RelV v u) (h:∀ s',Inv X pins (Y.set i (some v)) H s'->Q () s') (hf:X.fn x=true\/X.env.scope.names.lookup x=some .local:=by first | exact .inl rfl | exact .inr rfl | assumption):wpAny M A (storeName X.env x u) Q E s :=
 nV I a hi c r (λs' b _=>h s' b) hf
theorem Inv.call' (I:Inv X pins Y H s) (d:s'.os=s.os) (u:Un (frs X.stack) ch H H' s.heap s'.heap) (hok:HOk X.prog X.w H' s'.heap) (f:AllBare s'.gens) (a:∀ b∈ch,(b∈X.ex\/X.s₀.heap.objs.size<=b)/\b≠X.env.locals/\(∀ x c,X.env.cells.lookup x=some c->c≠b)/\∀ p∈X.pn++pins,p.1≠b):Inv X pins Y H' s':=by
 obtain ⟨h',g',d',t',o'⟩:=s'
 have e:o'=s.os:=d
 subst e
 exact I.call (g':=g') (t':=t') (d':=d') u hok f a
end
abbrev XK:=Value->Option Addr->Hp->Prop
abbrev St:=List (Option V)
abbrev VK:=V->Hp->Prop
abbrev TE:=St->Hp->VK->Prop
abbrev TT:=St->Hp->(Bool->Hp->Prop)->Prop
abbrev TA:=St->Hp->(List V->Hp->Prop)->Prop
structure Ends where
 nx:St->Hp->Prop
 rt:VK
 bk:St->Hp->Prop:=λ_ _=>False
 ct:St->Hp->Prop:=λ_ _=>False
abbrev TS:=Ends->St->Hp->Prop
def EP (X:Cx) (pins:List (Addr×Obj)) (Y:St) (Q:VK) (u:Value) (s':Shared):Prop:=∃ v H',Inv X pins Y H' s'/\RelV v u/\Q v H'
def TP (X:Cx) (pins:List (Addr×Obj)) (Y:St) (Q:Bool->Hp->Prop) (b:Bool) (s':Shared):Prop:=∃ H',Inv X pins Y H' s'/\Q b H'
def AP (X:Cx) (pins:List (Addr×Obj)) (Y:St) (Q:List V->Hp->Prop) (us:List Value) (s':Shared):Prop:=∃ a H',Inv X pins Y H' s'/\Vals a us/\Q a H'
def SP (X:Cx) (pins:List (Addr×Obj)) (D:Ends) (f:Flow) (s':Shared):Prop :=
 match f with
 | .next=>∃ Y' H',Inv X pins Y' H' s'/\D.nx Y' H'
 | .brk=>∃ Y' H',Inv X pins Y' H' s'/\D.bk Y' H'
 | .cont=>∃ Y' H',Inv X pins Y' H' s'/\D.ct Y' H'
 | .ret u=>∃ v Y' H',Inv X pins Y' H' s'/\RelV v u/\D.rt v H'
def PE (X:Cx) (e:Expr) (t:TE):Prop :=
 ∀ (pins:List (Addr×Obj)) (s:Shared) (Y:St) (H:Hp) (Q:VK),Inv X pins Y H s->t Y H Q->wpAny (model X.prog X.w) X.A (eval e X.env) (EP X pins Y Q) X.xe s
def PT (X:Cx) (e:Expr) (t:TT):Prop :=
 ∀ (pins:List (Addr×Obj)) (s:Shared) (Y:St) (H:Hp) (Q:Bool->Hp->Prop),Inv X pins Y H s->t Y H Q->wpAny (model X.prog X.w) X.A (isTrue e X.env (eval e X.env)) (TP X pins Y Q) X.xe s
def PW (X:Cx) (e:Expr) (t:TT):Prop :=
 ∀ (whole:Sem Value) (pins:List (Addr×Obj)) (s:Shared) (Y:St) (H:Hp) (Q:Bool->Hp->Prop),Inv X pins Y H s->t Y H Q->wpAny (model X.prog X.w) X.A (isTrue e X.env whole) (TP X pins Y Q) X.xe s
theorem PW.pt (h:PW X e t):PT X e t:=h _
def PA (X:Cx) (es:List Expr) (t:TA):Prop :=
 ∀ (pos:Pos) (pins:List (Addr×Obj)) (s:Shared) (Y:St) (H:Hp) (Q:List V->Hp->Prop),Inv X pins Y H s->t Y H Q->wpAny (model X.prog X.w) X.A (spliced (backTo pos (starEach es X.env))) (AP X pins Y Q) X.xe s
def PS (X:Cx) (st:Stmt) (t:TS):Prop :=
 ∀ (pins:List (Addr×Obj)) (s:Shared) (Y:St) (H:Hp) (D:Ends),Inv X pins Y H s->t D Y H->wpAny (model X.prog X.w) X.A (exec st X.env) (SP X pins D) X.xe s
def PSs (X:Cx) (st:List Stmt) (t:TS):Prop :=
 ∀ (pins:List (Addr×Obj)) (s:Shared) (Y:St) (H:Hp) (D:Ends),Inv X pins Y H s->t D Y H->wpAny (model X.prog X.w) X.A (execs st X.env) (SP X pins D) X.xe s
theorem thn (h:wpAny M A t Q E s) (b:∀ a s,Q a s->Q' a s):wpAny M A t Q' E s:=wpAny_mono h b λ_ _ x=>x
end L2
namespace L2
open PySem PySem.Spec PyProof.Rows
section
variable {X:Cx}
theorem bin (g:PE X a ta) (j:PE X b tb) {R:V->V->Hp->Prop} (I:Inv X pins Y H s) (h:ta Y H λx H1=>tb Y H1 λy H2=>R x y H2) {Q:α->Shared->Prop} {f:Value->Value->Sem α} (hf:∀ v u s2 x y H2,Inv X pins Y H2 s2->RelV x v->RelV y u->R x y H2->wpAny (model X.prog X.w) X.A (f v u) Q X.xe s2) :
  wpAny (model X.prog X.w) X.A (eval a X.env) (λv e=>wpAny (model X.prog X.w) X.A (eval b X.env) (λu d=>wpAny (model X.prog X.w) X.A (f v u) Q X.xe d) X.xe e) X.xe s:=by
 refine thn (g pins s Y H _ I h) λv s1 #[x,H1,n,l,k]=>?_
 refine thn (j pins s1 Y H1 _ n k) λu s2 #[y,H2,c,i,m]=>?_
 exact hf v u s2 x y H2 c l i m
def ww (i:Nat):TE:=λY H Q=>∃ v,Y[i]?=some (some v)/\Q v H
def tC (v:V):TE:=λ_ H Q=>Q v H
theorem mn {i:Nat} (j:X.N[i]?=some x) (n:Vis X.env.scope x) (hd:(x == ("__debug__":Str))=false:=by decide) (d:(x == ("__classdict__":Str))=false:=by decide):PE X (.Name x pos) (ww i):=by
 intro pins s Y H Q I h
 obtain ⟨v,e,h⟩:=h
 obtain ⟨m,k,g⟩:=I.loc
 obtain ⟨u,r,l⟩:=g i x v j e n
 have fin:EP X pins Y Q u s:=#[v,H,I,r,h]
 rcases l with ⟨b,hm⟩ | ⟨b,c,f,a⟩
 .exact wpAny_Name (wpAny_loadName_local I.ok.kind b k hm fin) hd
 .rcases b with b | b
  .exact wpAny_Name (wpAny_loadName_cell I.ok.kind b f a fin) hd
  .exact wpAny_Name (wpAny_loadName_free I.ok.kind b f a fin d) hd
theorem FD:PE X (.Constant (.int i) j pos) (tC (.int i)):=λ_ _ _ H _ I h=>wpAny_Constant_int #[.int i,H,I.tok _,#[_,rfl],h]
theorem pe_bl:PE X (.Constant (.bool b) j pos) (tC (.bl b)):=λ_ _ _ H _ I h=>Constant_bool #[.bl b,H,I,rfl,h]
theorem Fz:PE X (.Constant .none j pos) (tC .non):=λ_ _ _ H _ I h=>Constant_none #[.non,H,I,rfl,h]
theorem Fv:PE X (.Constant (.str x) j pos) (tC (.str x)):=λ_ _ _ H _ I h=>Calls.Constant_str #[.str x,H,I.tok _,#[_,rfl],h]
def Gl (X:Cx) (x:Str):Prop:=X.env.kindOf x=some .globalImplicit
theorem i9 (I:Inv X pins Y H s) (a:Gl X x) (hm:X.mg x=some u) (h:Q u s) (hd:(x == ("__debug__":Str))=false:=by decide):wpAny (model X.prog X.w) X.A (eval (.Name x pos) X.env) Q E s :=
 Calls.Name_function_global I.ok.kind a (Calls.loadGlobal_global (by rw[I.ok.glob];exact I.mod.glob.keeps I.bk) hm h) hd
theorem iK (I:Inv X pins Y H s) (a:Gl X x) (hm:X.mg x=none) (c:bootBuiltins x=some u) (h:Q u s) (b:x≠"__name__":=by decide) (hd:(x == ("__debug__":Str))=false:=by decide):wpAny (model X.prog X.w) X.A (eval (.Name x pos) X.env) Q E s:=by
 obtain ⟨mb,h1,h2⟩:=I.mod.blt
 exact Calls.Name_function_global I.ok.kind a (Calls.loadGlobal_builtin (by rw[I.ok.glob];exact I.mod.glob.keeps I.bk) hm (by rw[I.ok.blt];exact h1.keeps I.bk) ((h2 x b).trans c) h) hd
theorem vq (a:Gl X x) (hm:X.mg x=some u) (r:RelV v u) (hd:(x == ("__debug__":Str))=false:=by decide):PE X (.Name x pos) (tC v) :=
 λ_ _ _ H _ I h=>i9 I a hm #[v,H,I,r,h] hd
theorem lK (a:Gl X x) (hm:X.mg x=none) (c:bootBuiltins x=some u) (r:RelV v u) (b:x≠"__name__":=by decide) (hd:(x == ("__debug__":Str))=false:=by decide):PE X (.Name x pos) (tC v) :=
 λ_ _ _ H _ I h=>iK I a hm c #[v,H,I,r,h] b hd
variable {a b:Expr} {ta tb:TE} {pos:Pos}
def PC (X:Cx) (op:CmpOp) (a b:Expr) (t:TE):Prop :=
 ∀ (pins:List (Addr×Obj)) (s:Shared) (Y:St) (H:Hp) (Q:VK),Inv X pins Y H s->t Y H Q ->
  wpAny (model X.prog X.w) X.A (eval a X.env) (λv d=>wpAny (model X.prog X.w) X.A (eval b X.env) (λu c=>wpAny (model X.prog X.w) X.A (compareOp op v u) (EP X pins Y Q) X.xe c) X.xe d) X.xe s
def tB (t:TE):TT:=λY H Q=>t Y H λx H1=>∃ c,x=.bl c/\Q c H1
theorem Fj (h:PE X e t) (he:∀ whole,isTrue e X.env whole=(do let v <- whole;standAt e.pos;holding [v] (truthy v)):=by intro _;rfl):PT X e (tB t):=by
 intro pins s Y H Q I hw
 refine isTrue_plain (thn (h pins s Y H _ I hw) λv s1 #[x,H1,c,b,a]=>?_) (he _)
 obtain ⟨d,rfl,q⟩:=a
 cases b
 exact HD #[H1,c,q]
variable {tA tB':TT} {ig:List Expr}
def tOr (t u:TT):TT:=λY H Q=>t Y H λc H1=>if c=true then Q true H1 else u Y H1 Q
def tNot (t:TT):TT:=λY H Q=>t Y H λc H1=>Q (!c) H1
theorem Fh (b:PT X a tA):PW X (.BoolOp .Or [a] pos) tA:=by
 intro d pins s Y H Q I h
 refine isTrue_or (thn (b pins s Y H Q I h) λc s1 e=>?_)
 cases c with
 | false=>exact isTrue_or_nil e
 | true=>exact e
theorem pw_or (g:PT X a tA) (i:PW X (.BoolOp .Or (b::ig) pos) tB'):PW X (.BoolOp .Or (a::b::ig) pos) (tOr tA tB'):=by
 intro f pins s Y H Q I h
 refine isTrue_or (thn (g pins s Y H _ I h) λc s1 #[H1,e,d]=>?_)
 cases c with
 | true=>exact #[H1,e,d]
 | false=>exact i f pins s1 Y H1 Q e d
theorem Fm (b:PT X a tA):PT X (.UnaryOp .Not a pos) (tNot tA):=by
 intro pins s Y H Q I h
 exact isTrue_not (b pins s Y H (λc H1=>Q (!c) H1) I h)
def Dr (ta tb:TE):TE:=λY H Q=>ta Y H λx H1=>∃ c,x=.bl c/\if c=true then tb Y H1 Q else Q (.bl false) H1
def Dn (ta:TE):TE:=λY H Q=>ta Y H λx H1=>∃ c,x=.bl c/\Q (.bl (!c)) H1
theorem Fw (h:PE X a t):PE X (.BoolOp op [a] pos) t:=λpins s Y H Q I hw=>BoolOp_one (h pins s Y H Q I hw)
theorem FH (f:PE X a ta) (g:PE X (.BoolOp .And (b::ig) pos) tb):PE X (.BoolOp .And (a::b::ig) pos) (Dr ta tb):=by
 intro pins s Y H Q I h
 refine BoolOp_and (thn (f pins s Y H _ I h) λv s1 #[x,H1,e,i,d]=>?_)
 obtain ⟨c,rfl,d⟩:=d
 cases i
 refine HD ?_
 cases c with
 | true=>exact g pins s1 Y H1 Q e d
 | false=>exact #[.bl false,H1,e,rfl,d]
theorem Fy (f:PE X a ta):PE X (.UnaryOp .Not a pos) (Dn ta):=by
 intro pins s Y H Q I h
 refine UnaryOp_ (thn (f pins s Y H _ I h) λv s1 #[x,H1,e,d,b]=>?_)
 obtain ⟨c,rfl,b⟩:=b
 cases d
 exact not_of (HD #[.bl (!c),H1,e,rfl,b])
def tIf (t:TT) (ta tb:TE):TE:=λY H Q=>t Y H λc H1=>if c=true then ta Y H1 Q else tb Y H1 Q
theorem zJ (g:PT X c tA) (i:PE X a ta) (j:PE X b tb):PE X (.IfExp c a b pos) (tIf tA ta tb):=by
 intro pins s Y H Q I h
 refine wpAny_IfExp (thn (g pins s Y H _ I h) λd s1 #[H1,f,e]=>?_)
 cases d with
 | true=>exact i pins s1 Y H1 Q f e
 | false=>exact j pins s1 Y H1 Q f e
end
end L2
namespace L2
open PySem PySem.Spec PyProof.Rows
def SqL (K:FG) (H:Hp) (a:Addr) (xs:List V):Prop :=
 Rd H a (.lst xs) \/
  ∃ (o:Obj) (its:Array Value) (n:Nat),K.lookup a=some o/\o.cls=.type "list"/\o.dict=none/\o.data=.seq its n/\its.size<=sizeLine/\Vals xs its.toList
def SqT (K:FG) (H:Hp) (a:Addr) (xs:List V):Prop :=
 Rd H a (.tup xs) \/
  ∃ (o:Obj) (its:Array Value) (n:Nat),K.lookup a=some o/\o.cls=.type "tuple"/\o.data=.seq its n/\its.size<=sizeLine/\Vals xs its.toList
def absV:Value->Option V
 | .none=>some .non
 | .bool b=>some (.bl b)
 | .int i _=>some (.int i)
 | .str x _=>some (.str x)
 | .bytes b _=>some (.byt b)
 | .float b _=>some (.flt b)
 | .ref a=>some (.ref a)
 | .type n=>some (.ty n)
 | _=>none
theorem RelV.abs (r:RelV x u):absV u=some x:=by
 cases x with
 | non=>cases r;rfl
 | bl _=>cases r;rfl
 | int _=>obtain ⟨t,rfl⟩:=r;rfl
 | str _=>obtain ⟨t,rfl⟩:=r;rfl
 | byt _=>obtain ⟨t,rfl⟩:=r;rfl
 | flt _=>obtain ⟨t,rfl⟩:=r;rfl
 | ref _=>cases r;rfl
 | ty _=>cases r;rfl
theorem RelV.inj (r:RelV x u) (q:RelV y u):x=y:=HJ (r.abs.symm.trans q.abs)
theorem Vals.inj:∀ {xs ys:List V} {us:List Value},Vals xs us->Vals ys us->xs=ys
 | _,_,_,.nil,.nil=>rfl
 | _,_,_,.cons r t,.cons r' t'=>by rw[r.inj r',Vals.inj t t']
section
variable {X:Cx} {pins:List (Addr×Obj)} {Y:St} {H:Hp} {s:Shared} {a:Addr} {xs ys:List V}
theorem SqL.of {K:FG} (h:H a=some (.lst xs)):SqL K H a xs:=.inl (.inl h)
theorem SqT.of {K:FG} (h:H a=some (.tup xs)):SqT K H a xs:=.inl (.inl h)
theorem Inv.list (I:Inv X pins Y H s) (h:SqL X.K H a xs):∃ its:List Value,Vals xs its/\PlainL s.heap a its.toArray/\xs.length<=sizeLine:=by
 rcases h with h | ⟨o,its,n,c,b,hd,d,hz,r⟩
 .obtain ⟨z,its,n,r,e⟩:=h.ok I.hok
  exact #[its,r,#[_,n,e,rfl,rfl,rfl],z]
 .refine #[its.toList,r,#[o,n,I.kIn a o c,b,hd,by simpa using d],?_]
  have e:=r.length
  simp only[Array.length_toList] at e
  lia
theorem Inv.tuple (I:Inv X pins Y H s) (h:SqT X.K H a xs):∃ its:List Value,Vals xs its/\IsTup s.heap a its.toArray/\xs.length<=sizeLine:=by
 rcases h with h | ⟨o,its,n,c,b,d,hz,r⟩
 .obtain ⟨z,its,r,p⟩:=h.ok I.hok
  exact #[its,r,p.tup,z]
 .refine #[its.toList,r,#[o,I.kIn a o c,b,n,by simpa using d],?_]
  have e:=r.length
  simp only[Array.length_toList] at e
  lia
theorem Inv.list_inj (I:Inv X pins Y H s) (h:SqL X.K H a xs) (h':SqL X.K H a ys):xs=ys:=by
 obtain ⟨its,r,⟨o,n,e,_,_,d⟩,_⟩:=I.list h
 obtain ⟨its',c,⟨o',f,b,_,_,d'⟩,_⟩:=I.list h'
 rw[e] at b;cases b
 rw[d] at d'
 injection d' with d1 _
 have:its=its':=by simpa using congrArg Array.toList d1
 subst this
 exact r.inj c
theorem Inv.tuple_inj (I:Inv X pins Y H s) (h:SqT X.K H a xs) (h':SqT X.K H a ys):xs=ys:=by
 obtain ⟨its,r,⟨o,e,_,n,d⟩,_⟩:=I.tuple h
 obtain ⟨its',c,⟨o',b,_,f,d'⟩,_⟩:=I.tuple h'
 rw[e] at b;cases b
 rw[d] at d'
 injection d' with d1 _
 have:its=its':=by simpa using congrArg Array.toList d1
 subst this
 exact r.inj c
end
abbrev Cx.wish (X:Cx) (E:Value->Shared->Prop):Cx:={ X with xe:=E }
abbrev Cx.nox (X:Cx):Cx:=X.wish λ_ _=>False
theorem Cx.Ok.wish {X:Cx} (ok:X.Ok) (E:Value->Shared->Prop):(X.wish E).Ok :=
 #[ok.mod,ok.kind,ok.glob,ok.blt,ok.above,ok.inj,ok.has,ok.cab,ok.hd,ok.frames,ok.stk,ok.exf,ok.bs,ok.bsz,ok.noex,ok.exfs,ok.funs,ok.frf]
theorem Cx.Ok.unwish {X:Cx} (ok:(X.wish E).Ok):X.Ok :=
 #[ok.mod,ok.kind,ok.glob,ok.blt,ok.above,ok.inj,ok.has,ok.cab,ok.hd,ok.frames,ok.stk,ok.exf,ok.bs,ok.bsz,ok.noex,ok.exfs,ok.funs,ok.frf]
section
variable {X:Cx} {pins:List (Addr×Obj)} {Y:St} {H:Hp} {s:Shared} {E:Value->Shared->Prop}
theorem Inv.wish (I:Inv X pins Y H s) (E:Value->Shared->Prop):Inv (X.wish E) pins Y H s:=#[I.ok.wish E,I.os,I.bare,I.base,I.loc,I.cell,I.free,I.freeC,I.pin,I.hok,I.len]
theorem Inv.unwish (I:Inv (X.wish E) pins Y H s):Inv X pins Y H s:=#[I.ok.unwish,I.os,I.bare,I.base,I.loc,I.cell,I.free,I.freeC,I.pin,I.hok,I.len]
theorem SP.unwish (h:SP (X.wish E) pins D f s'):SP X pins D f s':=by
 cases f with
 | next=>obtain ⟨Y',H',I,q⟩:=h;exact #[Y',H',I.unwish,q]
 | brk=>obtain ⟨Y',H',I,q⟩:=h;exact #[Y',H',I.unwish,q]
 | cont=>obtain ⟨Y',H',I,q⟩:=h;exact #[Y',H',I.unwish,q]
 | ret u=>obtain ⟨v,Y',H',I,r,q⟩:=h;exact #[v,Y',H',I.unwish,r,q]
theorem PSs.nox {st:List Stmt} (h:PSs X.nox st t):PSs X st t:=λpins s Y H D I hw =>
 wpAny_mono (h pins s Y H D (I.wish _) hw) (λ_ _ q=>q.unwish) λ_ _ z=>False.elim z
end
section
variable {X:Cx} {st:Stmt} {ig:List Stmt} {t u:TS} {e:Expr} {te:TE} {pos:Pos}
def Do:TS:=λD Y H=>D.nx Y H
def tSeq (t u:TS):TS:=λD Y H=>t { D with nx:=u D } Y H
theorem Ck:PSs X [] Do:=λ_ _ Y H _ I h=>wpAny_execs_nil #[Y,H,I,h]
theorem zx (h1:PS X st t) (h2:PSs X ig u):PSs X (st::ig) (tSeq t u):=by
 intro pins s Y H D I h
 refine wpAny_execs_cons (thn (h1 pins s Y H { D with nx:=u D } I h) λf s1 q=>?_)
 cases f with
 | next =>
  obtain ⟨Y',H',a,q⟩:=q
  exact h2 pins s1 Y' H' D a q
 | ret v=>exact q
 | brk=>exact q
 | cont=>exact q
theorem vn (h1:PS X st t):PSs X [st] t:=by
 intro pins s Y H D I h
 refine wpAny_execs_cons (thn (h1 pins s Y H D I h) λf s1 q=>?_)
 cases f with
 | next=>exact wpAny_execs_nil q
 | ret v=>exact q
 | brk=>exact q
 | cont=>exact q
theorem Inv.quiet (I:Inv X pins Y H s):interactive X.env=false:=by simp[interactive,I.ok.kind]
def Dp (te:TE):TS:=λD Y H=>te Y H λ_ H1=>D.nx Y H1
theorem Cl (he:PE X e te) (c:swapsWith e none pos.line X.env=pure false:=by rfl):PS X (.Expr e pos) (Dp te):=by
 intro pins s Y H D I h
 exact wpAny_Expr_any (thn (he pins s Y H _ I h) λv s1 #[x,H1,b,d,a]=>#[Y,H1,b,a]) I.quiet c
def tRet (te:TE):TS:=λD Y H=>te Y H D.rt
theorem Fp (he:PE X e te):PS X (.Return (some e) pos) (tRet te):=by
 intro pins s Y H D I h
 exact wpAny_Return_some (thn (he pins s Y H _ I h) λv s1 #[x,H1,c,b,a]=>#[x,Y,H1,c,b,a])
def tIfS (c:TT) (t u:TS):TS:=λD Y H=>c Y H λb H1=>if b=true then t D Y H1 else u D Y H1
theorem ps_if (g:PT X c tc) (i:PSs X a t) (j:PSs X b u):PS X (.If c a b pos) (tIfS tc t u):=by
 intro pins s Y H D I h
 refine wpAny_If (thn (g pins s Y H _ I h) λd s1 #[H1,f,e]=>?_)
 cases d with
 | true=>exact i pins s1 Y H1 D f e
 | false=>exact j pins s1 Y H1 D f e
def Em:TS:=λ_ _ _=>False
theorem zC:PS X st Em:=λ_ _ _ _ _ _ h=>h.elim
end
abbrev TG:=V->St->Hp->(St->Hp->Prop)->Prop
abbrev TGs:=List V->St->Hp->(St->Hp->Prop)->Prop
def PG (X:Cx) (target:Expr) (t:TG):Prop :=
 ∀ (pins:List (Addr×Obj)) (s:Shared) (Y:St) (H:Hp) (v:V) (u:Value) (Q:St->Hp->Prop),Inv X pins Y H s->RelV v u->t v Y H Q ->
  wpAny (model X.prog X.w) X.A (assign target X.env u) (λ_ s'=>∃ Y' H',Inv X pins Y' H' s'/\Q Y' H') X.xe s
def PGs (X:Cx) (b:List Expr) (t:TGs):Prop :=
 ∀ (pins:List (Addr×Obj)) (s:Shared) (Y:St) (H:Hp) (a:List V) (us:List Value) (Q:St->Hp->Prop),Inv X pins Y H s->Vals a us->t a Y H Q ->
  wpAny (model X.prog X.w) X.A (assignInOrder ((assignEach b X.env).map (·.2)) us) (λ_ s'=>∃ Y' H',Inv X pins Y' H' s'/\Q Y' H') X.xe s
abbrev GS:=V->V->V->Hp->(Hp->Prop)->Prop
def Bf (X:Cx) (t:GS):Prop :=
 ∀ (pins:List (Addr×Obj)) (s:Shared) (Y:St) (H:Hp) (o i v:V) (a b u:Value) (Q:Hp->Prop),Inv X pins Y H s->RelV o a->RelV i b->RelV v u->t o i v H Q ->
  wpAny (model X.prog X.w) X.A (setItem a b u) (λ_ s'=>∃ H',Inv X pins Y H' s'/\Q H') X.xe s
section
variable {X:Cx} {pos:Pos}
def vN (i:Nat):TG:=λv Y H Q=>Q (Y.set i (some v)) H
theorem jN {i:Nat} (b:X.N.Nodup) (hi:X.N[i]?=some x) (a:Loc X.env.scope x) (hf:X.fn x=true\/X.env.scope.names.lookup x=some .local:=by first | exact .inl rfl | exact .inr rfl | assumption):PG X (.Name x pos) (vN i):=by
 intro pins s Y H v u Q I r h
 exact wpAny_assign_Name (ip I b hi a r (λs' c=>#[_,H,c,h]) hf)
def gNil:TGs:=λa Y H Q=>a=[]/\Q Y H
def DI (t:TG) (u:TGs):TGs:=λa Y H Q=>∃ v r,a=v::r/\t v Y H λY' H'=>u r Y' H' Q
theorem vp:PGs X [] gNil:=by
 intro pins s Y H a us Q I r h
 obtain ⟨e,h⟩:=h
 subst e
 cases r
 exact assignInOrder_nil #[Y,H,I,h]
theorem mm (h1:PG X e t) (h2:PGs X es u) (c:(assignEach (e::es) X.env).map (·.2)=assign e X.env::(assignEach es X.env).map (·.2):=by rfl):PGs X (e::es) (DI t u):=by
 intro pins s Y H f us Q I r h
 obtain ⟨v,d,e1,h⟩:=h
 subst e1
 cases r with
 | cons r rr =>
  rw[c]
  refine assignInOrder_cons (thn (h1 pins s Y H _ _ _ I r h) λ_ s1 #[Y1,H1,b,a]=>?_)
  exact h2 pins s1 Y1 H1 _ _ Q b rr a
def gTup (K:FG) (n:Nat) (t:TGs):TG:=λv Y H Q=>∃ a xs,v=.ref a/\SqT K H a xs/\xs.length=n/\t xs Y H Q
theorem zH {k:Nat} {n:Nat} (m:X.calm=true) (h:PGs X es t) (l:(assignEach es X.env).length=n:=by rfl) (c:(assignEach es X.env).findIdx? (·.1)=none:=by rfl):PG X (.Tuple es k pos) (gTup X.K n t):=by
 intro pins s Y H v u Q I r hw
 obtain ⟨a,xs,e1,i,j,hw⟩:=hw
 subst e1
 cases r
 obtain ⟨its,d,g,hz⟩:=I.tuple i
 refine assign_Tuple_tuple (I.ok.hd m) g (by simp[l,<- j,d.length]) c λh' f=>?_
 have p:Inv X pins Y H { s with heap:=h' }:=I.kept (t':=s.toks) λb o e=>f b o (Hk (G8 e)) e
 exact h pins _ Y H xs _ Q p (by simpa using d) hw
def gSub (to b:TE) (t:GS):TG:=λv Y H Q=>to Y H λo H1=>b Y H1 λi H2=>t o i v H2 λa=>Q Y a
theorem Ft (f:PE X o to) (hi:PE X i ti) (q:Bf X t) (g:∀ v,assign (.Subscript o i pos) X.env v=(do
   let a <- holding [v] (eval o X.env)
   let b <- holding [v,a] (eval i X.env)
   standAt pos
   holding [v,a,b] (setItem a b v)
   release [v,a,b] []):=by intro _;rfl):PG X (.Subscript o i pos) (gSub to ti t):=by
 intro pins s Y H v u Q I r h
 rw[g]
 refine GU (GW (thn (f pins s Y H _ I h) λa s1 #[x,H1,p,l,k]=>?_))
 refine GU (GW (thn (hi pins s1 Y H1 _ p k) λb s2 #[y,H2,d,j,m]=>?_))
 refine GU (wpAny_standAt (GU (GW (thn (q pins s2 Y H2 x y v a b u _ d l j r m) λ_ s3 #[e,n,c]=>?_))))
 exact wpAny_release #[Y,e,n,c]
def yx (te:TE) (g:TG):TS:=λD Y H=>te Y H λx H1=>g x Y H1 D.nx
theorem zD (he:PE X e te) (b:PG X tg g) (f:swapsWithSole [tg] e pos.line X.env=pure false:=by rfl) (hw:swappedStores [tg] e X.env=pure none:=by rfl) (h1:(assignEach [tg] X.env).map (·.2)=[assign tg X.env]:=by rfl):PS X (.Assign [tg] e pos) (yx te g):=by
 intro pins s Y H D I h
 refine wpAny_Assign_stores (thn (he pins s Y H _ I h) λv s1 #[x,H1,d,c,a]=>?_) f hw
 rw[h1]
 exact thn (b pins s1 Y H1 x v _ d c a) λ_ s2 q=>q
theorem Fo {i:Nat} (f:X.N.Nodup) (hi:X.N[i]?=some x) (b:Loc X.env.scope x) (he:PE X e te) (j:swapsWith e (some (.Name x pos')) pos.line X.env=pure false:=by rfl) (hf:X.fn x=true\/X.env.scope.names.lookup x=some .local:=by first | exact .inl rfl | exact .inr rfl | assumption) :
  PS X (.Assign [.Name x pos'] e pos) (yx te (vN i)):=by
 intro pins s Y H D I h
 refine wpAny_Assign_Name (thn (he pins s Y H _ I h) λv s1 #[y,H1,g,d,c]=>?_) j
 exact ip g f hi b d (λs2 a=>#[_,H1,a,c]) hf
def Ek (i j:Nat) (ta:TA):TS:=λD Y H=>ta Y H λa H1=>∃ v w,a=[v,w]/\D.nx ((Y.set i (some v)).set j (some w)) H1
theorem zB {i j:Nat} (B:X.calm=true) (t:X.N.Nodup) (hi:X.N[i]?=some x) (L:X.N[j]?=some y) (l:i≠j) (m:X.env.scope.names.lookup x=some .local) (n:X.env.scope.names.lookup y=some .local) (F:PA X [a,b] ta) (hw:swappedStores [.Tuple [.Name x px,.Name y py] kt pt] (.Tuple [a,b] k2 pt2) X.env=pure (some [x,y])) (C:swapsWithSole [.Tuple [.Name x px,.Name y py] kt pt] (.Tuple [a,b] k2 pt2) pos.line X.env=pure false:=by rfl) :
  PS X (.Assign [.Tuple [.Name x px,.Name y py] kt pt] (.Tuple [a,b] k2 pt2) pos) (Ek i j ta):=by
 intro pins s Y H D I h
 rw[exec_Assign_arm]
 refine GU (wpAny_standAt ?_)
 rw[C]
 refine GU (GV ?_)
 rw[if_neg (by decide)]
 refine GU (Tuple_ (thn (F _ pins s Y H _ I h) λus s1 #[M,H1,K,G,g]=>?_))
 obtain ⟨v,w,e1,g⟩:=g
 subst e1
 obtain ⟨d,c,rfl,J,k⟩:∃ d c,us=[d,c]/\RelV v d/\RelV w c:=by
  cases G with
  | cons p q =>
   cases q with
   | cons p' q' =>
    cases q'
    exact #[_,_,rfl,p,p']
 refine wpAny_newObj_type ?_ (by show 2<=sizeLine;decide)
 have u:Inv X pins Y H1 { s1 with heap:=s1.heap.push { cls:=.type "tuple",data:=.seq [d,c].toArray } }:=K.kept (t':=s1.toks) λb o e=>GZ _ e
 rw[hw]
 refine GU (GV ?_)
 show wpAny (model X.prog X.w) X.A (do rule "assign.swapped-stores";let items <- unpackItems (.ref s1.heap.objs.size) 2 none;assignInOrder [λv=>bindName X.env y v,λv=>bindName X.env x v] items.reverse;pure Flow.next) _ _ _
 refine GU (wpAny_rule (GU (unpackItems_tuple (items:=(List.toArray [d,c])) (I.ok.hd B) (IsTup.new s1.heap _) λh' f=>?_)))
 have z:=u.kept (h':=h') (t':=s1.toks) λb o e=>f b o (Hk (G8 e)) e
 show wpAny _ _ (assignInOrder [λv=>bindName X.env y v,λv=>bindName X.env x v] [c,d] >>= λ_=>pure Flow.next) _ _ _
 refine GU (assignInOrder_cons (wpAny_bindName (ip z t L (.inl n) k (λs2 E=>?_) (.inr n))))
 refine assignInOrder_cons (wpAny_bindName (ip E t hi (.inl m) J (λs3 r=>assignInOrder_nil (GV ?_)) (.inr m)))
 rw[List.set_comm _ _ (Ne.symm l)] at r
 exact #[_,H1,r,g]
end
section
variable {X:Cx} {pos:Pos}
def yo (c:TT) (tb:TS):TS:=λD Y H=>∃ W:Nat->St->Hp->Prop,(∃ m,W m Y H)/\∀ m Y H,W m Y H ->
 c Y H λb H1=>if b=true then ∃ N:St->Hp->Prop,(∀ Y' H',N Y' H'->∃ a,a < m/\W a Y' H')/\tb { D with nx:=N,ct:=N,bk:=D.nx } Y H1 else D.nx Y H1
theorem zy (m:PassesOwn (model X.prog X.w) X.A X.env X.xe) (q:PT X c tc) (p:PSs X body tb):PS X (.While c body [] pos) (yo tc tb):=by
 intro pins s Y H D I h
 obtain ⟨W,⟨m0,r⟩,turn⟩:=h
 refine wpAny_While (codeAny_whileLoop (λn s'=>∃ Y' H',Inv X pins Y' H' s'/\W n Y' H') ?_ m0 #[Y,H,I,r])
 rintro n s1 ⟨Y1,H1,t,u⟩
 refine wpAny_passesOwn m (thn (q pins s1 Y1 H1 _ t (turn n Y1 H1 u)) λb s2 #[H2,l,e]=>?_)
 cases b with
 | true =>
  obtain ⟨N,o,e⟩:=e
  rw[if_pos rfl]
  refine wpAny_passesOwn m (thn (p pins s2 Y1 H2 _ l e) λf s3 d=>?_)
  cases f with
  | next =>
   obtain ⟨Y3,a,i,k⟩:=d
   obtain ⟨j,hm,g⟩:=o Y3 a k
   exact #[j,hm,Y3,a,i,g]
  | cont =>
   obtain ⟨Y3,a,i,k⟩:=d
   obtain ⟨j,hm,g⟩:=o Y3 a k
   exact #[j,hm,Y3,a,i,g]
  | brk=>exact d
  | ret v=>exact d
 | false =>
  rw[if_neg Hj]
  exact wpAny_execs_nil #[Y1,H2,l,e]
end
structure It where
 go:Nat->Hp->Prop
 yld:Nat->Hp->V->Hp->Prop
 stop:Nat->Hp->Prop
def FpOk (X:Cx) (pins:List (Addr×Obj)) (H:Hp) (b:Addr):Prop :=
 H b=none/\b≠X.env.locals/\b ∉ X.fs/\(b∈X.ex\/X.s₀.heap.objs.size<=b)/\(∀ x c,X.env.cells.lookup x=some c->c≠b)/\∀ p∈X.pn++pins,p.1≠b
theorem Inv.fpOk (I:Inv X pins Y H s) (a:s.heap.objs.size<=b) (f:H' b=none):FpOk X pins H' b:=by
 refine #[f,Nat.ne_of_gt (Hq I.lt a),I.nofs a,.inr (HE I.sz a),λx c e z=>?_,λp d z=>?_]
 .obtain ⟨v,q⟩:=I.cell x c e
  exact absurd (Hq q.lt (by rw[z];exact a)) (Nat.lt_irrefl _)
 .exact absurd (Hq (G8 (I.pin p d).1) (by rw[z];exact a)) (Nat.lt_irrefl _)
structure Turn (P:Program) (w:World) (K:FG) (tg:Expr) (J:It) (fp:List Addr) (it:Addr) (tn:Nat->Heap->Prop):Prop where
 mem:it∈fp
 obj:∀ i h,tn i h->∀ b∈fp,∃ o,h.get? b=some o/\∀ v,o.data≠.cell v
 keep:∀ i h h',tn i h->(∀ b∈fp,∀ o,h.get? b=some o->h'.get? b=some o)->tn i h'
 item:∀ (X:Cx),X.prog=P->X.w=w->X.K=K->X.calm=true->∀ (i:Nat) (pins:List (Addr×Obj)) (s:Shared) (Y:St) (H:Hp) (E:Value->Shared->Prop),Inv X pins Y H s->(∀ b∈fp,FpOk X pins H b)->tn i s.heap->J.go i H ->
  wpAny (model P w) X.A (pyNext (.ref it)) (λr s1=>∃ u,r=some u /\
   wpAny (model P w) X.A (letOwnedTupleGo tg (.ref it) u) (λ_ s2=>∃ x H',Inv X pins Y H' s2/\RelV x u/\J.yld i H x H'/\tn (i+1) s2.heap/\∀ b∈fp,H' b=none) E s1) E s
 done:∀ (X:Cx),X.prog=P->X.w=w->X.K=K->X.calm=true->∀ (i:Nat) (pins:List (Addr×Obj)) (s:Shared) (Y:St) (H:Hp) (E:Value->Shared->Prop),Inv X pins Y H s->(∀ b∈fp,FpOk X pins H b)->tn i s.heap->J.stop i H ->
  wpAny (model P w) X.A (pyNext (.ref it)) (λr s1=>r=none/\Inv X pins Y H s1) E s
 self:∀ (A:Around) (i:Nat) (s:Shared) (Q:Value->Shared->Prop) (E:Value->Shared->Prop),tn i s.heap->Q (.ref it) s->wpAny (model P w) A (pyIter (.ref it)) Q E s
abbrev TI:=St->Hp->(It->Hp->Prop)->Prop
def PIE (X:Cx) (pins:List (Addr×Obj)) (Y:St) (tg:Expr) (R:It->Hp->Prop) (a:Value) (s2:Shared):Prop :=
 ∃ (it:Addr) (fp:List Addr) (c:Nat->Heap->Prop) (J:It) (H':Hp),a=.ref it/\Inv X pins Y H' s2/\Turn X.prog X.w X.K tg J fp it c/\c 0 s2.heap/\(∀ b∈fp,FpOk X pins H' b)/\R J H'
def PI (X:Cx) (tg iter:Expr) (a:TI):Prop :=
 ∀ (pins:List (Addr×Obj)) (s:Shared) (Y:St) (H:Hp) (R:It->Hp->Prop),Inv X pins Y H s->a Y H R ->
  wpAny (model X.prog X.w) X.A (eval iter X.env) (λv s1=>wpAny (model X.prog X.w) X.A (pyIter v) (PIE X pins Y tg R) X.xe s1) X.xe s
theorem vL (c:s.heap.get? it=some o) (b:o.cls=.type n) (hd:o.data=.fields vs) (d:["enumerate","zip","dict_itemiterator","dict_reverseitemiterator","odict_iterator","itertools.zip_longest","itertools.pairwise"].contains n=false) (a:Q () s):wpAny M A (letOwnedTupleGo tg (.ref it) u) Q E s:=by
  unfold letOwnedTupleGo
  cases tg <;> first
    | exact GV a
    | (cases u <;> first
        | exact GV a
        | (refine GU (wpAny_load c ?_)
           rw[b,hd]
           show wpAny M A (if (["enumerate","zip","dict_itemiterator","dict_reverseitemiterator","odict_iterator","itertools.zip_longest","itertools.pairwise"].contains n && vs[0]? == some (rawInt _))=true then _ else _) Q E s
           rw[if_neg (by intro h; rw[d,Bool.false_and] at h; cases h)]
           exact GV a))
def Itl (K:FG) (a:Addr):It :=
 #[λi H=>∃ xs x,SqL K H a xs/\xs[i]?=some x,λi H x H'=>H'=H/\∀ xs,SqL K H a xs->xs[i]?=some x,λi H=>∃ xs,SqL K H a xs/\xs.length<=i]
def Itt (K:FG) (a:Addr):It :=
 #[λi H=>∃ xs x,SqT K H a xs/\xs[i]?=some x,λi H x H'=>H'=H/\∀ xs,SqT K H a xs->xs[i]?=some x,λi H=>∃ xs,SqT K H a xs/\xs.length<=i]
def Itr (lo:Int) (n:Nat):It:=#[λi _=>i < n,λi H x H'=>H'=H/\x=.int (lo+i),λi _=>n<=i]
theorem wo {P:Program} {w:World} {K:FG} {tg:Expr} (a it:Addr):Turn P w K tg (Itl K a) [it] it (λi h=>h.IsListIter it a i) where
 mem:=by simp
 obj:=λi h st b f=>by
  have e:b=it:=by simpa using f
  subst e
  obtain ⟨o,e,c,d⟩:=st
  exact #[o,e,λv z=>by rw[d] at z;cases z]
 keep:=λi h h' st k=>st.at λo e=>k it (by simp) o e
 item:=by
  intro X q hw r A i pins s Y H E I hf st m
  subst q hw r
  obtain ⟨xs,x,j,l⟩:=m
  obtain ⟨its,y,p,hz⟩:=I.list j
  obtain ⟨u,hu,C⟩:=y.get l
  obtain ⟨f0,f1,f2,t,f4,n⟩:=hf it (by simp)
  refine wpAny_pyNext_list_item st p.isList (x:=u) (by simpa using hu) λh' g sb=>?_
  have F:Inv X pins Y H { s with heap:=h' }:=I.turned (t':=s.toks) (λb o f e=>(sb.2 b f).trans e) f0 f1 t f4 n
  obtain ⟨o,e,c,d⟩:=id g
  exact #[u,rfl,vL (s:={ s with heap:=h' }) e c d (by decide) #[x,H,F,C,#[rfl,λys B=>by rw[I.list_inj B j];exact l],g,λb f=>(hf b f).1]]
 done:=by
  intro X q hw r A i pins s Y H E I hf st m
  subst q hw r
  obtain ⟨xs,j,l⟩:=m
  obtain ⟨its,y,p,hz⟩:=I.list j
  obtain ⟨f0,f1,f2,t,f4,n⟩:=hf it (by simp)
  have G:=y.length
  exact wpAny_pyNext_list_end (I.ok.hd A) st p.isList (by simp;omega) λh' D=>#[rfl,I.turned (t':=s.toks) (λb o f e=>D b o f e) f0 f1 t f4 n]
 self:=λ_ _ _ _ _ st h=>wpAny_pyIter_listiter st h
theorem sV {P:Program} {w:World} {K:FG} {tg:Expr} (a it:Addr):Turn P w K tg (Itt K a) [it] it (λi h=>h.IsTupleIter it a i) where
 mem:=by simp
 obj:=λi h st b f=>by
  have e:b=it:=by simpa using f
  subst e
  obtain ⟨o,e,c,d⟩:=st
  exact #[o,e,λv z=>by rw[d] at z;cases z]
 keep:=λi h h' st k=>st.at λo e=>k it (by simp) o e
 item:=by
  intro X q hw r A i pins s Y H E I hf st m
  subst q hw r
  obtain ⟨xs,x,j,l⟩:=m
  obtain ⟨its,y,p,hz⟩:=I.tuple j
  obtain ⟨u,hu,C⟩:=y.get l
  obtain ⟨f0,f1,f2,t,f4,n⟩:=hf it (by simp)
  refine wpAny_pyNext_tuple_item st (show s.heap.IsTuple a its.toArray from p) (x:=u) (by simpa using hu) λh' g sb=>?_
  have F:Inv X pins Y H { s with heap:=h' }:=I.turned (t':=s.toks) (λb o f e=>(sb.2 b f).trans e) f0 f1 t f4 n
  obtain ⟨o,e,c,d⟩:=id g
  exact #[u,rfl,vL (s:={ s with heap:=h' }) e c d (by decide) #[x,H,F,C,#[rfl,λys B=>by rw[I.tuple_inj B j];exact l],g,λb f=>(hf b f).1]]
 done:=by
  intro X q hw r A i pins s Y H E I hf st m
  subst q hw r
  obtain ⟨xs,j,l⟩:=m
  obtain ⟨its,y,p,hz⟩:=I.tuple j
  obtain ⟨f0,f1,f2,t,f4,n⟩:=hf it (by simp)
  have G:=y.length
  exact wpAny_pyNext_tuple_end (I.ok.hd A) st (show s.heap.IsTuple a its.toArray from p) (by simp;omega) λh' D=>#[rfl,I.turned (t':=s.toks) (λb o f e=>D b o f e) f0 f1 t f4 n]
 self:=λ_ _ _ _ _ st h=>wpAny_pyIter_tupleiter st h
theorem sW {P:Program} {w:World} {K:FG} {tg:Expr} (it:Addr) (lo:Int) (n:Nat):Turn P w K tg (Itr lo n) [it] it (λi h=>IsRangeIter h it (lo+(i:Nat) * 1) ((n:Int) - (i:Nat)) 1) where
 mem:=by simp
 obj:=λi h st b a=>by
  have e:b=it:=by simpa using a
  subst e
  exact ⟨_,st,λv z=>by
   have p:Data.fields _=Data.cell v:=z
   cases p⟩
 keep:=λi h h' st k=>k it (by simp) _ st
 item:=by
  intro X j hw l g i pins s Y H E I hf st d
  subst j hw l
  obtain ⟨f0,f1,f2,m,f4,f⟩:=hf it (by simp)
  have W:=Walks.range (prog:=X.prog) (w:=X.w) (I.ok.hd g) it lo 1 n
  refine W.item i s _ _ d st λv h' tk q c r=>?_
  obtain ⟨t,rfl⟩:=q
  have x:Inv X pins Y H { s with heap:=h',toks:=tk }:=I.turned (λb o a e=>r b o (by simpa using a) e) f0 f1 m f4 f
  refine #[_,rfl,vL (s:={ s with heap:=h',toks:=tk }) (n:="range_iterator") c rfl rfl (by decide) #[.int (lo+i),H,x,#[t,?_],#[rfl,rfl],c,λb a=>(hf b a).1]]
  rw[Int.mul_one]
 done:=by
  intro X j hw l g i pins s Y H E I hf st d
  subst j hw l
  obtain ⟨f0,f1,f2,m,f4,f⟩:=hf it (by simp)
  exact wpAny_pyNext_range_end (I.ok.hd g) st (by have:n<=i:=d;lia) λh' u=>#[rfl,I.turned (t':=s.toks) (λb o a e=>u b o a e) f0 f1 m f4 f]
 self:=λ_ _ _ _ _ st h=>wpAny_pyIter_rangeiter st h
end L2
namespace L2
open PySem PySem.Spec PyProof.Rows
section
variable {X:Cx} {tg:Expr}
theorem rq {lo hi:Int} {tk:Nat} (I:Inv X pins Y H s) (h1:-(2 ^ 62)<=lo) (h2:lo < 2 ^ 62) (h3:-(2 ^ 62)<=hi) (f:hi < 2 ^ 62) (q:R (Itr lo (hi - lo).toNat) H):wpAny (model X.prog X.w) X.A (pyIter (.ref s.heap.objs.size)) (PIE X pins Y tg R) E { s with heap:=s.heap.push { cls:=.type "range",data:=.fields (List.toArray [.int lo t,.int hi u,.int 1 v]) },toks:=tk }:=by
 refine wpAny_pyIter_range (IsRange.new ..) (small_one h1 h2 h3 f) ?_
 have a:Inv X pins Y H { s with heap:=s.heap.push { cls:=.type "range",data:=.fields (List.toArray [.int lo t,.int hi u,.int 1 v]) },toks:=tk }:=I.kept λb o e=>GZ _ e
 refine ⟨(s.heap.push { cls:=.type "range",data:=.fields (List.toArray [.int lo t,.int hi u,.int 1 v]) }).objs.size,[(s.heap.push { cls:=.type "range",data:=.fields (List.toArray [.int lo t,.int hi u,.int 1 v]) }).objs.size],_,_,H,rfl,
  a.kept (t':=tk) λb o e=>GZ _ e,sW _ lo (hi - lo).toNat,?_,λb d=>?_,q⟩
 .have e1:lo+((0:Nat):Int) * 1=lo:=by simp
  have c:(((hi - lo).toNat:Nat):Int) - ((0:Nat):Int)=Builtin.Range.rangeSize lo hi 1:=by rw[rangeSize_one];split <;> omega
  show IsRangeIter _ _ (lo+((0:Nat):Int) * 1) ((((hi - lo).toNat:Nat):Int) - ((0:Nat):Int)) 1
  rw[e1,c]
  exact Ha _ rfl
 .have e:b=(s.heap.push { cls:=.type "range",data:=.fields (List.toArray [.int lo t,.int hi u,.int 1 v]) }).objs.size:=by simpa using d
  subst e
  exact a.fpOk (Hi _) (a.hok.fresh (Hi _))
def DG (ta:TA):TI:=λY H R=>ta Y H λa H1=>∃ j:Int,a=[.int j]/\-(2 ^ 62)<=j/\j < 2 ^ 62/\R (Itr 0 j.toNat) H1
def DF (ta:TA):TI:=λY H R=>ta Y H λa H1=>∃ i j:Int,a=[.int i,.int j]/\(-(2 ^ 62)<=i/\i < 2 ^ 62/\-(2 ^ 62)<=j/\j < 2 ^ 62)/\R (Itr i (j - i).toNat) H1
theorem wQ (d:Gl X "range") (hm:X.mg "range"=none) (c:PA X [a] ta) (k:starEach [a] X.env=[(false,eval a X.env)]:=by rfl):PI X tg (.Call (.Name "range" p) [a] [] pos) (DG ta):=by
 intro pins s Y H R I h
 refine Call_ (iK I d hm boot_range (PyProof.Rows.callWith_type1 (thn (c pos pins s Y H _ I h) λus s1 #[l,H1,i,f,b]=>?_) k rfl))
 obtain ⟨j,e,b,g,q⟩:=b
 subst e
 cases f with
 | cons r rr =>
  cases rr
  obtain ⟨t,rfl⟩:=r
  exact call_range_1 (rq i (by omega) (by omega) b g (by simpa using q))
theorem wP (l:Gl X "range") (hm:X.mg "range"=none) (k:PA X [a,b] ta) (u:starEach [a,b] X.env=[(false,eval a X.env),(false,eval b X.env)]:=by rfl) (c:starEach [b] X.env=[(false,eval b X.env)]:=by rfl) :
  PI X tg (.Call (.Name "range" p) [a,b] [] pos) (DF ta):=by
 intro pins s Y H R I h
 refine Call_ (iK I l hm boot_range (PyProof.Rows.callWith_type1 (thn (k pos pins s Y H _ I h) λus s1 #[v,H1,o,m,d]=>?_) (by rw[u,c]) (by rw[c];rfl)))
 obtain ⟨i,j,e,⟨d,n,f,g⟩,q⟩:=d
 subst e
 cases m with
 | cons r rr =>
  cases rr with
  | cons r' rr =>
   cases rr
   obtain ⟨t,rfl⟩:=r
   obtain ⟨t',rfl⟩:=r'
   exact call_range_2 (rq o d n f g q)
def tFor (b:TI) (g:TG) (tb:TS):TS:=λD Y H=>b Y H λJ H1=>∃ W:Nat->Nat->St->Hp->Prop,(∃ m,W 0 m Y H1)/\∀ i m Y H,W i m Y H ->
 (J.stop i H/\D.nx Y H)\/(J.go i H/\∃ N:St->Hp->Prop,(∀ Y' H',N Y' H'->∃ a,a < m/\W (i+1) a Y' H')/\∀ x H',J.yld i H x H'->g x Y H' λY2 H2=>tb { D with nx:=N,ct:=N,bk:=D.nx } Y2 H2)
def mj (fp:List Addr) (h:Heap):List (Addr×Obj):=fp.filterMap λb=>(h.get? b).map λo=>(b,o)
theorem gc (a:b∈fp) (e:h.get? b=some o):(b,o)∈mj fp h:=List.mem_filterMap.mpr #[b,a,by rw[e];rfl]
theorem wT (c:p∈mj fp h):p.1∈fp/\h.get? p.1=some p.2:=by
 obtain ⟨b,d,e⟩:=List.mem_filterMap.mp c
 cases q:h.get? b with
 | none=>rw[q] at e;cases e
 | some o =>
  rw[q] at e
  have a:(b,o)=p:=HJ e
  subst a
  exact #[d,q]
theorem Inv.pinned (I:Inv X pins Y H s) (hf:∀ b∈fp,FpOk X pins H b) (f:∀ b∈fp,∃ o,s.heap.get? b=some o/\∀ v,o.data≠.cell v):Inv X (pins++mj fp s.heap) Y H s :=
 I.pins_of λp g=>(G9.mp g).elim (λz=>I.pin p (G5 _ z)) λz=>by
  obtain ⟨a,e⟩:=wT z
  obtain ⟨f0,f1,f2,_⟩:=hf p.1 a
  obtain ⟨o,c,d⟩:=f p.1 a
  rw[e] at c;cases c
  exact #[e,f0,f1,f2,d]
theorem Inv.unpinned (I:Inv X (pins++pl) Y H s):Inv X pins Y H s:=I.pins_of λp a=>I.pin p (G5 _ (G4 _ a))
theorem Fq (q:PassesOwn (model X.prog X.w) X.A X.env X.xe) (τ:X.calm=true) (hi:PI X tg iter wi) (hg:PG X tg g) (a:PSs X body tb) (hs:∀ x,foldedSetIterable iter X.env x=pure x:=by intro _;rfl):PS X (.For tg iter body [] pos) (tFor wi g tb):=by
 intro pins s Y H D I h
 refine wpAny_For (thn (hi pins s Y H _ I h) λv s1 h1=>thn h1 λae s2 h2=>?_) hs
 obtain ⟨it,fp,L,J,H2,e,I2,T,E,f2,W,⟨m0,w0⟩,turn⟩:=h2
 subst e
 have c:∀ {H':Hp},(∀ b∈fp,H' b=none)->∀ b∈fp,FpOk X pins H' b:=λσ b a=>#[σ b a,(f2 b a).2]
 refine codeAny_forLoop_any (λn s'=>∃ i Y' H',Inv X pins Y' H' s'/\L i s'.heap/\(∀ b∈fp,H' b=none)/\W i n Y' H') ?_ m0 #[0,Y,H2,I2,E,λb a=>(f2 b a).1,w0]
 rintro n s3 ⟨i,Y3,B,M,y,t,φ⟩
 rcases turn i n Y3 B φ with ⟨stop,qn⟩ | ⟨go,N,hN,step⟩
 .refine wpAny_passesOwn q (thn (T.done X rfl rfl rfl τ i pins s3 Y3 B X.xe M (c t) y stop) λr s4 #[G,I4]=>?_)
  subst G
  exact wpAny_execs_nil #[Y3,B,I4,qn]
 .refine wpAny_passesOwn q (thn (T.item X rfl rfl rfl τ i pins s3 Y3 B X.xe M (c t) y go) λr s4 #[u,G,h4]=>?_)
  subst G
  refine wpAny_passesOwn q (thn h4 λ_ s5 #[x,P,I5,r5,y5,p,K]=>?_)
  have C:=I5.pinned (c K) (T.obj _ _ p)
  refine wpAny_passesOwn q (thn (hg _ s5 Y3 P x u _ C r5 (step x P y5)) λ_ s6 #[Y6,H6,R,S]=>?_)
  refine wpAny_passesOwn q (thn (a _ s6 Y6 H6 _ R S) λf F l=>?_)
  have again:∀ {Y7:St} {k:Hp},Inv X (pins++mj fp s5.heap) Y7 k F->N Y7 k->∃ m,m < n/\∃ i Y' H',Inv X pins Y' H' F/\L i F.heap/\(∀ b∈fp,H' b=none)/\W i m Y' H':=λ{Y7 k} j z=>by
   obtain ⟨ρ,hm,w7⟩:=hN Y7 k z
   refine #[ρ,hm,i+1,Y7,k,j.unpinned,T.keep _ _ _ p λb a o e=>(j.pin (b,o) (G5 _ (G5 _ (gc a e)))).1,λb a=>?_,w7]
   obtain ⟨o,e,d⟩:=T.obj _ _ p b a
   exact (j.pin (b,o) (G5 _ (G5 _ (gc a e)))).2.1
  cases f with
  | next=>obtain ⟨Y7,k,j,z⟩:=l;exact again j z
  | cont=>obtain ⟨Y7,k,j,z⟩:=l;exact again j z
  | brk=>obtain ⟨Y7,k,j,l⟩:=l;exact #[Y7,k,j.unpinned,l]
  | ret v=>obtain ⟨V,Y7,k,j,Q,l⟩:=l;exact #[V,Y7,k,j.unpinned,Q,l]
end
end L2
namespace L2
open PySem PySem.Spec PyProof.Rows
abbrev R2:=V->V->Hp->VK->Prop
def OpR (X:Cx) (f:Value->Value->Sem Value) (r:R2):Prop :=
 ∀ (pins:List (Addr×Obj)) (s:Shared) (Y:St) (H:Hp) (x y:V) (v u:Value) (Q:VK),Inv X pins Y H s->RelV x v->RelV y u->r x y H Q ->
  wpAny (model X.prog X.w) X.A (f v u) (EP X pins Y Q) X.xe s
def UnR (X:Cx) (f:Value->Sem Value) (r:V->Hp->VK->Prop):Prop :=
 ∀ (pins:List (Addr×Obj)) (s:Shared) (Y:St) (H:Hp) (x:V) (v:Value) (Q:VK),Inv X pins Y H s->RelV x v->r x H Q ->
  wpAny (model X.prog X.w) X.A (f v) (EP X pins Y Q) X.xe s
def CallR (X:Cx) (f:Value) (r:List V->Hp->VK->Prop):Prop :=
 ∀ (pins:List (Addr×Obj)) (s:Shared) (Y:St) (H:Hp) (xs:List V) (us:List Value) (Q:VK),Inv X pins Y H s->Vals xs us->r xs H Q ->
  wpAny (model X.prog X.w) X.A (call f us) (EP X pins Y Q) X.xe s
def tOp (r:R2) (ta tb:TE):TE:=λY H Q=>ta Y H λx H1=>tb Y H1 λy H2=>r x y H2 Q
def tUn (r:V->Hp->VK->Prop) (ta:TE):TE:=λY H Q=>ta Y H λx H1=>r x H1 Q
def rI (C:Int->Int->Prop) (g:Int->Int->V):R2:=λx y H Q=>∃ i j,x=.int i/\y=.int j/\C i j/\Q (g i j) H
def rI0 (g:Int->Int->V):R2:=λx y H Q=>∃ i j,x=.int i/\y=.int j/\Q (g i j) H
def rU (g:Int->V):V->Hp->VK->Prop:=λx H Q=>∃ i,x=.int i/\Q (g i) H
section
variable {X:Cx} {a b c:Expr} {ta tb tc:TE} {pos:Pos}
theorem GJ (g:PE X a ta) (j:PE X b tb) {R:V->V->Hp->Prop} (I:Inv X pins Y H s) (h:ta Y H λx H1=>tb Y H1 λy H2=>R x y H2) {f:Value->Value->Sem Value} (hf:∀ v u s2 x y H2,Inv X pins Y H2 s2->RelV x v->RelV y u->R x y H2->wpAny (model X.prog X.w) X.A (f v u) Q X.xe s2) :
  wpAny (model X.prog X.w) X.A (eval a X.env) (λv e=>wpAny (model X.prog X.w) X.A (eval b X.env) (λu d=>wpAny (model X.prog X.w) X.A (f v u) Q X.xe d) X.xe e) X.xe s:=by
 refine thn (g pins s Y H _ I h) λv s1 #[x,H1,n,l,k]=>?_
 refine thn (j pins s1 Y H1 _ n k) λu s2 #[y,H2,c,i,m]=>?_
 exact hf v u s2 x y H2 c l i m
theorem pe_op (e:OpR X (binaryOp op) r) (f:PE X a ta) (g:PE X b tb):PE X (.BinOp a op b pos) (tOp r ta tb):=by
 intro pins s Y H Q I h
 exact wpAny_BinOp (GJ f g I h λv u s2 x y H2 d c i q=>e pins s2 Y H2 x y v u Q d c i q)
theorem pe_un (e:UnR X (unaryOp op) r) (f:PE X a ta):PE X (.UnaryOp op a pos) (tUn r ta):=by
 intro pins s Y H Q I h
 exact UnaryOp_ (thn (f pins s Y H _ I h) λv s1 #[x,H1,d,c,b]=>e pins s1 Y H1 x v Q d c b)
theorem opI {g:Int->Int->Int} (rule:∀ (i j:Int) (t u:Tok) (s:Shared) (Q:Value->Shared->Prop) (E:Value->Shared->Prop),C i j->Q (.int (g i j) s.toks) { s with toks:=s.toks+1 }->wpAny (model X.prog X.w) X.A (f (.int i t) (.int j u)) Q E s) :
  OpR X f (rI C λi j=>.int (g i j)):=by
 intro pins s Y H x y v u Q I a b h
 obtain ⟨i,j,rfl,rfl,c,q⟩:=h
 obtain ⟨t,rfl⟩:=a
 obtain ⟨t',rfl⟩:=b
 exact rule i j t t' s _ _ c #[.int (g i j),H,I.tok _,#[_,rfl],q]
theorem opI0 {g:Int->Int->Int} (rule:∀ (i j:Int) (t u:Tok) (s:Shared) (Q:Value->Shared->Prop) (E:Value->Shared->Prop),Q (.int (g i j) s.toks) { s with toks:=s.toks+1 }->wpAny (model X.prog X.w) X.A (f (.int i t) (.int j u)) Q E s) :
  OpR X f (rI0 λi j=>.int (g i j)):=by
 intro pins s Y H x y v u Q I a b h
 obtain ⟨i,j,rfl,rfl,q⟩:=h
 obtain ⟨t,rfl⟩:=a
 obtain ⟨t',rfl⟩:=b
 exact rule i j t t' s _ _ #[.int (g i j),H,I.tok _,#[_,rfl],q]
theorem Cz {g:Int->Int->Bool} (rule:∀ (i j:Int) (t u:Tok) (s:Shared) (Q:Value->Shared->Prop) (E:Value->Shared->Prop),Q (.bool (g i j)) s->wpAny (model X.prog X.w) X.A (f (.int i t) (.int j u)) Q E s) :
  OpR X f (rI0 λi j=>.bl (g i j)):=by
 intro pins s Y H x y v u Q I a b h
 obtain ⟨i,j,rfl,rfl,q⟩:=h
 obtain ⟨t,rfl⟩:=a
 obtain ⟨t',rfl⟩:=b
 exact rule i j t t' s _ _ #[.bl (g i j),H,I,rfl,q]
def x5 (i j:Int):Prop:=0 < j/\j < 1073741824
def Bj (i j:Int):Prop:=0<=j/\j<=1000000/\i.natAbs < 2 ^ 64
def CMul (i j:Int):Prop:=(-(2 ^ 64) < i/\i < 2 ^ 64)\/(-(2 ^ 64) < j/\j < 2 ^ 64)
theorem CMul.ok {i j:Int} (h:CMul i j):IntMulOk i j:=by
 rcases h with ⟨h1,h2⟩ | ⟨h1,h2⟩
 .exact .of_left (intBits_le_64 h1 h2)
 .exact .of_right (intBits_le_64 h1 h2)
theorem op_add:OpR X (binaryOp .Add) (rI0 λi j=>.int (i+j)):=opI0 λ_ _ _ _ _ _ _ q=>add_int q
theorem FJ:OpR X (binaryOp .Sub) (rI0 λi j=>.int (i - j)):=opI0 λ_ _ _ _ _ _ _ q=>sub_int q
theorem FM:OpR X (binaryOp .Mult) (rI CMul λi j=>.int (i * j)):=opI λ_ _ _ _ _ _ _ a q=>mul_int q a.ok
theorem FN:OpR X (binaryOp .Mod) (rI (λ_ j=>0 < j) λi j=>.int (i % j)):=opI λi j _ _ _ _ _ a q=>by
 have h1:(0:Int) < j:=a
 exact mod_int' (by omega) (by rw[Int.fmod_eq_emod_of_nonneg i (by omega)];exact q)
theorem FK:OpR X (binaryOp .Pow) (rI Bj λi j=>.int (i ^ j.toNat)):=opI λ_ _ _ _ _ _ _ a q=>pow_int_small a.1 a.2.1 a.2.2 q
theorem unI {g:Int->Int} (rule:∀ (i:Int) (t:Tok) (s:Shared) (Q:Value->Shared->Prop) (E:Value->Shared->Prop),Q (.int (g i) s.toks) { s with toks:=s.toks+1 }->wpAny (model X.prog X.w) X.A (f (.int i t)) Q E s) :
  UnR X f (rU λi=>.int (g i)):=by
 intro pins s Y H x v Q I a h
 obtain ⟨i,rfl,q⟩:=h
 obtain ⟨t,rfl⟩:=a
 exact rule i t s _ _ #[.int (g i),H,I.tok _,#[_,rfl],q]
theorem DW:UnR X (unaryOp .USub) (rU λi=>.int (-i)):=unI λ_ _ _ _ _ q=>neg_int q
end
def EB:V->V->Bool
 | .non,.non=>true | .non,.int _=>true | .int _,.non=>true | .non,.bl _=>true | .bl _,.non=>true | .non,.str _=>true | .str _,.non=>true
 | .int _,.int _=>true | .bl _,.bl _=>true | .str _,.str _=>true | .byt _,.byt _=>true
 | .int _,.str _=>true | .str _,.int _=>true | .bl _,.str _=>true | .str _,.bl _=>true
 | _,_=>false
def rEq:R2:=λx y H Q=>EB x y=true/\Q (.bl (decide (x=y))) H
def rNe:R2:=λx y H Q=>EB x y=true/\Q (.bl (!decide (x=y))) H
theorem vT {i j:Int}:decide (V.int i=V.int j)=(i == j):=by
 rw[Bool.eq_iff_iff]
 simp
theorem AS:decide (V.bl i=V.bl j)=(i == j):=by
 rw[Bool.eq_iff_iff]
 simp
theorem vS:decide (V.str i=V.str j)=(i == j):=by
 rw[Bool.eq_iff_iff]
 simp
theorem vU:decide (V.byt i=V.byt j)=(i.toList == j.toList):=by
 rw[Bool.eq_iff_iff]
 cases i
 cases j
 simp
section
variable {X:Cx} {a b c:Expr} {ta tb tc:TE} {pos:Pos}
theorem aO (I:Inv X pins Y H s) (q:Q (.bl k) H) (e:k=k'):EP X pins Y Q (.bool k') s:=by
 subst e
 exact #[.bl k,H,I,rfl,q]
theorem op_eq:OpR X (compareOp .Eq) rEq:=by
 intro pins s Y H x y v u Q I c a h
 obtain ⟨b,q⟩:=h
 cases x with
 | non =>
  cases c
  cases y with
  | non=>cases a;exact PySem.EqNone.eq_none_none (aO I q (by simp))
  | bl j=>cases a;exact PySem.EqNone.eq_none_bool (aO I q (by simp))
  | int j=>obtain ⟨t',rfl⟩:=a;exact PySem.EqNone.eq_none_int (aO I q (by simp))
  | str j=>obtain ⟨t',rfl⟩:=a;exact PySem.EqNone.eq_none_str (aO I q (by simp))
  | _=>exact absurd (show false=true from b) Hj
 | bl i =>
  cases c
  cases y with
  | non=>cases a;exact PySem.EqNone.eq_bool_none (aO I q (by simp))
  | bl j=>cases a;exact eq_bool (aO I q AS)
  | str j=>obtain ⟨t',rfl⟩:=a;exact PySem.EqMixed.eq_bool_str (aO I q (by simp))
  | _=>exact absurd (show false=true from b) Hj
 | int i =>
  obtain ⟨t,rfl⟩:=c
  cases y with
  | non=>cases a;exact PySem.EqNone.eq_int_none (aO I q (by simp))
  | int j=>obtain ⟨t',rfl⟩:=a;exact eq_int (aO I q vT)
  | str j=>obtain ⟨t',rfl⟩:=a;exact PySem.EqMixed.eq_int_str (aO I q (by simp))
  | _=>exact absurd (show false=true from b) Hj
 | str i =>
  obtain ⟨t,rfl⟩:=c
  cases y with
  | non=>cases a;exact PySem.EqNone.eq_str_none (aO I q (by simp))
  | bl j=>cases a;exact PySem.EqMixed.eq_str_bool (aO I q (by simp))
  | int j=>obtain ⟨t',rfl⟩:=a;exact PySem.EqMixed.eq_str_int (aO I q (by simp))
  | str j=>obtain ⟨t',rfl⟩:=a;exact eq_str (aO I q vS)
  | _=>exact absurd (show false=true from b) Hj
 | byt i =>
  obtain ⟨t,rfl⟩:=c
  cases y with
  | byt j=>obtain ⟨t',rfl⟩:=a;exact PySem.W.eq_bytes (aO I q vU)
  | _=>exact absurd (show false=true from b) Hj
 | _=>cases y <;> exact absurd (show false=true from b) Hj
theorem op_ne:OpR X (compareOp .NotEq) rNe:=by
 intro pins s Y H x y v u Q I c a h
 obtain ⟨b,q⟩:=h
 cases x with
 | non =>
  cases c
  cases y with
  | non=>cases a;exact PySem.EqNone.ne_none_none (aO I q (by simp))
  | bl j=>cases a;exact PySem.EqNone.ne_none_bool (aO I q (by simp))
  | int j=>obtain ⟨t',rfl⟩:=a;exact PySem.EqNone.ne_none_int (aO I q (by simp))
  | str j=>obtain ⟨t',rfl⟩:=a;exact PySem.EqNone.ne_none_str (aO I q (by simp))
  | _=>exact absurd (show false=true from b) Hj
 | bl i =>
  cases c
  cases y with
  | non=>cases a;exact PySem.EqNone.ne_bool_none (aO I q (by simp))
  | bl j=>cases a;exact ne_bool (aO I q (congrArg not AS))
  | str j=>obtain ⟨t',rfl⟩:=a;exact PySem.EqMixed.ne_bool_str (aO I q (by simp))
  | _=>exact absurd (show false=true from b) Hj
 | int i =>
  obtain ⟨t,rfl⟩:=c
  cases y with
  | non=>cases a;exact PySem.EqNone.ne_int_none (aO I q (by simp))
  | int j=>obtain ⟨t',rfl⟩:=a;exact ne_int (aO I q (congrArg not vT))
  | str j=>obtain ⟨t',rfl⟩:=a;exact PySem.EqMixed.ne_int_str (aO I q (by simp))
  | _=>exact absurd (show false=true from b) Hj
 | str i =>
  obtain ⟨t,rfl⟩:=c
  cases y with
  | non=>cases a;exact PySem.EqNone.ne_str_none (aO I q (by simp))
  | bl j=>cases a;exact PySem.EqMixed.ne_str_bool (aO I q (by simp))
  | int j=>obtain ⟨t',rfl⟩:=a;exact PySem.EqMixed.ne_str_int (aO I q (by simp))
  | str j=>obtain ⟨t',rfl⟩:=a;exact ne_str (aO I q (congrArg not vS))
  | _=>exact absurd (show false=true from b) Hj
 | byt i =>
  obtain ⟨t,rfl⟩:=c
  cases y with
  | byt j=>obtain ⟨t',rfl⟩:=a;exact PySem.W.ne_bytes (aO I q (congrArg not vU))
  | _=>exact absurd (show false=true from b) Hj
 | _=>cases y <;> exact absurd (show false=true from b) Hj
theorem Dx:OpR X (compareOp .Lt) (rI0 λi j=>.bl (decide (i < j))):=Cz λ_ _ _ _ _ _ _ q=>lt_int q
theorem oB:OpR X (compareOp .LtE) (rI0 λi j=>.bl (decide (i<=j))):=Cz λ_ _ _ _ _ _ _ q=>le_int q
theorem Dy:OpR X (compareOp .Gt) (rI0 λi j=>.bl (decide (j < i))):=Cz λ_ _ _ _ _ _ _ q=>gt_int q
theorem op_ge:OpR X (compareOp .GtE) (rI0 λi j=>.bl (decide (j<=i))):=Cz λ_ _ _ _ _ _ _ q=>ge_int q
theorem FO:OpR X (compareOp .Is) (λx y H Q=>y=.non /\ Q (.bl (decide (x=.non))) H):=by
  intro pins s Y H x y v u Q I a b h
  obtain ⟨rfl,q⟩:=h
  cases b
  refine is_none_gen (aO I q ?_)
  cases x <;> first
    | (cases a; rfl)
    | (obtain ⟨t,rfl⟩:=a; rfl)
theorem OpR.or (h:OpR X f r) (h':OpR X f r'):OpR X f (λx y H Q=>r x y H Q\/r' x y H Q):=by
 intro pins s Y H x y v u Q I a b q
 rcases q with q | q
 .exact h pins s Y H x y v u Q I a b q
 .exact h' pins s Y H x y v u Q I a b q
theorem gb (b:Expr) (h:op≠.In:=by decide) (h2:op≠.NotIn:=by decide):behindInMarks op b=false:=by
  have e1:(op == CmpOp.In)=false:=by cases op <;> first | rfl | exact absurd rfl h
  have a:(op == CmpOp.NotIn)=false:=by cases op <;> first | rfl | exact absurd rfl h2
  cases b <;> simp[behindInMarks,e1,a]
theorem Ct (e:OpR X (compareOp op) r) (f:PE X a ta) (g:PE X b tb) (hm:behindInMarks op b=false):PE X (.Compare a [op] [b] pos) (tOp r ta tb):=by
 intro pins s Y H Q I h
 exact wpAny_Compare1 (GJ f g I h λv u s2 x y H2 d c i q=>e pins s2 Y H2 x y v u Q d c i q) hm
def Dm (t:TE):TT:=λY H Q=>t Y H λx H'=>∃ k,x=.bl k/\Q k H'
theorem Cj (i:OpR X (compareOp op) r) (j:PE X a ta) (m:PE X b tb) (hm:behindInMarks op b=false):PT X (.Compare a [op] [b] pos) (Dm (tOp r ta tb)):=by
 intro pins s Y H Q I h
 refine wpAny_isTrue_Compare1 (thn (j pins s Y H _ I h) λv s1 #[x,H1,t,o,n]=>thn (m pins s1 Y H1 _ t n) λu s2 #[y,H2,f,l,p] =>
  thn (i pins s2 Y H2 x y v u _ f o l p) λc s3 #[z,g,q,w,k,e,d]=>?_) hm
 subst e
 cases w
 exact HD #[g,q,d]
def o8 (r b:R2) (ta tb tc:TE):TE:=λY H Q=>ta Y H λx H1=>tb Y H1 λy H2=>r x y H2 λz a=>∃ k,z=.bl k /\
 (if k=true then tc Y a λc d=>b y c d Q else Q (.bl false) a)
theorem zL (D:OpR X (compareOp op) r) (f:OpR X (compareOp op') r') (E:PE X a ta) (p:PE X b tb) (t:PE X c tc) (hm:lastMarks [op,op'] [b,c]=false:=by with_unfolding_all rfl):PE X (.Compare a [op,op'] [b,c] pos) (o8 r r' ta tb tc):=by
 intro pins s Y H Q I h
 refine Compare_chain (thn (E pins s Y H _ I h) λv s1 #[x,H1,J,G,F]=>chain_link (thn (p pins s1 Y H1 _ J F) λu s2 #[y,H2,m,l,q] =>
  thn (D pins s2 Y H2 x y v u _ m G l q) λd s3 #[z,j,i,w,k,e,g]=>?_)) hm
 subst e
 cases w
 refine HD ?_
 cases k with
 | false=>exact ite_ff #[.bl false,j,i,rfl,g]
 | true=>exact ite_tt (chain_last (thn (t pins s3 Y j _ i g) λo s4 #[n,K,A,B,C]=>f pins s4 Y K y n u o Q A l B C))
theorem zw (G:OpR X (compareOp op) r) (f:OpR X (compareOp op') r') (J:PE X a ta) (q:PE X b tb) (w:PE X c tc) (hm:lastMarks [op,op'] [b,c]=false:=by with_unfolding_all rfl):PT X (.Compare a [op,op'] [b,c] pos) (Dm (o8 r r' ta tb tc)):=by
 intro pins s Y H Q I h
 refine isTrue_chain (thn (J pins s Y H _ I h) λv s1 #[x,H1,P,L,K]=>test_link (thn (q pins s1 Y H1 _ P K) λu s2 #[y,H2,m,l,t] =>
  thn (G pins s2 Y H2 x y v u _ m L l t) λd s3 #[z,j,i,A,k,e,g]=>?_)) hm
 subst e
 cases A
 refine HD ?_
 cases k with
 | false =>
  obtain ⟨φ,τ,N⟩:=g
  cases τ
  exact ite_ff #[j,i,N]
 | true =>
  refine ite_tt (test_last (thn (w pins s3 Y j _ i g) λo s4 #[n,R,B,C,D]=>thn (f pins s4 Y R y n u o _ B l C D) λd' s5 #[T,S,F,E,k2,p,M]=>?_))
  subst p
  cases E
  exact HD #[S,F,M]
theorem pS:(sizeLine:Nat) < 2 ^ 63:=by rw[sizeLine_eq];decide
theorem op_add_str:OpR X (binaryOp .Add) (λx y H Q=>∃ i j,x=.str i/\y=.str j/\i.length+j.length<=sizeLine/\Q (.str (i++j)) H):=by
 intro pins s Y H x y v u Q I a b h
 obtain ⟨i,j,rfl,rfl,hz,q⟩:=h
 obtain ⟨t,rfl⟩:=a
 obtain ⟨t',rfl⟩:=b
 exact add_str (λt' tk=>#[.str (i++j),H,I.tok _,#[_,rfl],q]) hz
theorem d6 (r:Vals [x] us):∃ u,us=[u]/\RelV x u:=by
 cases r with
 | cons r1 r2=>cases r2;exact #[_,rfl,r1]
theorem lV (r:Vals [x,y] us):∃ u a,us=[u,a]/\RelV x u/\RelV y a:=by
 cases r with
 | cons r1 r2 =>
  cases r2 with
  | cons r3 r4=>cases r4;exact #[_,_,rfl,r1,r3]
theorem A4:CallR X (.builtin "abs") (λxs H Q=>∃ i,xs=[.int i]/\Q (.int (if i < 0 then -i else i)) H):=by
 intro pins s Y H xs us Q I r h
 obtain ⟨i,rfl,q⟩:=h
 obtain ⟨u,rfl,t,rfl⟩:=d6 r
 exact call_abs_int λu tk=>#[.int (if i < 0 then -i else i),H,I.tok _,#[_,rfl],q]
theorem xS (b:X.calm=true):CallR X (.builtin "max") (λxs H Q=>∃ i j,xs=[.int i,.int j]/\Q (.int (if j > i then j else i)) H):=by
 intro pins s Y H xs us Q I r h
 obtain ⟨i,j,rfl,q⟩:=h
 obtain ⟨u,c,rfl,⟨t,rfl⟩,⟨t',rfl⟩⟩:=lV r
 refine max_two_ints (I.ok.hd b) λh' tk k=>#[_,H,I.kept k,?_,q]
 by_cases a:j > i
 .rw[if_pos a,if_pos a];exact #[_,rfl]
 .rw[if_neg a,if_neg a];exact #[_,rfl]
theorem xQ (b:X.calm=true):CallR X (.builtin "min") (λxs H Q=>∃ i j,xs=[.int i,.int j]/\Q (.int (if j < i then j else i)) H):=by
 intro pins s Y H xs us Q I r h
 obtain ⟨i,j,rfl,q⟩:=h
 obtain ⟨u,c,rfl,⟨t,rfl⟩,⟨t',rfl⟩⟩:=lV r
 refine min_two_ints (I.ok.hd b) λh' tk k=>#[_,H,I.kept k,?_,q]
 by_cases a:j < i
 .rw[if_pos a,if_pos a];exact #[_,rfl]
 .rw[if_neg a,if_neg a];exact #[_,rfl]
theorem sK:CallR X (.builtin "divmod") (λxs H Q=>∃ i j,xs=[.int i,.int j]/\x5 i j/\∀ p,H p=none->Q (.ref p) (upd H p (.tup [.int (i / j),.int (i % j)]))):=by
 intro pins s Y H xs us Q I r h
 obtain ⟨i,j,rfl,⟨h1,h2⟩,q⟩:=h
 obtain ⟨u,c,rfl,⟨t,rfl⟩,⟨t',rfl⟩⟩:=lV r
 refine divmod_int (by omega) ?_ (.inl (PyProof.noPylong_small (by omega)))
 rw[Int.fdiv_eq_ediv_of_nonneg i (by omega),Int.fmod_eq_emod_of_nonneg i (by omega)]
 have a:H s.heap.objs.size=none:=I.hok.fresh (Hi _)
 refine #[.ref s.heap.objs.size,_,?_,rfl,q _ a]
 refine I.laid (λb o e=>GZ _ e) (Hi _) #[by simp only[Hu,List.length_nil];rw[sizeLine_eq];decide,[.int (i / j) s.toks,.int (i % j) (s.toks+1)],.cons #[_,rfl] (.cons #[_,rfl] .nil),?_]
 exact #[_,Ha s.heap rfl,rfl,0,rfl]
end
end L2
namespace L2
open PySem PySem.Spec PyProof.Rows
theorem RelO.some_of (r:RelO (some v) o):∃ u,o=some u/\RelV v u:=by
 cases o with
 | none=>exact (show False from r).elim
 | some u=>exact #[u,rfl,r]
end L2
namespace L2
open PySem PySem.Spec PyProof.Rows
structure Room (k:Nat) (A:Around):Prop where
 hd:A.handled=none
 dp:A.depth+3 * k+5 < recursionLimit
 un:A.units+16 * k+200 < cLine
 gd:A.guards=some []
theorem Room.mono {j k:Nat} (r:Room k A) (h:j<=k):Room j A:=#[r.hd,by have:=r.dp;omega,by have:=r.un;omega,r.gd]
theorem Room.deeper {k:Nat} (r:Room (k+1) A) (env:Env):Room k (A.deeper env) :=
 #[r.hd,by have:=r.dp;show A.depth+1+3 * k+5 < _;omega,by have:=r.un;show A.units+3+16 * k+200 < _;omega,r.gd]
theorem Room.depth {k:Nat} (r:Room k A):A.depth < recursionLimit:=by have:=r.dp;omega
theorem Room.units {k:Nat} (r:Room k A):A.units+64 < cLine:=by have:=r.un;omega
def El:TA:=λ_ H Q=>Q [] H
def yw (ta:TE) (a:TA):TA:=λY H Q=>ta Y H λx H1=>a Y H1 λxs H2=>Q (x::xs) H2
section
variable {X:Cx} {e:Expr} {es:List Expr} {te:TE} {t:TA} {pos:Pos}
theorem mq:PA X [] El:=λ_ _ _ _ H Q I h=>Calls.spliced_nil #[[],H,I,.nil,h]
theorem f9 (c:PE X e te) (a:PA X es t) (k:starEach (e::es) X.env=(false,eval e X.env)::starEach es X.env:=by rfl):PA X (e::es) (yw te t):=by
 intro pos pins s Y H Q I h
 rw[k]
 show wpAny _ _ (spliced ((false,eval e X.env)::backTo pos (starEach es X.env))) _ _ s
 refine Calls.spliced_cons (thn (c pins s Y H _ I h) λu s1 #[x,H1,j,g,f]=>?_)
 exact thn (a pos pins s1 Y H1 _ j f) λus s2 #[xs,H2,b,d,i]=>#[x::xs,H2,b,.cons g d,i]
def tTup (t:TA):TE:=λY H Q=>t Y H λxs H1=>xs.length<=sizeLine/\∀ p,H1 p=none->Q (.ref p) (upd H1 p (.tup xs))
def tLst (t:TA):TE:=λY H Q=>t Y H λxs H1=>xs.length<=sizeLine/\∀ p,H1 p=none->Q (.ref p) (upd H1 p (.lst xs))
theorem Fu (h:PA X es t):PE X (.Tuple es x1 pos) (tTup t):=by
 intro pins s Y H Q I c
 refine wpAny_Tuple_spliced (thn (h pos pins s Y H _ I c) λus s1 #[xs,H1,a,r,z,q]=>#[by rw[<- r.length];exact z,?_])
 have hf:H1 s1.heap.objs.size=none:=a.hok.fresh (Hi _)
 refine #[.ref s1.heap.objs.size,upd H1 s1.heap.objs.size (.tup xs),a.laid (t':=s1.toks) (λb u e=>GZ _ e) (Hi _) ?_,rfl,q _ hf]
 exact #[z,us,r,#[_,Ha _ rfl,rfl,_,rfl]]
theorem FA (h:PA X es t):PE X (.List es pos) (tLst t):=by
 intro pins s Y H Q I c
 refine wpAny_List_spliced (thn (h pos pins s Y H _ I c) λus s1 #[xs,H1,a,r,z,q]=>#[by rw[<- r.length];exact z,?_])
 have hf:H1 s1.heap.objs.size=none:=a.hok.fresh (Hi _)
 refine #[.ref s1.heap.objs.size,upd H1 s1.heap.objs.size (.lst xs),a.laid (t':=s1.toks) (λb u e=>GZ _ e) (Hi _) ?_,rfl,q _ hf]
 exact #[z,us,0,r,Ha _ rfl]
end
abbrev Sp:=List V->Hp->VK->XK->Prop
abbrev CXT:=List Env->Hp->Shared->XK->Value->Shared->Prop
structure Env0 (P:Program) (w:World) (K:FG) (mg:Str->Option Value) (base:Heap) (A:Around) (outer:List Env) (s:Shared) (H:Hp):Prop where
 frames:A.frames=some outer
 mod:Mod K mg base
 bs:∀ b o,base.get? b=some o->s.heap.get? b=some o/\H b=none
 bsz:base.objs.size<=s.heap.objs.size
 funs:s.heap.FunFrames base outer
 frf:∀ b∈frs outer,H b=none
 hok:HOk P w H s.heap
 bare:AllBare s.gens
def CE (outer:List Env) (P:Program) (w:World) (H:Hp) (s:Shared) (Q:VK) (u:Value) (s':Shared):Prop :=
 ∃ v H',s'.os=s.os/\AllBare s'.gens/\Un (frs outer) [] H H' s.heap s'.heap/\HOk P w H' s'.heap/\RelV v u/\Q v H'
def CR (CX:CXT) (outer:List Env) (P:Program) (w:World) (H:Hp) (s:Shared) (Q:VK) (E:XK) (r:Result) (s':Shared):Prop :=
 match r with
 | .ok (.ret u)=>CE outer P w H s Q u s'
 | .ok _=>False
 | .error e=>CX outer H s E e s'
structure FnOk (P:Program) (w:World) (K:FG) (mg:Str->Option Value) (base:Heap) (CX:CXT) (k:Nat) (f:Addr) (fd:FuncData) (ps:List Str) (sp:Sp):Prop where
 len:∀ vs H Q E,sp vs H Q E->vs.length=ps.length
 run:∀ (A:Around) (outer:List Env) (s:Shared) (H:Hp) (args:Args) (us:List Value) (vs:List V) (Q:VK) (E:XK),Room k A->Env0 P w K mg base A outer s H->BindsTo s fd args (ps.zip us)->Vals vs us->sp vs H Q E ->
  codeAny (model P w) A (.call (.ref f) args) (CR CX outer P w H s Q E) s
theorem FnOk.imp {K:FG} {k:Nat} (F:FnOk P w K mg base CX k f fd ps sp) (h:∀ a H Q E,sp' a H Q E->sp a H Q E):FnOk P w K mg base CX k f fd ps sp' :=
 #[λa H Q E q=>F.len a H Q E (h _ _ _ _ q),λA outer s H args us a Q E c he d e b=>F.run A outer s H args us a Q E c he d e (h _ _ _ _ b)]
section
variable {X:Cx} {pins:List (Addr×Obj)} {Y:St} {H:Hp} {s s':Shared}
theorem Inv.env0 (I:Inv X pins Y H s):Env0 X.prog X.w X.K X.mg X.base X.A X.stack s H :=
 #[I.ok.frames,I.ok.mod,I.bs,HE I.ok.bsz I.sz,I.stack,I.stkFree,I.hok,I.bare]
theorem Inv.after (I:Inv X pins Y H s) (h:CE X.stack X.prog X.w H s Q u s'):EP X pins Y Q u s':=by
 obtain ⟨v,H',os,bare,un,hok,r,q⟩:=h
 obtain ⟨c,g,d,t,a⟩:=s'
 obtain rfl:a=s.os:=os
 exact #[v,H',I.call (h':=c) (g':=g) (d':=d) (t':=t) (ch:=[]) un hok bare (λb z=>absurd z (by simp)),r,q]
end
def tCall (sp:Sp) (dvs:List V) (E:XK) (t:TA):TE:=λY H Q=>t Y H λa H1=>sp (a++dvs) H1 Q E
def Binds (K:FG) (fd:FuncData) (ps:List Str) (ds:List Value):Prop :=
 ∀ (s:Shared) (us:List Value),K.In s.heap->(us++ds).length=ps.length->BindsTo s fd #[us,[]] (ps.zip (us++ds))
theorem Binds.all {K:FG} (h:∀ us:List Value,us.length=ps.length->bindArgs fd #[us,[]]=pure (ps.zip us)):Binds K fd ps []:=λs us _ a=>by
 rw[List.append_nil] at a ⊢
 exact .of_eq (h us a)
def uR (CX:CXT) (X:Cx) (E:XK):Prop:=∀ (pins:List (Addr×Obj)) (Y:St) (H:Hp) (s:Shared) (e:Value) (s':Shared),Inv X pins Y H s->CX X.stack H s E e s'->X.xe e s'
section
variable {X:Cx} {CX:CXT} {k:Nat} {f C:Addr} {fd:FuncData} {ps:List Str} {sp:Sp} {dvs:List V} {ds:List Value} {E:XK} {x m:Str} {p pos apos:Pos} {e o:Expr} {es:List Expr} {ta:TE} {t:TA}
theorem EN (F:FnOk X.prog X.w X.K X.mg X.base CX k f fd ps sp) (d:Room k X.A) (g:Binds X.K fd ps ds) (hd:Vals dvs ds) (i:uR CX X E) (I:Inv X pins Y H s) (r:Vals vs us) (h:sp (vs++dvs) H Q E):wpAny (model X.prog X.w) X.A (call (.ref f) us) (EP X pins Y Q) X.xe s:=by
 have b:Vals (vs++dvs) (us++ds):=r.append hd
 have c:(us++ds).length=ps.length:=by rw[<- b.length];exact F.len _ _ _ _ h
 refine wpAny_call (codeAny_mono (F.run X.A X.stack s H #[us,[]] (us++ds) (vs++dvs) Q E d I.env0 (g s us I.kIn c) b h) λr s' a=>?_)
 cases r with
 | error e=>exact i pins Y H s e s' I a
 | ok fl =>
  cases fl with
  | ret u=>exact I.after a
  | next=>exact False.elim a
  | brk=>exact False.elim a
  | cont=>exact False.elim a
theorem Cu (F:FnOk X.prog X.w X.K X.mg X.base CX k f fd ps sp) (d:Room k X.A) (l:Gl X x) (hm:X.mg x=some (.ref f)) (m:PySem.W.keepIn X.K (.ref f)=true) (i:Binds X.K fd ps ds) (hd:Vals dvs ds) (j:uR CX X E)
  (g:PA X (e::es) t) (b:(x == ("__debug__":Str))=false:=by decide) (he:starEach (e::es) X.env=(false,eval e X.env)::starEach es X.env:=by rfl) (a:(backTo pos (starEach es X.env)).any (·.1)=false:=by rfl) :
  PE X (.Call (.Name x p) (e::es) [] pos) (tCall sp dvs E t):=by
 intro pins s Y H Q I h
 refine wpAny_Call_Name_kw (i9 I l hm ?_ b)
 refine PySem.W.callWith_K (h₀:=X.base) I.ok.mod.kin m (thn (g pos pins s Y H _ I h) λus s1 #[n,H1,c,r,q]=>#[c.kIn,?_]) he a
 exact EN F d i hd j c r q
end
def PK (X:Cx) (kws:List Keyword) (t:TA):Prop :=
 ∀ (pos:Pos) (pins:List (Addr×Obj)) (s:Shared) (Y:St) (H:Hp) (Q:List V->Hp->Prop),Inv X pins Y H s->t Y H Q->wpAny (model X.prog X.w) X.A (evalAll ((backToKw pos (keywordEach kws X.env)).map (·.2))) (AP X pins Y Q) X.xe s
section
variable {X:Cx} {CX:CXT} {k:Nat} {f C:Addr} {fd:FuncData} {ps ks:List Str} {sp:Sp} {E:XK} {x m:Str} {p pos apos kpos:Pos} {e o:Expr} {es:List Expr} {kws:List Keyword} {te ta:TE} {t tk:TA} {nm:Option Str}
theorem Fr:PK X [] El:=λ_ _ _ _ H Q I h=>wpAny_evalAll_nil #[[],H,I,.nil,h]
theorem Cp (c:PE X e te) (a:PK X kws t):PK X (#[nm,e,kpos]::kws) (yw te t):=by
 intro pos pins s Y H Q I h
 show wpAny _ _ (evalAll ((do let v <- eval e X.env;standAt pos;pure v)::(backToKw pos (keywordEach kws X.env)).map (·.2))) _ _ s
 refine wpAny_evalAll_cons (GU (thn (c pins s Y H _ I h) λu s1 #[x,H1,j,g,f]=>GU (wpAny_standAt (GV ?_))))
 exact thn (a pos pins s1 Y H1 _ j f) λus s2 #[xs,H2,b,d,i]=>#[x::xs,H2,b,.cons g d,i]
variable {g:List Value->List Value->List Value} {gV:List V->List V->List V}
end
structure FnScope (N P:List Str) (sc:Scope):Prop where
 kind:sc.kind=.function
 co:sc.isCoroutine=false
 gen:sc.isGenerator=false
 nd:N.Nodup
 pre:N.take P.length=P
 par:∀ x∈P,sc.names.lookup x=some .local\/sc.names.lookup x=some .cell
 nofree:∀ y∈sc.names,y.2≠.free
theorem oW {kindOf:Str->Option NameKind}:∀ {binds:List (Str×Value)} {m:Str->Option Value},(∀ v,(x,v) ∉ binds)->bindL kindOf binds m x=m x
 | [],_,_=>rfl
 | (n,v)::r,m,h=>by
  unfold bindL
  rw[oW λw hw=>h w (GY _ hw)]
  split
  .have:x≠n:=by rintro rfl;exact h v GX
   simp[this]
  .rfl
theorem oY {kindOf:Str->Option NameKind}:∀ {binds:List (Str×Value)} {m:Str->Option Value},(∀ v,(x,v) ∉ binds)->bindC kindOf binds m x=m x
 | [],_,_=>rfl
 | (n,v)::r,m,h=>by
  unfold bindC
  rw[oY λw hw=>h w (GY _ hw)]
  split
  .rfl
  .have:x≠n:=by rintro rfl;exact h v GX
   simp[this]
theorem oX {kindOf:Str->Option NameKind}:∀ {P:List Str} {a:List Value} {i:Nat} {m:Str->Option Value},P.Nodup->P[i]?=some x->a[i]?=some v->kindOf x=some .local ->
  bindL kindOf (P.zip a) m x=some v
 | [],_,_,_,_,h,_,_=>by simp at h
 | _::_,[],_,_,_,_,h,_=>by simp at h
 | p::P,w::a,0,m,nd,h1,h2,hk=>by
  simp at h1 h2;subst h1;subst h2
  show bindL kindOf ((p,w)::P.zip a) m p=_
  unfold bindL
  rw[oW λv b=>(List.nodup_cons.mp nd).1 (List.of_mem_zip b).1,if_pos hk]
  simp
 | p::P,w::a,i+1,m,nd,h1,h2,hk=>by
  show bindL kindOf ((p,w)::P.zip a) m x=_
  unfold bindL
  exact oX (i:=i) (List.nodup_cons.mp nd).2 (by simpa using h1) (by simpa using h2) hk
theorem oZ {kindOf:Str->Option NameKind}:∀ {P:List Str} {a:List Value} {i:Nat} {m:Str->Option Value},P.Nodup->P[i]?=some x->a[i]?=some v->kindOf x≠some .local ->
  bindC kindOf (P.zip a) m x=some v
 | [],_,_,_,_,h,_,_=>by simp at h
 | _::_,[],_,_,_,_,h,_=>by simp at h
 | p::P,w::a,0,m,nd,h1,h2,hk=>by
  simp at h1 h2;subst h1;subst h2
  show bindC kindOf ((p,w)::P.zip a) m p=_
  unfold bindC
  rw[oY λv b=>(List.nodup_cons.mp nd).1 (List.of_mem_zip b).1,if_neg hk]
  simp
 | p::P,w::a,i+1,m,nd,h1,h2,hk=>by
  show bindC kindOf ((p,w)::P.zip a) m x=_
  unfold bindC
  exact oZ (i:=i) (List.nodup_cons.mp nd).2 (by simpa using h1) (by simpa using h2) hk
def gx (N:List Str) (a:List V):St:=a.map some++List.replicate (N.length - a.length) none
def dN (CX:CXT) (P:Program) (w:World) (K:FG) (mg:Str->Option Value) (base:Heap) (N:List Str) (qual:Str) (scope:Scope) (f:Addr) (cd:Value) (A:Around) (outer:List Env) (s:Shared) (H:Hp) (E:XK):Cx where
 prog:=P
 w:=w
 K:=K
 mg:=mg
 base:=base
 A:=A.deeper (envOfC qual scope s.heap.objs.size f cd)
 N:=N
 s₀:=s
 H₀:=H
 env:=envOfC qual scope s.heap.objs.size f cd
 outer:=outer
 stack:=envOfC qual scope s.heap.objs.size f cd::outer
 ex:=[]
 calm:=true
 fn:=λ_=>true
 pn:=[]
 xe:=λe s'=>wpAny (model P w) (A.deeper (envOfC qual scope s.heap.objs.size f cd)) (leaving (envOfC qual scope s.heap.objs.size f cd) e) (λ_ a=>CX outer H s E e a) (λb a=>CX outer H s E b a) s'
theorem sJ {sc:Scope} {n:Nat} (h:sc.names.lookup x=some .cell):∃ c,(cellsFrom n sc.names []).lookup x=some c:=by
 have q:=PySem.W.cellsFrom_some sc.names n [] (.inl h)
 exact Option.isSome_iff_exists.mp q
theorem oN {K:FG} (S:FnScope N ps scope) (hd:A.handled=none) (d:Env0 P w K mg base A outer s H) (D:vs.length=ps.length) (r:Vals vs us) (x:InCallC s s.heap.objs.size (bindL (envOfC qual scope s.heap.objs.size f cd).kindOf (ps.zip us) λ_=>none) (cellsFrom (s.heap.objs.size+1) scope.names []) (bindC (envOfC qual scope s.heap.objs.size f cd).kindOf (ps.zip us) λ_=>none) s1) :
  Inv (dN CX P w K mg base N qual scope f cd A outer s H E) [] (gx N vs) H s1:=by
 have t:ps.length<=N.length:=by have:=congrArg List.length S.pre;rw[Hv] at this;omega
 obtain ⟨h1,tk,rfl,o⟩:=x.done
 have j:∀ b:Addr,b ∉ (dN CX P w K mg base N qual scope f cd A outer s H E).ex:=λb z=>absurd (show b∈([]:List Addr) from z) (by simp)
 refine ⟨⟨d.mod,S.kind,rfl,rfl,Hi _,λy z c h1 h2=>?_,λy g=>?_,λy c _ h=>?_,λ_=>hd,Around.frames_deeper d.frames,.inr ⟨rfl,rfl⟩,λb z=>absurd z (j b),d.bs,d.bsz,λb _ _=>j b,λb z=>absurd z (j b),d.funs,d.frf⟩,
  rfl,d.bare,Un.kept o,⟨_,x.toInCall.ns,λi y v h1 h2 h3=>?_⟩,λy c h=>⟨_,x.cell y c h⟩,d.hok.fresh (Hi _),λy c h=>?_,λp m=>absurd (show p∈([]:List (Addr×Obj)) from m) (by simp),d.hok.kept o,?_⟩
 .exact name_of_addr x.apart (PySem.mem_of_lookup h1) (PySem.mem_of_lookup h2)
 .have g:scope.names.lookup y=some .cell\/scope.names.lookup y=some .free:=g
  rcases g with g | g
  .exact sJ g
  .exact absurd rfl (S.nofree _ (PySem.mem_of_lookup g))
 .exact Nat.le_of_lt (x.above y c (PySem.mem_of_lookup h))
 .have hi:i < vs.length:=by
   unfold gx at h2
   by_cases hi:i < vs.length
   .exact hi
   .rw[List.getElem?_append_right (by simpa using hi)] at h2
    rw[List.getElem?_replicate] at h2
    split at h2 <;> cases h2
  have B:vs[i]?=some v:=by
   unfold gx at h2
   rw[List.getElem?_append_left (by simpa using hi),Hh] at h2
   cases e:vs[i]? with
   | none=>rw[e] at h2;cases h2
   | some a=>rw[e] at h2;cases h2;rfl
  obtain ⟨u,hu,C⟩:=r.get B
  have m:ps[i]?=some y:=by
   rw[<- S.pre,List.getElem?_take_of_lt (by omega)];exact h1
  have l:ps.Nodup:=by rw[<- S.pre];exact S.nd.sublist (List.take_sublist _ _)
  refine #[u,C,?_]
  rcases S.par y (He m) with k | k
  .exact .inl #[k,oX l m hu k]
  .obtain ⟨c,e⟩:=sJ (n:=s.heap.objs.size+1) k
   refine .inr #[.inl k,c,e,?_]
   have q:=x.cell y c e
   rw[oZ l m hu (by show scope.names.lookup y≠_;rw[k];decide)] at q
   exact q
 .exact d.hok.fresh (Nat.le_of_lt (x.above y c (PySem.mem_of_lookup h)))
 .unfold gx
  show _=N.length
  rw[Ht,Hb,List.length_replicate]
  lia
theorem DJ {K:FG} {k:Nat} {B kV doc pm a ct D:Value} (L:K.lookup f=some #[D,od,.func (PySem.W.fnOf name qual params body scope B kV doc pm an a ct),osl]) (p:PySem.W.codeIn K a qual=true) (S:FnScope N ps scope) (len:∀ c H Q E,sp c H Q E->c.length=ps.length) (d:∀ (A:Around) (outer:List Env) (s:Shared) (H:Hp) (c:List V) (Q:VK) (E:XK),Room k (A.deeper (envOfC qual scope s.heap.objs.size f a))->sp c H Q E ->
   ∃ t,PSs (dN CX P w K mg base N qual scope f a A outer s H E) body t/\t { nx:=λ_ H'=>Q .non H',rt:=Q } (gx N c) H) :
  FnOk P w K mg base CX (k+1) f (PySem.W.fnOf name qual params body scope B kV doc pm an a ct) ps sp:=by
 refine #[len,λA outer s H args us c Q E l j C r i=>?_]
 have τ:=len _ _ _ _ i
 have z:K.In s.heap:=j.mod.kin.keeps λb o e=>(j.bs b o e).1
 have lim:s.heap.NoLimit:=j.mod.nolimit.keeps λb o e=>(j.bs b o e).1
 have g:∀ y∈ps.zip us,scope.names.lookup y.1=some .local\/(scope.names.lookup y.1=some .cell/\((cellsFrom (s.heap.objs.size+1) scope.names []).lookup y.1).isSome=true):=λ#[n,v] G=>by
  rcases S.par n (List.of_mem_zip G).1 with q | q
  .exact .inl q
  .exact .inr #[q,PySem.W.cellsFrom_some _ _ _ (.inl q)]
 refine codeAny_call_function l.depth (z _ _ L) rfl S.co S.gen rfl (PySem.W.codeRec_of z p) (C _ _ _ _ ?_)
 refine wpAny_newFunctionEnv_cells S.kind g λenv he s1 x=>?_
 subst he
 refine #[lim.keeps x.toInCall.keep,codeAny_func ?_]
 obtain ⟨t,F,M⟩:=d A outer s H c Q E (l.deeper _) i
 have I:Inv (dN CX P w K mg base N qual scope f a A outer s H E) [] (gx N c) H s1:=oN S l.hd j τ r x
 refine wpAny_mono (F [] s1 (gx N c) H _ I M) (λfl s' h=>?_) λe s' h=>h
 have fin:∀ {Y':St} {H':Hp} {v:V} {u:Value},Inv (dN CX P w K mg base N qual scope f a A outer s H E) [] Y' H' s'->RelV v u->Q v H'->CE outer P w H s Q u s' :=
  λ{Y' H' v u} J m q=>#[v,H',J.os,J.bare,J.base,J.hok,m,q]
 cases fl with
 | ret u =>
  obtain ⟨v,Y',H',J,m,q⟩:=h
  exact fin J m q
 | next =>
  obtain ⟨Y',H',J,q⟩:=h
  exact fin (v:=V.non) (u:=Value.none) J rfl q
 | brk =>
  obtain ⟨_,_,_,q⟩:=h
  exact False.elim q
 | cont =>
  obtain ⟨_,_,_,q⟩:=h
  exact False.elim q
end L2
namespace L2
open PySem PySem.Spec PyProof.Rows
section
variable {X:Cx} {x:Str} {p pos:Pos} {e:Expr} {es:List Expr} {t:TA} {id T:String} {r:List V->Hp->VK->Prop}
def tCB (r:List V->Hp->VK->Prop) (t:TA):TE:=λY H Q=>t Y H λa H1=>r a H1 Q
theorem iB (l:CallR X (.builtin id) r) (g:Gl X x) (hm:X.mg x=none) (k:bootBuiltins x=some (.builtin id)) (c:PA X (e::es) t) (j:x≠"__name__":=by decide) (b:(x == ("__debug__":Str))=false:=by decide)
  (he:starEach (e::es) X.env=(false,eval e X.env)::starEach es X.env:=by rfl) (a:(backTo pos (starEach es X.env)).any (·.1)=false:=by rfl):PE X (.Call (.Name x p) (e::es) [] pos) (tCB r t):=by
 intro pins s Y H Q I h
 refine wpAny_Call_Name_kw (iK I g hm k ?_ j b)
 exact PyProof.Rows.callWith_builtin1 (thn (c pos pins s Y H _ I h) λus s1 #[d,H1,m,i,f]=>l pins s1 Y H1 d us Q m i f) he a
theorem ki (l:CallR X (.type T) r) (g:Gl X x) (hm:X.mg x=none) (k:bootBuiltins x=some (.type T)) (c:PA X (e::es) t) (j:x≠"__name__":=by decide) (b:(x == ("__debug__":Str))=false:=by decide)
  (he:starEach (e::es) X.env=(false,eval e X.env)::starEach es X.env:=by rfl) (a:(backTo pos (starEach es X.env)).any (·.1)=false:=by rfl):PE X (.Call (.Name x p) (e::es) [] pos) (tCB r t):=by
 intro pins s Y H Q I h
 refine wpAny_Call_Name_kw (iK I g hm k ?_ j b)
 exact PyProof.Rows.callWith_type1 (thn (c pos pins s Y H _ I h) λus s1 #[d,H1,m,i,f]=>l pins s1 Y H1 d us Q m i f) he a
end
end L2
namespace HT
open PySem PyProof.Rows
def lexLt:List Int->List Int->Bool
 | [],[]=>false
 | [],_::_=>true
 | _::_,[]=>false
 | x::xs,y::ys=>if x=y then lexLt xs ys else decide (x < y)
theorem lexLt_cons (x y:Int) (xs ys:List Int):lexLt (x::xs) (y::ys)=if x=y then lexLt xs ys else decide (x < y):=rfl
theorem lexLt_nil_nil:lexLt [] []=false:=rfl
theorem lexLt_nil_cons (y:Int) (ys:List Int):lexLt [] (y::ys)=true:=rfl
theorem lexLt_cons_nil (x:Int) (xs:List Int):lexLt (x::xs) []=false:=rfl
theorem AM (A:Around) (s:Shared) (a:Int) (t:Tok) (c:Int) (u:Tok):∃ e,SeqAt.EqAt A s (.int a t) (.int c u) e/\(e=true ↔ a=c) :=
 #[(a == c),SeqAt.EqAt.int_int a t c u,by simp]
theorem rcLt_int (A:Around) (s:Shared) (a:Int) (t:Tok) (c:Int) (u:Tok) (prog:Program) (w:World) (E:Value->Shared->Prop) (Q:Value->Shared->Prop) (h:Q (.bool (decide (a < c))) s) :
  wpAny (model prog w) A (richCompare .Lt (.int a t) (.int c u)) Q E s :=
 (PyProof.Rows.lt_int h:wpAny (model prog w) A (compareOp .Lt (.int a t) (.int c u)) Q E s)
section
open PySem.SeqAt
open PySem.AutoSeq1 (wpAny_loadPart')
open PySem.MeetsSeq PySem.MeetsSeq2 PySem.MeetsSeq3
theorem tuple_lt_ints (l b:Addr) (items f:Array Value) (n H:Nat) (dd C:Option Addr) (sl B:Array (Option Value)) (ns ms:List Int) (hi:IntsAre items.toList ns) (F:IntsAre f.toList ms) :
  Meets (Builtin.«tuple.__lt__» #[[.ref l,.ref b],[]])
   (λ_ R s=>s.heap.get? l=some { cls:=.type "tuple",dict:=dd,data:=.seq items n,slots:=sl }/\s.heap.get? b=some { cls:=.type "tuple",dict:=C,data:=.seq f H,slots:=B } /\
    R (.ok (.ret (.bool (lexLt ns ms)))) s) :=
 .of_wp λprog w A R s h=>by
  obtain ⟨v,g,d,tk,os⟩:=s;obtain ⟨I,G,h⟩:=h
  have f2:=AutoSeq1.sub_tuple_tuple
  have K:items.size=ns.length:=by rw[<- hi.length];simp
  have J:f.size=ms.length:=by rw[<- F.length];simp
  wp_walk using wpAny_loadPart' I,wpAny_loadPart' G,wpAny_forIn_list _ (λig b s'=>b.1=none/\s'=#[v,g,d,tk,os]/\∃ (z ws:List Value) (i j:List Int),ig=z.zip ws /\
   IntsAre z i/\IntsAre ws j/\i.length+f.size=j.length+items.size/\R (.ok (.ret (.bool (lexLt i j)))) #[v,g,d,tk,os]) _
  case turn =>
   rintro ⟨y,x⟩ ig b s' ⟨r,rfl,z,ws,i,j,hz,p,k,hlen,m⟩
   cases p with
   | nil=>rw[List.zip_nil_left] at hz;cases hz
   | cons a t hvi' =>
    cases k with
    | nil=>rw[List.zip_nil_right] at hz;cases hz
    | cons c u hwi' =>
     rw[List.zip_cons_cons] at hz
     injection hz with hyx hrest
     injection hyx with hy hx
     subst hy hx
     rw[lexLt_cons] at m
     simp only[Hu] at hlen
     obtain ⟨e,he,o⟩:=AM A.in1 #[v,g,d,tk,os] a t c u
     refine GU (he prog w _ _ ?_)
     cases e with
     | true =>
      rw[if_pos (o.mp rfl)] at m
      wp_walk
      exact #[rfl,rfl,_,_,_,_,hrest,hvi',hwi',by omega,m]
     | false =>
      rw[if_neg (λq=>absurd (o.mpr q) Hj)] at m
      have D:=rcLt_int A.in1 #[v,g,d,tk,os] a t c u prog w
      wp_walk using D
      exact #[_,rfl,by simpa using m]
  case fin =>
   rintro ⟨b1,b2⟩ s' ⟨r,rfl,z,ws,i,j,hz,p,k,hlen,m⟩
   simp only at r
   subst r
   have E:lexLt i j=decide (items.size < f.size):=by
    cases p with
    | nil =>
     cases k with
     | nil =>
      simp only[List.length_nil] at hlen
      rw[lexLt_nil_nil]
      exact (Ho (by omega)).symm
     | cons c u hw =>
      simp only[List.length_nil,Hu] at hlen
      rw[lexLt_nil_cons]
      exact (Hn (by omega)).symm
    | cons a t E =>
     cases k with
     | nil =>
      simp only[List.length_nil,Hu] at hlen
      rw[lexLt_cons_nil]
      exact (Ho (by omega)).symm
     | cons c u hw =>
      rw[List.zip_cons_cons] at hz
      cases hz
   rw[E] at m
   wp_walk
   exact #[_,rfl,by simpa[Builtin.Tuple.tupleCompareSizes] using m]
  case h =>
   exact #[rfl,rfl,items.toList,f.toList,ns,ms,rfl,hi,F,by omega,h]
end
section
variable {prog:Program} {w:World} {A:Around} {E:Value->Shared->Prop} {s:Shared}
theorem cat_tup (m:IsTup s.heap t vs.toArray) (l:IsTup s.heap b ws.toArray) (j:vs≠[]) (h1:ws=[]->Q (.ref t) s) (h2:ws≠[]->Q (.ref s.heap.objs.size) { s with heap:=s.heap.push { cls:=.type "tuple",data:=.seq (vs++ws).toArray } }) (hsz:vs.length+ws.length<=sizeLine):wpAny (model prog w) A (binaryOp .Add (.ref t) (.ref b)) Q E s:=by
 obtain ⟨⟨cls,dd,data,sl⟩,g,k,n,hd⟩:=id m
 obtain ⟨⟨h,c,data2,f⟩,a,d,i,hd2⟩:=id l
 simp only at k hd d hd2
 subst k hd d hd2
 have e:vs.toArray++ws.toArray=(vs++ws).toArray:=by simp
 by_cases hw:ws=[]
 .exact concat_meets #[_,g,rfl] #[_,a,rfl] noFill_tuple_add seq_tuple_add PySem.F.slot_tuple_add PySem.F.entry_tuple_add (PySem.F.args_tuple_add_2 _ _)
   (tuple_addW1 t b vs.toArray ws.toArray n i dd c sl f (by simpa using j) (by simp[hw])) #[g,a,h1 hw]
 .refine concat_meets #[_,g,rfl] #[_,a,rfl] noFill_tuple_add seq_tuple_add PySem.F.slot_tuple_add PySem.F.entry_tuple_add (PySem.F.args_tuple_add_2 _ _)
   (tuple_addW2 t b vs.toArray ws.toArray n i dd c sl f (by simpa using j) (by simpa using hw) (by rw[Hl,Hl];exact hsz)) #[g,a,?_]
  rw[e]
  exact h2 hw
def sIx (n d:Nat):Option Int->Nat
 | none=>d
 | some v=>if v < 0 then (v+(n:Int)).toNat else min v.toNat n
theorem EF (n d:Nat) (hd:d<=n) (o:Option Int):sIx n d o<=n:=by
 cases o with
 | none=>exact hd
 | some v =>
  show (if v < 0 then (v+(n:Int)).toNat else min v.toNat n)<=n
  by_cases a:v < 0
  .rw[if_pos a];omega
  .rw[if_neg a];exact Nat.min_le_right _ _
theorem vX (v:Int) (n d:Nat):(if v < 0 then max (v+(n:Int)) 0 else min v (n:Int))=((sIx n d (some v):Nat):Int):=by
 show (if v < 0 then max (v+(n:Int)) 0 else min v (n:Int))=(((if v < 0 then (v+(n:Int)).toNat else min v.toNat n):Nat):Int)
 by_cases a:v < 0
 .simp only[if_pos a];omega
 .simp only[if_neg a];omega
theorem uQ (lo hi:Option Int) (n:Nat):Builtin.Slice.sliceAdjust lo hi 1 (n:Int)=(((sIx n 0 lo:Nat):Int),((sIx n n hi:Nat):Int)):=by
 have h1:¬ ((1:Int) < 0):=by omega
 unfold Builtin.Slice.sliceAdjust
 simp only[h1,if_false]
 refine Prod.ext ?_ ?_
 .cases lo with
  | none=>rfl
  | some v=>exact vX v n 0
 .cases hi with
  | none=>rfl
  | some v=>exact vX v n n
theorem tX (i j:Nat):Builtin.Slice.slicePlaces (i:Int) (j:Int) 1=j - i:=by
 unfold Builtin.Slice.slicePlaces
 have h1:(1:Int) > 0:=by omega
 simp only[h1,if_true,Int.ediv_one]
 split <;> lia
theorem lY (p:IsPart v o) (h:Q o s):wpAny (model prog w) A (Builtin.Slice.slicePartIndex v) Q E s:=by
 cases p with
 | none=>exact slicePart_none h
 | int i t=>exact slicePart_int h
theorem fD {sl:Addr} {d c:Value} {lo hi:Option Int} {n:Nat} (f:s.heap.IsSliceOf sl d c .none) (pl:IsPart d lo) (pu:IsPart c hi) (h:Q (((sIx n 0 lo:Nat):Int),1,sIx n n hi - sIx n 0 lo) s):wpAny (model prog w) A (Builtin.Slice.sliceApplied (.ref sl) (pure (n:Int))) Q E s:=by
 obtain ⟨os,b,e,a⟩:=id f
 unfold Builtin.Slice.sliceApplied Builtin.Slice.sliceFields
 refine GU (GU (wpAny_field b a (x:=d) rfl (GU (wpAny_field b a (x:=c) rfl (GU (wpAny_field b a (x:=.none) rfl (GV ?_)))))))
 refine GU (slicePart_none ?_)
 show wpAny _ _ (if ((1:Int) == 0)=true then _ else _) _ _ s
 rw[if_neg (by decide)]
 refine GU (lY pl (GU (lY pu (GU (GV ?_)))))
 show wpAny _ _ (match Builtin.Slice.sliceAdjust lo hi 1 (n:Int) with | (lo,hi)=>pure (lo,(1:Int),Builtin.Slice.slicePlaces lo hi 1)) _ _ s
 rw[uQ lo hi n]
 show wpAny _ _ (pure (((sIx n 0 lo:Nat):Int),(1:Int),Builtin.Slice.slicePlaces ((sIx n 0 lo:Nat):Int) ((sIx n n hi:Nat):Int) 1)) _ _ s
 rw[tX]
 exact GV h
theorem zG (xs:Array Value) (i k:Nat):((List.range k).filterMap λ(m:Nat)=>xs[((i:Int)+(m:Int) * 1).toNat]?).toArray=((xs.toList.drop i).take k).toArray:=by
 have e:(λ(m:Nat)=>xs[((i:Int)+(m:Int) * 1).toNat]?)=λm=>xs[i+m]?:=by
  funext m
  have:((i:Int)+(m:Int) * 1).toNat=i+m:=by omega
  rw[this]
 rw[e]
 have:=pick_run xs i k
 rw[List.filterMap_map] at this
 have a:((λx=>xs[x]?) ∘ λx=>i+x)=λm=>xs[i+m]?:=rfl
 rw[a] at this
 rw[this]
theorem getItem_tuple_cut {lo hi:Option Int} (b:IsTup s.heap t items) (g:s.heap.IsSliceOf sl vl vu .none) (pl:IsPart vl lo) (pu:IsPart vu hi) (hw:¬ (sIx items.size 0 lo=0/\sIx items.size items.size hi=items.size)) (h:Q (.ref s.heap.objs.size) { s with heap:=s.heap.push { cls:=.type "tuple",data:=.seq ((items.toList.drop (sIx items.size 0 lo)).take (sIx items.size items.size hi - sIx items.size 0 lo)).toArray } }) (hsz:items.size<=sizeLine):wpAny (model prog w) A (getItem (.ref t) (.ref sl)) Q E s:=by
 have a:sizeOk (.seq ((items.toList.drop (sIx items.size 0 lo)).take (sIx items.size items.size hi - sIx items.size 0 lo)).toArray):=by
  show ((items.toList.drop (sIx items.size 0 lo)).take (sIx items.size items.size hi - sIx items.size 0 lo)).toArray.size<=sizeLine
  rw[Hl,Hv,List.length_drop,Array.length_toList]
  lia
 have l:sIx items.size items.size hi<=items.size:=EF _ _ (Hi _) hi
 obtain ⟨os,d,c,i⟩:=id g
 have e:s.TypeIs (.ref sl) "slice":=#[os,d,c]
 unfold getItem
 try with_reducible refine GW ?_
 first | refine GU (GV ?_) | skip
 refine GU (wpAny_sequenceKey b.typeIs (by decide) ?_)
 refine GU (wpAny_callSpecial?_slot (name:=Str.ofString "__getitem__") b.typeIs PyProof.Rows.slot_tuple_getitem
  (wpAny_call_entry PyProof.Rows.slot_tuple_getitem b.typeIs entry_tuple_getitem ?_ (args_tuple_getitem _ _)))
 show wpAny _ _ (Builtin.Tuple.tupleItemsOf (.ref t) >>= _) _ _ s
 refine GU (tupleItemsOf_ b ?_)
 refine GU (wpAny_typeOf e ?_)
 rw[if_pos (by decide)]
 refine GU (fD g pl pu ?_)
 have f:¬ ((((sIx items.size 0 lo:Nat):Int) == 0 && (1:Int) == 1 && (sIx items.size items.size hi - sIx items.size 0 lo) == items.size)=true):=by
  intro q
  rw[Bool.and_eq_true,Bool.and_eq_true] at q
  have j:((sIx items.size 0 lo:Nat):Int)=0:=eq_of_beq q.1.1
  have k:sIx items.size items.size hi - sIx items.size 0 lo=items.size:=eq_of_beq q.2
  exact hw #[by omega,by omega]
 show wpAny _ _ (if (((sIx items.size 0 lo:Nat):Int) == 0 && (1:Int) == 1 && (sIx items.size items.size hi - sIx items.size 0 lo) == items.size)=true then _ else _) _ _ s
 rw[if_neg f,zG]
 first
  | exact GU (m:=Builtin.Tuple.tupleExact _) (wpAny_newObj_type (GV #[_,rfl,GV h]) a)
  | exact GU (m:=Builtin.Tuple.tupleExact _) (wpAny_newObj_type (GU (GV (GV #[_,rfl,GV h]))) a)
  | exact GU (GU (m:=Builtin.Tuple.tupleExact _) (wpAny_newObj_type (GV (GV #[_,rfl,GV h])) a))
  | exact GU (GU (m:=Builtin.Tuple.tupleExact _) (wpAny_newObj_type (GV #[_,rfl,GV h]) a))
end
end HT
namespace L2
open PySem PySem.Spec PyProof.Rows
abbrev TO:=St->Hp->(Option Int->Hp->Prop)->Prop
def PO (X:Cx) (e:Option Expr) (t:TO):Prop :=
 ∀ (pins:List (Addr×Obj)) (s:Shared) (Y:St) (H:Hp) (Q:Option Int->Hp->Prop),Inv X pins Y H s->t Y H Q ->
  wpAny (model X.prog X.w) X.A (evalPart e X.env) (λu s'=>∃ o H',Inv X pins Y H' s'/\IsPart u o/\Q o H') X.xe s
def Bx:TO:=λ_ H Q=>Q none H
def tPart (t:TE):TO:=λY H Q=>t Y H λx H1=>∃ i,x=.int i/\Q (some i) H1
theorem js:∀ {us:List Value},Vals (ns.map V.int) us->IntsAre us ns:=by
 induction ns with
 | nil=>intro us r;rw[List.map_nil] at r;cases r;exact .nil
 | cons n ns ih =>
  intro us r
  rw[Hm] at r
  cases r with
  | cons r1 r2 =>
   obtain ⟨t,e⟩:=r1
   subst e
   exact .cons n t (ih r2)
section
variable {X:Cx} {e:Expr} {te:TE} {lo hi:Option Expr} {tl th:TO} {pos p2:Pos}
theorem Co:PO X none Bx:=by
 intro pins s Y H Q I h
 rw[evalPart_none]
 exact GV #[none,H,I,.none,h]
theorem Cn (h:PE X e te):PO X (some e) (tPart te):=by
 intro pins s Y H Q I hw
 rw[evalPart_some]
 refine thn (h pins s Y H _ I hw) λu s1 #[x,H1,c,b,a]=>?_
 obtain ⟨i,rfl,q⟩:=a
 obtain ⟨t,rfl⟩:=b
 exact #[some i,H1,c,.int i t,q]
def SlR (X:Cx) (r:V->Option Int->Option Int->Hp->VK->Prop):Prop :=
 ∀ (pins:List (Addr×Obj)) (s:Shared) (Y:St) (H:Hp) (x:V) (v b a:Value) (lo hi:Option Int) (sl:Addr) (Q:VK),Inv X pins Y H s->RelV x v->s.heap.IsSliceOf sl b a .none->IsPart b lo->IsPart a hi->r x lo hi H Q ->
  ∃ T id,typeLookup (.type T) "__getitem__"=pure (some (.builtin id))/\s.TypeIs v T/\wpAny (model X.prog X.w) X.A (getItem v (.ref sl)) (EP X pins Y Q) X.xe s
theorem SlR.or (h:SlR X r) (h':SlR X r'):SlR X (λx lo hi H Q=>r x lo hi H Q\/r' x lo hi H Q):=by
 intro pins s Y H x v c b lo hi sl Q I a d pl pu q
 rcases q with q | q
 .exact h pins s Y H x v c b lo hi sl Q I a d pl pu q
 .exact h' pins s Y H x v c b lo hi sl Q I a d pl pu q
def tSl (r:V->Option Int->Option Int->Hp->VK->Prop) (te:TE) (tl th:TO):TE:=λY H Q=>te Y H λx H1=>tl Y H1 λl H2=>th Y H2 λu a=>r x l u a Q
theorem zI (o:SlR X r) (he:PE X e te) (t:PO X lo tl) (hu:PO X hi th):PE X (.Subscript e (.Slice lo hi none p2) pos) (tSl r te tl th):=by
 intro pins s Y H Q I h
 refine Subscript_ (thn (he pins s Y H _ I h) λv s1 #[x,H1,B,y,p]=>?_)
 refine wpAny_Slice (thn (t pins s1 Y H1 _ B p) λc s2 #[l,H2,g,pl,k]=>thn (hu pins s2 Y H2 _ g k) λa s3 #[u,d,m,pu,f]=>?_)
 rw[evalPart_none]
 refine GV ?_
 have n:Inv X pins Y d { s3 with heap:=s3.heap.push { cls:=.type "slice",data:=.fields (List.toArray [c,a,.none]) } }:=m.kept (t':=s3.toks) λb ob q=>GZ _ q
 obtain ⟨T,id,z,i,j⟩:=o pins { s3 with heap:=s3.heap.push { cls:=.type "slice",data:=.fields (List.toArray [c,a,.none]) } } Y d x v c a l u s3.heap.objs.size Q n y (Heap.IsSliceOf.new ..) pl pu f
 show wpAny (model X.prog X.w) X.A (subscriptTail e (.Slice lo hi none p2) v (.ref s3.heap.objs.size)) (EP X pins Y Q) X.xe { s3 with heap:=s3.heap.push { cls:=.type "slice",data:=.fields (List.toArray [c,a,.none]) } }
 exact tail_any (ops:=[.ref s3.heap.objs.size,v]) i z j (by with_unfolding_all rfl)
def sD (xs:List V) (lo hi:Option Int):List V:=(xs.drop (HT.sIx xs.length 0 lo)).take (HT.sIx xs.length xs.length hi - HT.sIx xs.length 0 lo)
theorem lj (xs:List V) (lo hi:Option Int):(sD xs lo hi).length<=xs.length:=by
 unfold sD
 rw[Hv,List.length_drop]
 lia
def Fe (K:FG):V->Option Int->Option Int->Hp->VK->Prop:=λx lo hi H Q=>∃ a xs,x=.ref a/\SqT K H a xs /\
 ¬ (HT.sIx xs.length 0 lo=0/\HT.sIx xs.length xs.length hi=xs.length)/\∀ p,H p=none->Q (.ref p) (upd H p (.tup (sD xs lo hi)))
theorem sl_tup:SlR X (Fe X.K):=by
 intro pins s Y H x v i g lo hi sl Q I d f pl pu h
 obtain ⟨a,xs,rfl,e,hw,q⟩:=h
 cases d
 obtain ⟨its,r,c,hz⟩:=I.tuple e
 have hlen:its.toArray.size=xs.length:=by rw[Hl];exact r.length.symm
 refine #["tuple",_,PyProof.Rows.slot_tuple_getitem.lookup,c.typeIs,?_]
 refine HT.getItem_tuple_cut c f pl pu (by rw[hlen];exact hw) ?_ (by rw[hlen];exact hz)
 rw[hlen]
 refine #[.ref s.heap.objs.size,_,I.laid (t':=s.toks) (o:=.tup (sD xs lo hi)) (λb ob q=>GZ _ q) (Hi _) ?_,rfl,q _ (I.hok.fresh (Hi _))]
 exact #[HE (lj xs lo hi) hz,_,(r.drop (HT.sIx xs.length 0 lo)).take (HT.sIx xs.length xs.length hi - HT.sIx xs.length 0 lo),IsTupD.new _ _]
def vj (K:FG):R2:=λx y H Q=>∃ a b xs ys,x=.ref a/\y=.ref b/\SqT K H a xs/\SqT K H b ys/\xs≠[]/\xs.length+ys.length<=sizeLine /\
 (ys=[]->Q (.ref a) H)/\(ys≠[]->∀ p,H p=none->Q (.ref p) (upd H p (.tup (xs++ys))))
theorem Vals.nil_iff (r:Vals xs us):us=[] ↔ xs=[]:=by
 cases r with
 | nil=>simp
 | cons _ _=>simp
theorem op_catT:OpR X (binaryOp .Add) (vj X.K):=by
 intro pins s Y H x y v u Q I g n h
 obtain ⟨a,b,xs,ys,rfl,rfl,i,k,j,hz,l,m⟩:=h
 cases g
 cases n
 obtain ⟨its,d,f,_⟩:=I.tuple i
 obtain ⟨e,c,p2,_⟩:=I.tuple k
 refine HT.cat_tup f p2 (λz=>j (d.nil_iff.mp z)) (λz=>#[.ref a,H,I,rfl,l (c.nil_iff.mp z)]) (λz=>?_) (by rw[<- d.length,<- c.length];exact hz)
 refine #[.ref s.heap.objs.size,_,I.laid (t':=s.toks) (o:=.tup (xs++ys)) (λb ob q=>GZ _ q) (Hi _) ?_,rfl,m (λw=>z (c.nil_iff.mpr w)) _ (I.hok.fresh (Hi _))]
 exact #[by rw[Ht];exact hz,_,d.append c,IsTupD.new _ _]
end
end L2
namespace L2
open PySem PySem.Spec PyProof.Rows
def ixN (n:Nat) (i:Int):Option Nat:=if 0<=i then (if i < n then some i.toNat else none) else if -(n:Int)<=i then some (i+n).toNat else none
def atI {α:Type} (xs:List α) (i:Int):Option α:=(ixN xs.length i).bind λj=>xs[j]?
theorem vF {n:Nat} {i:Int} {j:Nat} (h:ixN n i=some j):seqIndex? i n=some j/\j < n/\-(n:Int)<=i/\i < n:=by
 unfold ixN at h
 by_cases h0:0<=i
 .rw[if_pos h0] at h
  by_cases h1:i < n
  .rw[if_pos h1] at h
   have e:i.toNat=j:=HJ h
   exact #[by rw[seqIndex_of h0 h1,e],by omega,by omega,h1]
  .rw[if_neg h1] at h;cases h
 .rw[if_neg h0] at h
  by_cases h1:-(n:Int)<=i
  .rw[if_pos h1] at h
   have e:(i+n).toNat=j:=HJ h
   exact #[by rw[seqIndex_neg (by omega) h1,e],by omega,h1,by omega]
  .rw[if_neg h1] at h;cases h
theorem we {i:Int} (h:atI xs i=some v):∃ j,seqIndex? i xs.length=some j/\xs[j]?=some v/\j < xs.length/\-(xs.length:Int)<=i/\i < xs.length:=by
 unfold atI at h
 cases e:ixN xs.length i with
 | none=>rw[e] at h;cases h
 | some j =>
  rw[e] at h
  obtain ⟨h1,h2,h3,a⟩:=vF e
  exact #[j,h1,h,h2,h3,a]
def wk (b:Expr):Prop:=∀ o i,subscripted b false o i=operate [o,i] (getItem o i)
def IxR (X:Cx) (r:R2):Prop :=
 ∀ (value slice:Expr) (pins:List (Addr×Obj)) (s:Shared) (Y:St) (H:Hp) (x y:V) (v u:Value) (Q:VK),Inv X pins Y H s->RelV x v->RelV y u->r x y H Q ->
  subscripted slice false v u=operate [v,u] (getItem v u)->wpAny (model X.prog X.w) X.A (subscriptTail value slice v u) (EP X pins Y Q) X.xe s
def MtR (X:Cx) (id:String) (r:V->List V->Hp->VK->Prop):Prop :=
 ∀ (pins:List (Addr×Obj)) (s:Shared) (Y:St) (H:Hp) (x:V) (xs:List V) (v:Value) (us:List Value) (Q:VK),Inv X pins Y H s->RelV x v->Vals xs us->r x xs H Q ->
  wpAny (model X.prog X.w) X.A (call (.builtin id) (v::us)) (EP X pins Y Q) X.xe s
section
variable {X:Cx} {a b:Expr} {ta tb:TE} {pos:Pos}
theorem IxR.or (h:IxR X r) (h':IxR X r'):IxR X (λx y H Q=>r x y H Q\/r' x y H Q):=by
 intro value slice pins s Y H x y v u Q I a b q c
 rcases q with q | q
 .exact h value slice pins s Y H x y v u Q I a b q c
 .exact h' value slice pins s Y H x y v u Q I a b q c
theorem pe_ix (c:IxR X r) (f:PE X a ta) (g:PE X b tb) (j:wk b):PE X (.Subscript a b pos) (tOp r ta tb):=by
 intro pins s Y H Q I h
 exact Subscript_ (GJ f g I h λv u s2 x y H2 e d i q=>c a b pins s2 Y H2 x y v u Q e d i q (j _ _))
def zu (K:FG):R2:=λx y H Q=>∃ p xs i v,x=.ref p/\y=.int i/\SqL K H p xs/\atI xs i=some v/\Q v H
def zt (K:FG):R2:=λx y H Q=>∃ p xs i v,x=.ref p/\y=.int i/\SqT K H p xs/\atI xs i=some v/\Q v H
theorem ix_list:IxR X (zu X.K):=by
 intro value slice pins s Y H x y v u Q I e f h d
 obtain ⟨p,xs,i,z,rfl,rfl,k,he,q⟩:=h
 cases e
 obtain ⟨t,rfl⟩:=f
 obtain ⟨its,r,pl,hz⟩:=I.list k
 obtain ⟨j,h1,h2,h3,m,g⟩:=we he
 obtain ⟨w,c,a⟩:=r.get h2
 have l:=r.length
 have n:=pS
 have fin:EP X pins Y Q w s:=#[z,H,I,a,q]
 by_cases h0:0<=i
 .have b:i.toNat=j:=by
   rw[seqIndex_of h0 g] at h1
   exact HJ h1
  exact item_listR pl.isList h0 (by omega) (by rw[b];simpa using c) fin d
 .have b:(i+(its.toArray.size:Int)).toNat=j:=by
   rw[seqIndex_neg (by omega) m] at h1
   rw[Hl,<- l]
   exact HJ h1
  exact subscriptTail_builtinR (x:=w) pl.isList.typeIs slot_list_getitem.lookup
   (wpAny_getItem_list_neg (Q:=λr s'=>r=w/\EP X pins Y Q r s') pl.isList (by omega) (by rw[Hl] <;> omega) (by omega) (by rw[b];simpa using c) #[rfl,fin]) d
theorem Gj:IxR X (zt X.K):=by
 intro value slice pins s Y H x y v u Q I b c h e
 obtain ⟨p,xs,i,z,rfl,rfl,f,he,q⟩:=h
 cases b
 obtain ⟨t,rfl⟩:=c
 obtain ⟨its,r,pl,hz⟩:=I.tuple f
 obtain ⟨j,h1,h2,h3,m,l⟩:=we he
 obtain ⟨w,d,a⟩:=r.get h2
 have g:=r.length
 have k:=pS
 have fin:EP X pins Y Q w s:=#[z,H,I,a,q]
 exact subscriptTail_builtinR (x:=w) pl.typeIs slot_tuple_getitem.lookup
  (getItem_tuple (j:=j) (Q:=λr s'=>r=w/\EP X pins Y Q r s') pl (by omega) (by omega) (by rw[Hl,<- g];exact h1) (by simpa using d) #[rfl,fin]) e
theorem t9 (its:List Value) (n j:Nat) (u:Value):Obj.mapSeq (·.setIfInBounds j u) { cls:=.type "list",data:=.seq its.toArray n }={ cls:=.type "list",data:=.seq (its.set j u).toArray n }:=by
 simp[Obj.mapSeq]
theorem Inv.lst {pins:List (Addr×Obj)} {Y:St} {H:Hp} {s:Shared} {p:Addr} {xs:List V} (I:Inv X pins Y H s) (h:H p=some (.lst xs)) :
  ∃ (its:List Value) (n:Nat),Vals xs its/\s.heap.get? p=some { cls:=.type "list",data:=.seq its.toArray n }/\xs.length<=sizeLine:=by
 obtain ⟨z,its,n,r,e⟩:=I.hok p _ h
 exact #[its,n,r,e,z]
theorem Inv.lstUpd {its its':List Value} {n a:Nat} (I:Inv X pins Y H s) (h:H p=some (.lst xs)) (c:s.heap.get? p=some { cls:=.type "list",data:=.seq its.toArray n }) (hf:f { cls:=.type "list",data:=.seq its.toArray n }={ cls:=.type "list",data:=.seq its'.toArray a }) (r:Vals ys its') (hz:ys.length<=sizeLine) (t:Nat) :
  Inv X pins Y (upd H p (.lst ys)) { s with heap:=s.heap.update p f,toks:=t }:=by
 have e:(s.heap.update p f).get? p=some { cls:=.type "list",data:=.seq its'.toArray a }:=by
  rw[Hs f c (by rw[hf] <;> rfl),hf]
 refine I.write (x:=p) (e:=p) (by rw[h];trivial) (.inl rfl) (λb u d q=>(HB _ _ (Ne.symm d)).trans q) #[_,e] ?_
 exact #[hz,its',a,r,e]
def mf:V->V->V->Hp->(Hp->Prop)->Prop:=λo i v H Q=>∃ p xs k j,o=.ref p/\i=.int k/\H p=some (.lst xs)/\ixN xs.length k=some j/\Q (upd H p (.lst (xs.set j v)))
theorem yK:Bf X mf:=by
 intro pins s Y H o i v x y u Q I w g l h
 obtain ⟨p,xs,k,j,rfl,rfl,d,m,q⟩:=h
 cases w
 obtain ⟨t,rfl⟩:=g
 obtain ⟨its,n,r,a,hz⟩:=I.lst d
 obtain ⟨h1,h2,h3,f⟩:=vF m
 have c:=r.length
 have z:=pS
 have e:Inv X pins Y (upd H p (.lst (xs.set j v))) { s with heap:=s.heap.update p (Obj.mapSeq (·.setIfInBounds j u)) } :=
  I.lstUpd d a (t9 its n j u) (r.set l j) (by rw[List.length_set];exact hz) s.toks
 by_cases h0:0<=k
 .have b:k.toNat=j:=by
   rw[seqIndex_of h0 f] at h1
   exact HJ h1
  exact PySem.W.ki_setAt a h0 (by omega) (by rw[Hl,<- c];exact f) (by rw[b];exact #[_,e,q])
 .have b:(k+(its.toArray.size:Int)).toNat=j:=by
   rw[seqIndex_neg (by omega) h3] at h1
   rw[Hl,<- c]
   exact HJ h1
  exact PySem.W.ki_setBack a (by omega) (by rw[Hl,<- c];exact h3) (by omega) (by rw[b];exact #[_,e,q])
theorem pc (lo hi:Option Int) (n:Nat):(sliceBounds lo hi none n).1=((HT.sIx n 0 lo:Nat):Int)/\(sliceBounds lo hi none n).2.1=((HT.sIx n n hi:Nat):Int)/\(sliceBounds lo hi none n).2.2=1:=by
 refine #[?_,?_,rfl]
 .cases lo with
  | none=>simp[sliceBounds,HT.sIx]
  | some i =>
   simp only[sliceBounds,HT.sIx,Option.getD_none,show (1:Int) > 0 by decide,if_true]
   by_cases h:i < 0
   .simp only[h,if_true] <;> omega
   .simp only[h,if_false] <;> omega
 .cases hi with
  | none=>simp[sliceBounds,HT.sIx]
  | some i =>
   simp only[sliceBounds,HT.sIx,Option.getD_none,show (1:Int) > 0 by decide,if_true]
   by_cases h:i < 0
   .simp only[h,if_true] <;> omega
   .simp only[h,if_false] <;> omega
theorem nk (its:List Value) (lo hi:Option Int):slicePick its.toArray lo hi none=((its.drop (HT.sIx its.length 0 lo)).take (HT.sIx its.length its.length hi - HT.sIx its.length 0 lo)).toArray:=by
 obtain ⟨h1,h2,h3⟩:=pc lo hi its.toArray.size
 unfold slicePick
 rw[h1,h2,h3]
 simp only[sliceRange_one,pick_run,Hl] <;> rfl
def Ff (K:FG):V->Option Int->Option Int->Hp->VK->Prop:=λx lo hi H Q=>∃ a xs,x=.ref a/\SqL K H a xs/\∀ p,H p=none->Q (.ref p) (upd H p (.lst (sD xs lo hi)))
theorem sl_list:SlR X (Ff X.K):=by
 intro pins s Y H x v i g lo hi sl Q I d f pl pu h
 obtain ⟨a,xs,rfl,e,q⟩:=h
 cases d
 obtain ⟨its,r,c,hz⟩:=I.list e
 have hlen:=r.length
 refine #["list",_,slot_list_getitem.lookup,c.isList.typeIs,?_]
 refine wpAny_getItem_list_slice c.isList f pl pu .none (by simp) ?_ (by rw[Hl] <;> omega)
 rw[nk,<- hlen]
 refine #[.ref s.heap.objs.size,_,I.laid (t':=s.toks) (o:=.lst (sD xs lo hi)) (λb ob q=>GZ _ q) (Hi _) ?_,rfl,q _ (I.hok.fresh (Hi _))]
 exact #[HE (lj xs lo hi) hz,_,0,(r.drop (HT.sIx xs.length 0 lo)).take (HT.sIx xs.length xs.length hi - HT.sIx xs.length 0 lo),Ha _ rfl]
def ic:V->Bool
 | .non=>true
 | .bl _=>true
 | .int _=>true
 | .str _=>true
 | _=>false
def eqV:V->V->Bool
 | .non,.non=>true
 | .bl a,.bl b=>a == b
 | .bl a,.int b=>(if a then 1 else 0) == b
 | .int a,.bl b=>a == (if b then 1 else 0)
 | .int a,.int b=>a == b
 | .str a,.str b=>a == b
 | _,_=>false
theorem Gw (d:RelV y u) (c:RelV x v) (e:ic y=true) (fx:ic x=true):SeqAt.EqAt A s u v (eqV y x):=by
 cases y with
 | non =>
  cases d
  cases x with
  | non=>cases c;exact SeqAt.EqAt.same _
  | bl b=>cases c;exact SeqAt.EqAt.none_bool b
  | int b=>obtain ⟨t,rfl⟩:=c;exact SeqAt.EqAt.none_int b t
  | str b=>obtain ⟨t,rfl⟩:=c;exact SeqAt.EqAt.none_str b t
  | _=>exact absurd (show false=true from fx) Hj
 | bl a =>
  cases d
  cases x with
  | non=>cases c;exact SeqAt.EqAt.bool_none a
  | bl b=>cases c;exact SeqAt.EqAt.bool_bool a b
  | int b=>obtain ⟨t,rfl⟩:=c;exact SeqAt.EqAt.bool_int a b t
  | str b=>obtain ⟨t,rfl⟩:=c;exact SeqAt.EqAt.bool_str a b t
  | _=>exact absurd (show false=true from fx) Hj
 | int a =>
  obtain ⟨t',rfl⟩:=d
  cases x with
  | non=>cases c;exact SeqAt.EqAt.int_none a t'
  | bl b=>cases c;exact SeqAt.EqAt.int_bool a t' b
  | int b=>obtain ⟨t,rfl⟩:=c;exact SeqAt.EqAt.int_int a t' b t
  | str b=>obtain ⟨t,rfl⟩:=c;exact SeqAt.EqAt.int_str a t' b t
  | _=>exact absurd (show false=true from fx) Hj
 | str a =>
  obtain ⟨t',rfl⟩:=d
  cases x with
  | non=>cases c;exact SeqAt.EqAt.str_none a t'
  | bl b=>cases c;exact SeqAt.EqAt.str_bool a t' b
  | int b=>obtain ⟨t,rfl⟩:=c;exact SeqAt.EqAt.str_int a t' b t
  | str b=>obtain ⟨t,rfl⟩:=c;exact SeqAt.EqAt.str_str a t' b t
  | _=>exact absurd (show false=true from fx) Hj
 | _=>exact absurd (show false=true from e) Hj
def eqU (x:V) (u:Value):Bool:=match u with
 | .none=>eqV .non x
 | .bool b=>eqV (.bl b) x
 | .int i _=>eqV (.int i) x
 | .str z _=>eqV (.str z) x
 | _=>false
theorem qe (r:RelV y u) (f:ic y=true):eqU x u=eqV y x:=by
 cases y with
 | non=>cases r;rfl
 | bl b=>cases r;rfl
 | int i=>obtain ⟨t,rfl⟩:=r;rfl
 | str z=>obtain ⟨t,rfl⟩:=r;rfl
 | _=>exact absurd (show false=true from f) Hj
theorem mD (a:RelV x v) (fx:ic x=true):∀ {xs:List V} {us:List Value},Vals xs us->xs.all ic=true->∀ u∈us,SeqAt.EqAt A s u v (eqU x u)
 | _,_,.nil,_=>λu hu=>by cases hu
 | y::xs,u::us,.cons r t,f=>λb hu=>by
  rw[List.all_cons,Bool.and_eq_true] at f
  rcases G6.mp hu with rfl | hu
  .rw[qe r f.1];exact Gw r a f.1 fx
  .exact mD a fx t f.2 b hu
theorem qp:CallR X (.builtin "len") (λxs H Q=>∃ p ys,xs=[.ref p]/\(SqL X.K H p ys\/SqT X.K H p ys)/\Q (.int ys.length) H):=by
 intro pins s Y H xs us Q I r h
 obtain ⟨p,ys,rfl,a,q⟩:=h
 obtain ⟨u,rfl,c⟩:=d6 r
 cases c
 have d:=pS
 rcases a with a | a
 .obtain ⟨its,b,pl,hz⟩:=I.list a
  have hlen:=b.length
  exact Calls.call_len_list pl.isList (by simp only[Hl] <;> omega) #[.int ys.length,H,I.tok _,#[s.toks+1,by rw[Hl,hlen]],q]
 .obtain ⟨its,b,pl,hz⟩:=I.tuple a
  have hlen:=b.length
  exact len_tuple pl (by simp only[Hl] <;> omega) #[.int ys.length,H,I.tok _,#[s.toks+1,by rw[Hl,hlen]],q]
theorem CallR.or (h:CallR X f r) (h':CallR X f r'):CallR X f (λxs H Q=>r xs H Q\/r' xs H Q):=by
 intro pins s Y H xs us Q I rs q
 rcases q with q | q
 .exact h pins s Y H xs us Q I rs q
 .exact h' pins s Y H xs us Q I rs q
theorem qo:CallR X (.type "list") (λxs H Q=>∃ p ys,xs=[.ref p]/\(SqL X.K H p ys\/SqT X.K H p ys)/\∀ l,H l=none->Q (.ref l) (upd H l (.lst ys))):=by
 intro pins s Y H xs us Q I r h
 obtain ⟨p,ys,rfl,d,q⟩:=h
 obtain ⟨u,rfl,i⟩:=d6 r
 cases i
 have fin:∀ (its:List Value),Vals ys its->ys.length<=sizeLine->∀ (h':Heap) (c:Nat),(∀ b o',s.heap.get? b=some o'->h'.get? b=some o') ->
   h'.get? s.heap.objs.size=some { cls:=.type "list",dict:=none,data:=.seq its.toArray c,slots:=(List.toArray []) }->EP X pins Y Q (.ref s.heap.objs.size) { s with heap:=h' }:=λits a hz h' c kp e =>
  #[.ref s.heap.objs.size,_,I.laid (t':=s.toks) kp (Hi _) (show ObjOk X.prog X.w _ h' _ (.lst ys) from #[hz,its,c,a,e]),rfl,q _ (I.hok.fresh (Hi _))]
 rcases d with d | d
 .obtain ⟨its,a,pl,hz⟩:=I.list d
  have hlen:=a.length
  obtain ⟨o,g,f,n,hd⟩:=pl.isList
  exact call_list_seq p (.inl rfl) g f hd (λh' c kp e=>fin its a hz h' c kp e) (by simp only[Hl] <;> omega)
 .obtain ⟨its,a,pl,hz⟩:=I.tuple d
  have hlen:=a.length
  obtain ⟨o,g,f,n,hd⟩:=pl
  exact call_list_seq p (.inr rfl) g f hd (λh' c kp e=>fin its a hz h' c kp e) (by simp only[Hl] <;> omega)
theorem nF:CallR X (.type "tuple") (λxs H Q=>∃ p ys,xs=[.ref p]/\((SqL X.K H p ys/\∀ l,H l=none->Q (.ref l) (upd H l (.tup ys)))\/(SqT X.K H p ys/\Q (.ref p) H))):=by
 intro pins s Y H xs us Q I r h
 obtain ⟨p,ys,rfl,h⟩:=h
 obtain ⟨u,rfl,f⟩:=d6 r
 cases f
 rcases h with ⟨a,q⟩ | ⟨a,q⟩
 .obtain ⟨its,c,pl,hz⟩:=I.list a
  have hlen:=c.length
  refine call_tuple_list pl.isList (λh' kp=>?_) (by simp only[Hl] <;> omega)
  have d:Inv X pins Y H { s with heap:=h' }:=I.kept (t':=s.toks) kp
  have g:Inv X pins Y (upd H h'.objs.size (.tup ys)) { s with heap:=h'.push { cls:=.type "tuple",data:=.seq its.toArray } } :=
   d.laid (t':=s.toks) (λb o e=>GZ _ e) (Hi _) (show ObjOk X.prog X.w _ _ _ (.tup ys) from #[hz,its,c,IsTupD.new _ _])
  exact #[.ref h'.objs.size,_,g,rfl,q _ (d.hok.fresh (Hi _))]
 .obtain ⟨its,c,pl,hz⟩:=I.tuple a
  exact call_tuple_same pl #[.ref p,H,I,rfl,q]
def tyV (K:FG) (T:String) (x:V) (H:Hp):Prop:=match x with
 | .str _=>T="str"
 | .int _=>T="int"
 | .ref p=>(T="list"/\∃ xs,SqL K H p xs)\/(T="tuple"/\((∃ o,K.lookup p=some o/\o.cls=.type "tuple"/\o.dict=none)\/∃ xs,H p=some (.tup xs))) \/
   (T="dict"/\((∃ kvs,H p=some (.dK kvs))\/∃ kvs,H p=some (.dT kvs)))\/(T="set"/\∃ S n,H p=some (.set S n))
 | _=>False
theorem DY (I:Inv X pins Y H s) (r:RelV x v) (ty:tyV X.K T x H) :
  s.TypeIs v T/\∀ a,v=.ref a->∃ ob,s.heap.get? a=some ob/\ob.dict=none:=by
 cases x with
 | str z =>
  obtain ⟨t,rfl⟩:=r
  cases (show T="str" from ty)
  exact #[typeIs_str s z t,λ_ e=>nomatch e]
 | int i =>
  obtain ⟨t,rfl⟩:=r
  cases (show T="int" from ty)
  exact #[typeIs_int s i t,λ_ e=>nomatch e]
 | ref p =>
  cases r
  rcases ty with ⟨rfl,xs,h⟩ | ⟨rfl,⟨o,b,j,hd⟩ | ⟨xs,g⟩⟩ | ⟨rfl,b⟩ | ⟨rfl,S,n,b⟩
  .obtain ⟨its,_,pl,_⟩:=I.list h
   refine #[pl.isList.typeIs,λa e=>?_]
   cases e
   obtain ⟨o,n,e,c,hd,_⟩:=pl
   exact #[o,e,hd]
  .refine #[#[o,I.kIn p o b,j],λa e=>?_]
   cases e
   exact #[o,I.kIn _ o b,hd]
  .obtain ⟨_,its,_,o,e,c,n,d⟩:=I.hok p _ g
   refine #[#[o,e,c],λa f=>?_]
   cases f
   exact #[o,e,congrArg Prod.snd d]
  .have z:∃ o,s.heap.get? p=some o/\o.ExactDict:=by
    rcases b with ⟨kvs,b⟩ | ⟨kvs,b⟩
    .obtain ⟨_,_,_,_,o,_,_,e,ex,_⟩:=I.hok p _ b
     exact #[o,e,ex]
    .obtain ⟨_,_,_,_,o,_,_,e,ex,_⟩:=I.hok p _ b
     exact #[o,e,ex]
   obtain ⟨o,e,ex⟩:=z
   refine #[#[o,e,ex.1],λa f=>?_]
   cases f
   exact #[o,e,ex.2.1]
  .obtain ⟨o,_,_,_,e,ex,_⟩:=I.hok p _ b
   refine #[#[o,e,ex.1],λa f=>?_]
   cases f
   exact #[o,e,ex.2.1]
 | _=>exact False.elim ty
def tBM (K:FG) (T:String) (r:V->List V->Hp->VK->Prop) (to:TE) (t:TA):TE:=λY H Q=>to Y H λx H1=>tyV K T x H1/\t Y H1 λxs H2=>r x xs H2 Q
variable {o e:Expr} {es:List Expr} {to:TE} {t:TA} {name:Str} {apos cpos:Pos} {T id:String} {r:V->List V->Hp->VK->Prop}
theorem Dw (w:PlainAttrs T) (slot:Slot T name id) (f:typeOf (.builtin id)=pure (.type "method_descriptor")) (hm:MtR X id r) (l:PE X o to) (m:PA X (e::es) t)
  (b:attributeBase o name X.env (eval o X.env)=eval o X.env:=by rfl)
  (d:((backTo cpos (starEach (e::es) X.env)).all (λx=>!x.1) && (backToKw cpos (keywordEach [] X.env)).all (λx=>x.1.isSome)
   && decide ((e::es).length+([]:List Keyword).length+(if ([]:List Keyword).isEmpty then 0 else 1) < 30))=true:=by rfl)
  (c:(apos.endLine == cpos.line)=true:=by rfl) (y:starEach (e::es) X.env=(false,eval e X.env)::starEach es X.env:=by rfl) (a:(backTo cpos (starEach es X.env)).any (·.1)=false:=by rfl) :
  PE X (.Call (.Attribute o name apos) (e::es) [] cpos) (tBM X.K T r to t):=by
 intro pins s Y H Q I h
 refine wpAny_Call_method_late b d c rfl (thn (l pins s Y H _ I h) λv s1 #[x,H1,j,g,ty,q]=>?_)
 obtain ⟨h1,h2⟩:=DY j g ty
 refine #[T,id,w,slot,f,h1,h2,?_]
 have i:=m cpos pins s1 Y H1 _ j q
 rw[y] at i ⊢
 refine Calls.callWith_builtin (by show (false || (backTo cpos (starEach es X.env)).any (·.1))=false;rw[a] <;> rfl) (Calls.evalArgs_plain ?_)
 exact thn i λus s2 #[p,H2,k,n,u]=>hm pins s2 Y H2 x p v us Q k g n u
end
end L2
namespace L2
open PySem PySem.Spec PyProof.Rows
def MtM (X:Cx) (id:String) (r:V->List V->Hp->VK->Prop):Prop :=
 ∀ (pins:List (Addr×Obj)) (s:Shared) (Y:St) (H:Hp) (x:V) (xs:List V) (v:Value) (us:List Value) (Q:VK),Inv X pins Y H s->RelV x v->Vals xs us->r x xs H Q ->
  wpAny (model X.prog X.w) X.A (call (.builtin id) (v::us)) (EP X pins Y Q) X.xe s
theorem Vals.one:∀ {x:V} {us:List Value},Vals [x] us->∃ u,us=[u]/\RelV x u
 | _,_,.cons r .nil=>#[_,rfl,r]
theorem Vals.two:∀ {x y:V} {us:List Value},Vals [x,y] us->∃ u v,us=[u,v]/\RelV x u/\RelV y v
 | _,_,_,.cons r (.cons q .nil)=>#[_,_,rfl,r,q]
theorem Vals.rep (h:Vals xs us):∀ k:Nat,Vals (List.replicate k xs).flatten (List.replicate k us).flatten
 | 0=>.nil
 | k+1=>by
  rw[List.replicate_succ,List.replicate_succ,List.flatten_cons,List.flatten_cons]
  exact Vals.append h (Vals.rep h k)
section
variable {X:Cx} {pins:List (Addr×Obj)} {Y:St} {H:Hp} {s:Shared} {l b:Addr} {xs ys zs:List V}
theorem Inv.lset {its its':List Value} {n:Nat} {t':Nat} (I:Inv X pins Y H s) (a:H l=some (.lst xs)) (e:s.heap.get? l=some { cls:=.type "list",data:=.seq its.toArray n }) (hf:f its.toArray=its'.toArray) (c:Vals ys its') (hz:ys.length<=sizeLine) :
  Inv X pins Y (upd H l (.lst ys)) { s with heap:=s.heap.update l (Obj.mapSeq f),toks:=t' }:=by
 have q:=PySem.IsL.update e f
 rw[hf] at q
 refine I.write (x:=l) (e:=l) (by rw[a];exact trivial) (.inl rfl) (λd u b hu=>(HB s.heap (Obj.mapSeq f) (Ne.symm b)).trans hu) #[_,q] ?_
 exact #[hz,its',_,c,q]
theorem Inv.lnew {t':Nat} (I:Inv X pins Y H s) (a:Vals ys its) (hz:ys.length<=sizeLine) :
  Inv X pins Y (upd H s.heap.objs.size (.lst ys)) { s with heap:=s.heap.push { cls:=.type "list",data:=.seq its.toArray },toks:=t' } :=
 I.laid (λ_ _ q=>GZ _ q) (Hi _) #[hz,its,0,a,Ha _ rfl]
theorem Inv.fresh (I:Inv X pins Y H s):H s.heap.objs.size=none:=I.hok.fresh (Hi _)
theorem Inv.lstM (I:Inv X pins Y H s) (a:H l=some (.lst xs)):xs.length<=sizeLine/\∃ (its:List Value) (n:Nat),Vals xs its/\xs.length=its.length/\s.heap.get? l=some { cls:=.type "list",data:=.seq its.toArray n }:=by
 obtain ⟨z,its,n,r,e⟩:=I.hok l _ a
 exact #[z,its,n,r,r.length,e]
theorem zU {n:Nat} (h:n<=sizeLine):Builtin.List.listTooLong n=false:=by
 unfold Builtin.List.listTooLong
 exact Ho (by omega)
end
section
variable {X:Cx}
def vm:V->List V->Hp->VK->Prop:=λx a H Q=>∃ l xs y,x=.ref l/\a=[y]/\H l=some (.lst xs)/\xs.length < sizeLine/\Q .non (upd H l (.lst (xs++[y])))
theorem wY:MtM X "list.append" vm:=by
 intro pins s Y H x f v us Q I b c h
 obtain ⟨l,xs,y,rfl,rfl,a,hz,q⟩:=h
 cases b
 obtain ⟨u,rfl,d⟩:=c.one
 obtain ⟨z,its,n,r,g,e⟩:=I.lstM a
 refine call_meets F.slot_list_append #[_,e,rfl] F.entry_list_append (F.args_list_append_2 _ _) (PySem.list_append l its.toArray n u (by rw[Hl];omega)) #[e,?_]
 refine #[.non,_,I.lset (its':=its++[u]) a e (by simp) (r.append (.cons d .nil)) ?_,rfl,q]
 rw[Ht,List.length_singleton]
 lia
def vh:V->List V->Hp->VK->Prop:=λx a H Q=>∃ l b xs zs,x=.ref l/\a=[.ref b]/\H l=some (.lst xs)/\H b=some (.lst zs)/\xs.length+zs.length<=sizeLine/\Q .non (upd H l (.lst (xs++zs)))
theorem wW:MtM X "list.extend" vh:=by
 intro pins s Y H x w v us Q I g o h
 obtain ⟨l,b,xs,zs,rfl,rfl,d,f,hz,q⟩:=h
 cases g
 obtain ⟨u,rfl,p⟩:=o.one
 cases p
 obtain ⟨z,its,n,r,y,e⟩:=I.lstM d
 obtain ⟨t,a,m,k,j,i⟩:=I.lstM f
 have hsz:its.toArray.size+a.toArray.size<=sizeLine:=by rw[Hl,Hl];omega
 have c:¬ (!its.toArray.isEmpty && Builtin.List.listTooLong (its.toArray.size+a.toArray.size))=true:=by
  rw[zU hsz,Bool.and_false]
  exact Hj
 refine call_meets F.slot_list_extend #[_,e,rfl] F.entry_list_extend (F.args_list_extend_2 _ _)
  (AutoSeq1.list_extend_list_list_0 l its.toArray n b a.toArray m c (by rw[Hl];omega) (by omega)) #[e,i,?_]
 refine #[.non,_,I.lset (its':=its++a) d e (by simp) (r.append k) ?_,rfl,q]
 rw[Ht]
 lia
def Cd:R2:=λx y H Q=>∃ l b xs zs,x=.ref l/\y=.ref b/\H l=some (.lst xs)/\H b=some (.lst zs)/\xs.length+zs.length<=sizeLine/\∀ p,H p=none->Q (.ref p) (upd H p (.lst (xs++zs)))
theorem FP:OpR X (binaryOp .Add) Cd:=by
 intro pins s Y H x y v u Q I d m h
 obtain ⟨l,b,xs,zs,rfl,rfl,f,c,hz,q⟩:=h
 cases d
 cases m
 obtain ⟨z,its,n,r,t,e⟩:=I.lstM f
 obtain ⟨o,a,p,j,i,g⟩:=I.lstM c
 refine PySem.P.add_list e g ?_ (by rw[Hl,Hl];omega)
 have k:its.toArray++a.toArray=(its++a).toArray:=by simp
 rw[k]
 exact #[.ref _,_,I.lnew (t':=s.toks) (r.append j) (by rw[Ht];omega),rfl,q _ I.fresh]
end
end L2
namespace Att
open PySem PySem.W PySem.Calls PyProof.Rows
theorem lB:∀ (ns:List Int) (c:List Value),WellAll P h c (ns.map WData.int)->IntsAre c ns:=by
 intro ns
 induction ns with
 | nil =>
  intro c w
  rw[List.map_nil] at w
  cases w
  exact .nil
 | cons n ns ih =>
  intro c w
  rw[Hm] at w
  cases w with
  | cons a b =>
   cases a
   exact .cons _ _ (ih _ b)
theorem wC {l:OpenLaw} {n:Nat} (m:l.most=some n) (b:l.row.toRowW.claim.pre args=true) (f:WellAll P h vals args) :
  ∃ a i ns,vals=[Value.ref a]/\args=[WData.list (ns.map WData.int)]/\h.get? a=some { cls:=.type "list",data:=.seq i.toArray }/\IntsAre i ns/\ns.length<=n:=by
 have g:WShape.hasAll [] args [.list .int]=true:=(pre_splitW b).1
 have j:l.pre.holds [] { args:=args }=true:=(pre_splitW b).2
 obtain ⟨d,r,rfl,h1,h2⟩:=hasAllW_cons g
 obtain rfl:=hasAllW_nil h2
 obtain ⟨xs,rfl,h3⟩:=hasW_list h1
 obtain ⟨ns,rfl⟩:=items_int h3
 have hlen:ns.length<=n:=by
  unfold OpenLaw.pre at j
  have e:(WTm.not (.lt (.lit (.int (n:Int))) (.len (.arg 0)))).holds [] { args:=[.list (ns.map .int)] }=true:=by
   have e:=(holds_andW j).1
   rw[m] at e
   exact e
  have c:=condW_of e (w_not (w_lt w_lit (w_len_list (w_arg rfl))))
  rw[Hb] at c
  refine Nat.le_of_not_lt λq=>?_
  have k:(n:Int) < ((ns.length:Nat):Int):=by omega
  first
   | (rw[Hn k] at c;exact absurd c (by decide))
   | (simp at c;omega)
 cases f with
 | cons w1 w2 =>
  cases w2
  cases w1 with
  | list ho hall=>exact #[_,_,ns,rfl,rfl,ho,lB ns _ hall,hlen]
theorem wM (l:OpenLaw) (args:List WData):l.row.toRowW.claim.post args (.bool true) args=true :=
 postW_of (r:=l.row.toRowW) (X:=(true == true))
  (show WShape.has [] (.bool true) .bool=true by first | rfl | decide | simp[WShape.has,WShape.arms,WShape.armsAll])
  (show (WTm.eq .res (.lit (.bool true))).value [] { args:=args,res:=some (.bool true),after:=args }=some (.bool (true == true)) from w_eq_bool (w_res rfl) w_lit) rfl
theorem attach_call {l:OpenLaw} {n:Nat} (u:l.most=some n) (j:d.params.defaults=[]) (call:∀ (w:World) (s₀ b:Shared) (mg mb:Str->Option Value) (e:Addr) (o:Obj) (pm cd doc:Value) (a:Addr) (c:List Value) (ns:List Int),
   Ground q loose [] XP w s₀ mg mb b.heap->YP w b.heap ->
   b.heap.get? e=some o->o.data=.func (docDef d.name d.params d.body d.scope pm cd doc)->b.heap.CodeRec cd d.name->mg d.name=some (.ref e) ->
   b.heap.get? a=some { cls:=.type "list",data:=.seq c.toArray }->IntsAre c ns->ns.length<=n->b.gens=(List.toArray []) ->
   codeAny (model l.prog w) callerA (.call (.ref e) #[[.ref a],[]]) (λr s'=>r=.ok (.ret (.bool true))/\OldK b.heap s'.heap/\s'.os=b.os/\AllBare s'.gens) b) :
  WalkO q loose XP YP l.row.toRowW d [] (λf c=>PySem.call f c):=by
 intro w s₀ b mg mb G σ e o pm cd doc z kV v hd m p i t args vals as h s B k x
 obtain rfl:z=.none:=Dflts.none p j
 obtain rfl:kV=.none:=Dflts.noKw p
 obtain ⟨a,c,ns,rfl,rfl,g,hints,hlen⟩:=wC u h k
 refine enter_call (codeAny_mono (call w s₀ b mg mb e o pm cd doc a c ns G σ v (fd_plain hd) m i g hints hlen t) λr s' y=>?_)
 obtain ⟨rfl,h2,h3,A⟩:=y
 exact #[.inl #[.bool true,.bool true,[],rfl,λ_=>rfl,.bool true,wM l _,λ_=>#[List.Pairwise.nil,λ_ hm=>(nomatch hm)]],h2,h3,A]
end Att
namespace L2
open PySem PySem.Spec PyProof.Rows
theorem nP:∀ {a:List Value} {ns:List Int},IntsAre a ns->Vals (ns.map V.int) a
 | _,_,.nil=>.nil
 | _,_,.cons n t h=>.cons #[t,rfl] (nP h)
def Dk (H:Hp):Prop:=∀ b,H b=none\/∃ o xs,H b=some (.frz o (.lst xs))
theorem Al {K:FG} {k:Nat} (M:K.In s₁.heap) (A:s₁.heap.Ns mainGlobals mg) (f:s₁.heap.Ns builtinsNs mb) (C:∀ x:Str,x≠"__name__"->mb x=bootBuiltins x) (y:s₁.heap.NoLimit) (T:s₁.gens=(List.toArray [])) (B:s₁.heap.get? a=some { cls:=.type "list",data:=.seq vs.toArray }) (hi:IntsAre vs ns) (N:ns.length<=sizeLine) (ρ:Room k callerA) (F:∀ base:Heap,K.In base->base.Ns mainGlobals mg->FnOk P w K mg base CX k fa fd [x] sp) (i:∀ (s:Shared) (u:Value),BindsTo s fd #[[u],[]] [(x,u)]) (E:∀ H:Hp,Dk H->SqL K H a (ns.map V.int)->sp [.ref a] H (λv _=>v=.bl true) λ_ _ _=>False) (D:∀ H e s',CX [] H s₁ (λ_ _ _=>False) e s'->False) :
  codeAny (model P w) callerA (.call (.ref fa) #[[.ref a],[]]) (λr s'=>r=.ok (.ret (.bool true))/\OldK s₁.heap s'.heap/\s'.os=s₁.os/\AllBare s'.gens) s₁:=by
 have Q:=nP hi
 have lenV:=hi.length
 have core:∀ H:Hp,Dk H->SqL K H a (ns.map V.int)->HOk P w H s₁.heap->(∀ b,H b≠none->b=a)->(H a≠none->K.lookup a=none) ->
   codeAny (model P w) callerA (.call (.ref fa) #[[.ref a],[]]) (λr s'=>r=.ok (.ret (.bool true))/\OldK s₁.heap s'.heap/\s'.os=s₁.os/\AllBare s'.gens) s₁:=by
  intro H L hS hok τ W
  have c:∀ {b:Addr} {o:Obj},s₁.heap.get? b=some o->H b=none->(p9 s₁.heap H).get? b=some o:=λe n=>AB e n
  have G:∀ {b:Addr} {o:Obj} {es:Array DictEntry} {j:Nat},s₁.heap.get? b=some o->o.data=.dict es j->H b=none:=λ{b o es j} e d=>by
   cases q:H b with
   | none=>rfl
   | some u =>
    have I:b=a:=τ b (by rw[q];simp)
    subst I
    rw[B] at e;cases e
    have d':Data.seq vs.toArray _=Data.dict es j:=d
    cases d'
  have g:∀ {b:Addr} {m:Str->Option Value},s₁.heap.Ns b m->(p9 s₁.heap H).Ns b m:=λ{b m} #[o,es,j,e,d,r]=>#[o,es,j,c e (G e d),d,r]
  have p:K.In (p9 s₁.heap H):=λb o e=>c (M b o e) (by
   cases q:H b with
   | none=>rfl
   | some u =>
    have I:b=a:=τ b (by rw[q];simp)
    subst I
    rw[W (by rw[q];simp)] at e;cases e)
  have S:Mod K mg (p9 s₁.heap H):=#[p,g A,#[mb,g f,C],let #[mc,h1,h2]:=y;#[mc,g h1,h2]]
  have X:Env0 P w K mg (p9 s₁.heap H) callerA [] s₁ H:=#[rfl,S,λb o e=>CC e,Nat.le_of_eq (xt _ _),trivial,λb f=>absurd (show b∈([]:List Addr) from f) (by simp),hok,.of_eq T]
  refine codeAny_mono ((F _ p (g A)).run callerA [] s₁ H #[[.ref a],[]] [.ref a] [.ref a] _ _ ρ X (i s₁ (.ref a)) (.cons rfl .nil) (E H L hS)) λr s' h=>?_
  cases r with
  | error e=>exact (D H e s' h).elim
  | ok fl =>
   cases fl with
   | next=>exact False.elim h
   | brk=>exact False.elim h
   | cont=>exact False.elim h
   | ret u =>
    obtain ⟨v,H',os,bare,un,t,φ,q⟩:=h
    have q':v=.bl true:=q
    subst q'
    obtain rfl:u=Value.bool true:=φ
    refine #[rfl,OldK.of_keep λb o e=>?_,os,bare]
    cases q:H b with
    | none=>exact un.keep b o e q (by intro z;exact absurd (show b∈([]:List Addr) from z) (by simp)) (by simp)
    | some u =>
     rcases L b with z | ⟨ob,xs,z⟩
     .rw[q] at z;cases z
     .have σ:=un.frzs b ob _ z
      obtain ⟨e1,_⟩:=hok b _ z
      obtain ⟨R,_⟩:=t b _ σ
      rw[e] at e1;cases e1
      exact R
 cases J:K.lookup a with
 | some o =>
  have e:=M a o J
  rw[B] at e
  cases e
  refine core (λ_=>none) (λ_=>.inl rfl) (.inr #[_,vs.toArray,_,J,rfl,rfl,rfl,by rw[Hl,lenV];exact N,by simpa using Q]) (λb u z=>by have l:(none:Option HO)=some u:=z;cases l) (λb z=>absurd rfl z) λz=>absurd rfl z
 | none =>
  refine core (λb=>if b=a then some (.frz { cls:=.type "list",data:=.seq vs.toArray } (.lst (ns.map V.int))) else none) (λb=>?_) (.inl (.inr #[{ cls:=.type "list",data:=.seq vs.toArray },if_pos rfl])) (λb u z=>?_) (λb z=>?_) λ_=>J
  .by_cases f:b=a
   .exact .inr #[_,_,if_pos f]
   .exact .inl (if_neg f)
  .by_cases f:b=a
   .have l:=(if_pos f).symm.trans z
    cases l
    subst f
    exact #[B,by rw[Hb];exact N,vs,_,Q,B]
   .have l:=(if_neg f).symm.trans z
    cases l
  .by_cases f:b=a
   .exact f
   .exact absurd (if_neg f) z
end L2
namespace L2
open PySem PySem.Spec PyProof.Rows
end L2
namespace L2
open PySem PySem.Spec PyProof.Rows
abbrev CX0:CXT:=λ_ _ _ _ _ _=>False
abbrev E0:XK:=λ_ _ _=>False
theorem pass0:uR CX0 X E0:=λ_ _ _ _ _ _ _ h=>h.elim
structure Fun (K:FG) (x qual:Str) (st:Stmt) (f:Addr) (fd:FuncData):Prop where
 ex:∃ (oc:Value) (od:Option Addr) (kV doc pm:Value) (an:Option Addr) (cdv ct:Value) (osl:Array (Option Value)),
  fd=PySem.W.fnOf x qual (aK st) (aB st) (ad st) .none kV doc pm an cdv ct/\K.lookup f=some #[oc,od,.func fd,osl]/\PySem.W.codeIn K cdv qual=true
 kp:PySem.W.keepIn K (.ref f)=true
section
variable {P:Program} {w:World} {K:FG} {mg:Str->Option Value} {base:Heap}
theorem Fun.ok {st:Stmt} {k:Nat} (F:Fun K x qual st f fd) (S:FnScope N ps (ad st)) (len:∀ c H Q E,sp c H Q E->c.length=ps.length) (b:∀ (a:Value) (A:Around) (outer:List Env) (s:Shared) (H:Hp) (c:List V) (Q:VK) (E:XK),Room k (A.deeper (envOfC qual (ad st) s.heap.objs.size f a))->sp c H Q E ->
   ∃ t,PSs (dN CX0 P w K mg base N qual (ad st) f a A outer s H E).nox (aB st) t/\t { nx:=λ_ H'=>Q .non H',rt:=Q } (gx N c) H):FnOk P w K mg base CX0 (k+1) f fd ps sp:=by
 obtain ⟨m,l,kV,doc,pm,an,a,ct,i,rfl,j,d⟩:=F.ex
 refine DJ j d S len λA outer s H c Q E g e=>?_
 obtain ⟨t,h,q⟩:=b a A outer s H c Q E g e
 exact #[t,h.nox,q]
theorem Fun.binds {st:Stmt} (F:Fun K x qual st f fd) (h:∀ (kV doc pm:Value) (an:Option Addr) (a ct:Value) (us:List Value),us.length=ps.length->bindArgs (PySem.W.fnOf x qual (aK st) (aB st) (ad st) .none kV doc pm an a ct) #[us,[]]=pure (ps.zip us)):Binds K fd ps []:=by
 obtain ⟨e,d,kV,doc,pm,an,a,ct,c,rfl,g,b⟩:=F.ex
 exact .all (h kV doc pm an a ct)
theorem Gr {st:Stmt} {kV doc pm a ct:Value} (l:K.lookup f=some #[oc,od,.func (PySem.W.fnOf x qual (aK st) (aB st) (ad st) .none kV doc pm an a ct),osl]) (c:PySem.W.codeIn K a qual=true) (k:PySem.W.keepIn K (.ref f)=true):Fun K x qual st f (PySem.W.fnOf x qual (aK st) (aB st) (ad st) .none kV doc pm an a ct):=#[#[oc,od,kV,doc,pm,an,a,ct,osl,rfl,l,c],k]
end
theorem hu_of {k:Nat} (a:Room k A):A.units+1 < cLine:=Nat.lt_of_le_of_lt (Nat.add_le_add_left (by decide:1<=64) _) a.units
theorem wx {n:Nat} (h:n<=1000):n < sizeLine:=Nat.lt_of_le_of_lt h (by decide)
def Same (H H':Hp):Prop:=∀ b o,H b=some o->H' b=some o
theorem Same.refl (H:Hp):Same H H:=λ_ _ h=>h
theorem Same.trans (a:Same H H1) (b:Same H1 H2):Same H H2:=λc o h=>b c o (a c o h)
theorem Same.free (e:Same H H') (h:H' l=Option.none):H l=Option.none:=by
 cases q:H l with
 | none=>rfl
 | some o =>
  rw[e l o q] at h
  cases h
end L2
end
section
namespace L2
open PySem PySem.Spec PyProof.Rows
section
variable {prog:Program} {w:World} {A:Around} {E:Value->Shared->Prop} {s:Shared}
theorem qO (ty:s.TypeIs (.ref d) "dict") (h:wpAny (model prog w) A.in1 (dictSet d k v) Q E s) :
  wpAny (model prog w) A (setItem (.ref d) k v) Q E s:=by
 unfold setItem
 refine GW (GU (wpAny_sequenceKey ty (by decide) (GU (wpAny_callSpecial?_slot ty slot_dict_setitem (wpAny_call_entry slot_dict_setitem ty entry_dict_setitem ?_ (args_dict_setitem _ _ _))))))
 refine GU (wpAny_notOrdered_dict ty ?_)
 refine (?_:wpAny _ _ (dictSet d k v >>= _) _ _ s)
 exact GU (wpAny_mono h (λ_ _ z=>GV #[_,rfl,GV z]) λ_ _ z=>z)
theorem nU {c:Int} {b:Nat} {F:Option Nat->Prop} (a:s.heap.get? d=some o) (g:o.ExactDict) (hd:o.data=.dict es b) (hz:es.size<=sizeLine) (find:wpAny (model prog w) A (dictFind d key c) (λr s'=>s'=s/\F r) E s) (old:∀ i h' o',F (some i)->h'.get? d=some o'->o'.ExactDict->o'.data=.dict (es.modify i λe=>{ e with val:=v }) b->Heap.SameBut d s.heap h'->Q () { s with heap:=h' }) (new:∀ h' o',F none->h'.get? d=some o'->o'.ExactDict->o'.data=.dict (es.push #[c,key,v]) (b+1)->Heap.SameBut d s.heap h'->Q () { s with heap:=h' }) :
  wpAny (model prog w) A (dictSetHashed d key c v) Q E s:=by
 unfold dictSetHashed
 refine GW (GU (wpAny_mono find ?_ λ_ _ z=>z))
 rintro (_ | i) _ ⟨rfl,f⟩
 .exact GU (wpAny_rule (wpAny_updateDictKeys (hz:=hz) a hd (new _ _ f (Hs _ a (Obj.isFreed_of_dict (Obj.data_mapDictKeys hd _))) (g.mapDictKeys _) (Obj.data_mapDictKeys hd _) (Heap.SameBut.update ..))))
 .exact GU (wpAny_rule (GU (wpAny_updateDict a hd (wpAny_point (old i _ _ f (Hs _ a (Obj.isFreed_of_dict (Obj.data_mapDict hd _))) (g.mapDict _) (Obj.data_mapDict hd _) (Heap.SameBut.update ..))))))
end
section
variable {prog:Program} {w:World} {K:Type} [DecidableEq K] {A:Around} {E:Value->Shared->Prop} {s:Shared} {d:Addr} {k:K}
section
variable {knd:HeapKind prog w K}
def DictOfHE (knd:HeapKind prog w K) (h:Heap) (d:Addr) (xs:List (K×Addr×Value)):Prop :=
 ∃ o es a,h.get? d=some o/\o.ExactDict/\o.data=.dict es a/\es.toList=xs.map (entryOfKey knd)/\(∀ x∈xs,knd.is h x.1 x.2.1)/\(xs.map (·.1)).Nodup/\a=es.size
theorem DictOfHE.of (x:DictOfHE knd h d xs):h.DictOfH knd d xs:=let #[o,es,a,h1,h2,h3,b,e,c,_]:=x;#[o,es,a,h1,h2,h3,b,e,c]
theorem wV {y:Addr×Value} (b:(xs.map (·.1)).Nodup) (h:k ∉ xs.map (·.1)):((xs++[(k,y)]).map (·.1)).Nodup:=by
 rw[List.map_append]
 exact List.nodup_append.mpr #[b,List.nodup_cons.mpr #[List.not_mem_nil,List.nodup_nil],λx c y a e=>h (by have:=Hy.mp a;subst this;exact e ▸ c)]
theorem nE (hu:knd.room A) (b:knd.is s.heap k a) (hm:DictOfHE knd s.heap d xs) (n:∀ h',DictOfHE knd h' d (storedH xs k a v)->Heap.SameBut d s.heap h'->Q () { s with heap:=h',toks:=s.toks+knd.draws k }) (hsz:xs.length<=sizeLine:=by size_fits):wpAny (model prog w) A (dictSet d (.ref a) v) Q E s:=by
 obtain ⟨o,es,t,m,r,hd,he,c,l,rfl⟩:=hm
 unfold dictSet
 refine GW (GU (knd.pyHash hu b ?_))
 refine nU (s:={ s with toks:=s.toks+knd.draws k }) (F:=λ| none=>∀ (j:Nat) (p:Addr×Value),xs[j]?≠some (k,p) | some j=>∃ p,xs[j]?=some (k,p)) m r hd (size_of_entries he ▸ hsz)
  (wpAny_dictFind_heap (s:={ s with toks:=s.toks+knd.draws k }) hu b m hd he c l (λz=>#[rfl,z]) λj p z=>#[rfl,p,z]) ?_ ?_
 .rintro i h' o' ⟨p,f⟩ g1 g2 g3 h
  have at':=storedH_old (atKey_of_get l f) a v
  refine n h' #[o',_,_,g1,g2,g3,?_,?_,?_,?_] h <;> try rw[at']
  .rw[Array.toList_modify,he]
   exact modify_map_putAt (entryOfKey knd) _ k v (λ_ _=>rfl) l f
  .intro x g
   obtain ⟨y,q,rfl⟩:=Hg.mp g
   have:=knd.keeps (c y q) m hd h
   by_cases e:y.1=k <;> simpa[putAt,e] using this
  .exact (keys_map_putAt xs k v).symm ▸ l
  .exact (Array.size_modify).symm
 .intro h' o' f g1 g2 g3 h
  have at':=storedH_new (atKey_none_of_get f) a v
  refine n h' #[o',_,_,g1,g2,g3,?_,?_,?_,?_] h <;> try rw[at']
  .simp[he,entryOfKey]
  .intro x g
   rcases G9.mp g with g | g
   .exact knd.keeps (c x g) m hd h
   .cases Hy.mp g;exact knd.keeps b m hd h
  .exact wV l (not_mem_keys_of_get f)
  .simp
theorem nq (hu:knd.room A.in1) (b:knd.is s.heap k a) (hm:DictOfHE knd s.heap d xs) (c:∀ h',DictOfHE knd h' d (storedH xs k a v)->Heap.SameBut d s.heap h'->Q () { s with heap:=h',toks:=s.toks+knd.draws k }) (hsz:xs.length<=sizeLine:=by size_fits):wpAny (model prog w) A (setItem (.ref d) (.ref a) v) Q E s :=
 qO hm.of.typeIs (nE (hsz:=hsz) hu b hm c)
end
section
variable {knd:KeyKind prog w K} {key:Value}
theorem mT (a:knd.is k key=true) (hm:DictOfE knd s.heap d kvs) (m:∀ h',DictOfE knd h' d (stored kvs k v)->Heap.SameBut d s.heap h'->Q () { s with heap:=h',toks:=s.toks+1 }) (hsz:kvs.length<=sizeLine:=by size_fits):wpAny (model prog w) A (dictSet d key v) Q E s:=by
 obtain ⟨o,⟨es⟩,t,l,p,hd,j,b,g,rfl⟩:=hm
 have same:=b.findIdx k
 have hz:(#[es]:Array DictEntry).size<=sizeLine:=by have:=b.length;simp at this ⊢;omega
 unfold dictSet
 refine GW (GU (knd.pyHash a ?_))
 refine nU (s:={ s with toks:=s.toks+1 }) (F:=λr=>es.findIdx? (λe=>knd.is k e.key)=r) l p hd hz
  (wpAny_dictFind_of (s:={ s with toks:=s.toks+1 }) a l hd j #[rfl,by simp]) ?_ ?_
 .intro i h' o' f g1 g2 g3 h
  have at':stored kvs k v=_:=if_pos (any_of_findIdx_some (same.symm.trans f))
  refine m h' #[o',_,_,g1,g2,g3,j.modify _ _,?_,?_,(Array.size_modify).symm] h <;> rw[at']
  .simpa using b.modify g f v
  .exact (keys_map_store kvs k v).symm ▸ g
 .intro h' o' f g1 g2 g3 h
  have no:=not_mem_of_findIdx_none (same.symm.trans f)
  have at':stored kvs k v=_:=if_neg λz=>by
   obtain ⟨x,c,e⟩:=List.any_eq_true.mp z
   exact no (Hg.mpr #[x,c,of_decide_eq_true e])
  refine m h' #[o',_,_,g1,g2,g3,j.push a _,?_,?_,by simp] h <;> rw[at']
  .simpa using b.append a (knd.hash k) v
  .rw[List.map_append]
   exact List.nodup_append.mpr #[g,List.nodup_cons.mpr #[List.not_mem_nil,List.nodup_nil],λx c y n e=>no (by cases Hy.mp n;have q:x=k:=e;exact q ▸ c)]
theorem lZ (a:knd.is k key=true) (hm:DictOfE knd s.heap d kvs) (b:∀ h',DictOfE knd h' d (stored kvs k v)->Heap.SameBut d s.heap h'->Q () { s with heap:=h',toks:=s.toks+1 }) (hsz:kvs.length<=sizeLine:=by size_fits):wpAny (model prog w) A (setItem (.ref d) key v) Q E s :=
 qO hm.of.typeIs (mT (hsz:=hsz) a hm b)
end
end
section
variable {κ:Type} [DecidableEq κ]
def lq (kvs:List (κ×V)) (k:κ):Option V:=(kvs.find? λa=>decide (a.1=k)).map (·.2)
def fY (kvs:List (κ×V)) (k:κ) (v:V):List (κ×V) :=
 if (kvs.any λa=>decide (a.1=k))=true then kvs.map (λa=>if a.1=k then (a.1,v) else a) else kvs++[(k,v)]
theorem jz {p:κ×V} {k:κ} (e:p.1=k):lq (p::r) k=some p.2:=by simp[lq,List.find?_cons,e]
theorem jA {p:κ×V} {k:κ} (e:¬ p.1=k):lq (p::r) k=lq r k:=by simp[lq,List.find?_cons,e]
theorem qG (k:κ):∀ kvs:List (κ×V),(kvs.any λa=>decide (a.1=k))=(lq kvs k).isSome
 | []=>rfl
 | p::r=>by
  rw[List.any_cons]
  by_cases e:p.1=k
  .simp only[jz e,Hn e,Bool.true_or,Option.isSome_some]
  .rw[jA e,Ho e,Bool.false_or];exact qG k r
theorem k9 (kvs:List (κ×V)) (k:κ) (v:V):(fY kvs k v).length<=kvs.length+1:=by
 unfold fY
 split
 .rw[Hb];omega
 .rw[Ht,Hu,List.length_nil];omega
theorem RelO.isSome_eq (r:RelO o u):o.isSome=u.isSome:=by
 cases o with
 | none=>cases u with
  | none=>rfl
  | some _=>exact (show False from r).elim
 | some _=>cases u with
  | none=>exact (show False from r).elim
  | some _=>rfl
theorem RelO.getD (r:RelO o u) (a:RelV d d'):RelV (o.getD d) (u.getD d'):=by
 cases o with
 | none=>cases u with
  | none=>exact a
  | some _=>exact (show False from r).elim
 | some _=>cases u with
  | none=>exact (show False from r).elim
  | some _=>exact r
theorem KV.val (r:KV kvs vs) (k:κ):RelO (lq kvs k) (valueAt vs k):=by
 unfold KV at r
 induction r with
 | nil=>exact True.intro
 | @cons p q ps qs h t ih =>
  obtain ⟨h1,h2⟩:=h
  by_cases e:p.1=k
  .have a:q.1=k:=h1.symm.trans e
   have b:valueAt (q::qs) k=some q.2:=by simp[valueAt,List.find?_cons,a]
   rw[jz e,b];exact h2
  .have a:¬ q.1=k:=λz=>e (h1.trans z)
   have b:valueAt (q::qs) k=valueAt qs k:=by simp[valueAt,List.find?_cons,a]
   rw[jA e,b];exact ih
theorem KV.any (r:KV kvs vs) (k:κ):(kvs.any λa=>decide (a.1=k))=vs.any λa=>decide (a.1=k):=by
 unfold KV at r
 induction r with
 | nil=>rfl
 | cons h t ih=>rw[List.any_cons,List.any_cons,ih,h.1]
theorem KV.repl (r:KV kvs vs) (k:κ) (b:RelV y u) :
  KV (kvs.map λa=>if a.1=k then (a.1,y) else a) (vs.map λa=>if a.1=k then (a.1,u) else a):=by
 unfold KV at r ⊢
 induction r with
 | nil=>exact .nil
 | @cons p q ps qs h t ih =>
  rw[Hm,Hm]
  refine .cons ?_ ih
  obtain ⟨h1,h2⟩:=h
  by_cases e:p.1=k
  .rw[if_pos e,if_pos (h1.symm.trans e)];exact #[h1,b]
  .rw[if_neg e,if_neg (λz=>e (h1.trans z))];exact #[h1,h2]
theorem KV.put (r:KV kvs vs) (k:κ) (a:RelV y u):KV (fY kvs k y) (stored vs k u):=by
 unfold fY stored
 rw[r.any k]
 by_cases e:(vs.any λb=>decide (b.1=k))=true
 .rw[if_pos e,if_pos e];exact r.repl k a
 .rw[if_neg e,if_neg e];exact Paired.snoc r #[rfl,a]
theorem KV.length {kvs:List (κ×V)} (r:KV kvs vs):kvs.length=vs.length:=Paired.length r
end
theorem At (r:RelV (kV k) u):(bZ P w).is k u=true:=by
 cases k with
 | inl i=>obtain ⟨t,e⟩:=(show ∃ t,u=Value.int i t from r);subst e;exact rO P w i t
 | inr x=>obtain ⟨t,e⟩:=(show ∃ t,u=Value.str x t from r);subst e;exact rN P w x t
theorem oM:∀ {ks:List Key} {us:List Value},Vals (ks.map kV) us->ItemsAre (bZ P w) ks us
 | [],_,r=>by rw[List.map_nil] at r;cases r;exact .nil
 | k::ks,_,r=>by
  rw[Hm] at r
  cases r with
  | cons h t=>exact .cons (At h) (oM t)
abbrev KT (H:Hp):List (List Key×V)->List (List Key×Addr×Value)->Prop:=Paired λp q=>p.1=q.1/\H q.2.1=some (.tup (p.1.map kV))/\RelV p.2 q.2.2
theorem KT.val (r:KT H kvs xs) (k:List Key):RelO (lq kvs k) ((atKey xs k).map (·.2)):=by
 induction r with
 | nil=>exact True.intro
 | @cons p q ps qs h t ih =>
  obtain ⟨h1,_,h2⟩:=h
  by_cases e:p.1=k
  .have a:q.1=k:=h1.symm.trans e
   have b:atKey (q::qs) k=some q.2:=by simp[atKey,List.find?_cons,a]
   rw[jz e,b];exact h2
  .have a:¬ q.1=k:=λz=>e (h1.trans z)
   have b:atKey (q::qs) k=atKey qs k:=by simp[atKey,List.find?_cons,a]
   rw[jA e,b];exact ih
theorem KT.repl (r:KT H kvs xs) (k:List Key) (b:RelV y u) :
  KT H (kvs.map λa=>if a.1=k then (a.1,y) else a) (xs.map (putAt k u)):=by
 induction r with
 | nil=>exact .nil
 | @cons p q ps qs h t ih =>
  rw[Hm,Hm]
  refine .cons ?_ ih
  obtain ⟨h1,h2,h3⟩:=h
  unfold putAt
  by_cases e:p.1=k
  .rw[if_pos e,if_pos (h1.symm.trans e)];exact #[h1,h2,b]
  .rw[if_neg e,if_neg (λz=>e (h1.trans z))];exact #[h1,h2,h3]
theorem KT.put (r:KT H kvs xs) (k:List Key) (d:H b=some (.tup (k.map kV))) (a:RelV y u) :
  KT H (fY kvs k y) (storedH xs k b u):=by
 have e:(kvs.any λc=>decide (c.1=k))=(atKey xs k).isSome:=by
  rw[qG,(r.val k).isSome_eq,Option.isSome_map]
 unfold fY storedH
 rw[e]
 by_cases q:(atKey xs k).isSome=true
 .rw[if_pos q,if_pos q];exact r.repl k a
 .rw[if_neg q,if_neg q];exact Paired.snoc r #[rfl,d,a]
theorem KT.keeps (r:KT H kvs xs) (a:∀ b ys,H b=some (.tup ys)->H' b=some (.tup ys)):KT H' kvs xs :=
 Paired.mapP r λ_ _ z=>#[z.1,a _ _ z.2.1,z.2.2]
section
variable {P:Program} {w:World} {H:Hp} {h:Heap} {a:Addr}
theorem Du (ok:HOk P w H h) (e:Rd H a u):ObjOk P w H h a u:=e.ok ok
theorem AR (ok:HOk P w H h) (e:Rd H a (.dK kvs)):kvs.length<=sizeLine/\(a == sysModules)=false/\∃ b,KV kvs b/\DictOfE (bZ P w) h a b :=
 show ObjOk P w H h a (.dK kvs) from Du ok e
theorem DM (ok:HOk P w H h) (e:Rd H a (.dK kvs)):kvs.length<=sizeLine/\(a == sysModules)=false/\∃ b,KV kvs b/\h.DictOf (bZ P w) a b:=let #[z,y,b,r,d]:=AR ok e;#[z,y,b,r,d.of]
theorem ui (ok:HOk P w H h) (e:H a=some (.tup (ks.map kV))):(tupleKind (bZ P w)).is h ks a:=by
 obtain ⟨_,its,r,o,h1,h2,n,h3⟩:=(show ObjOk P w H h a (.tup (ks.map kV)) from ok a _ e)
 exact #[o,its.toArray,n,h1,h2,congrArg Prod.fst h3,by simpa using oM r]
theorem AN (ok:HOk P w H h) (e:Rd H a (.dT kvs)):kvs.length<=sizeLine/\(a == sysModules)=false /\
  ∃ xs,KT H kvs xs/\DictOfHE (tupleKind (bZ P w)) h a xs:=by
 obtain ⟨z,y,xs,r,o,es,c,h1,h2,h3,f,d⟩:=(show ObjOk P w H h a (.dT kvs) from Du ok e)
 refine #[z,y,xs,r,o,es,c,h1,h2,h3,f,λx b=>?_,d]
 have all:∀ {l:List (List Key×V)} {m:List (List Key×Addr×Value)},KT H l m->∀ x∈m,(tupleKind (bZ P w)).is h x.1 x.2.1:=by
  intro l m q
  induction q with
  | nil=>intro x b;exact nomatch b
  | @cons p q ps qs hq t ih =>
   intro x b
   rcases G6.mp b with e | b
   .subst e
    exact ui ok (by rw[<- hq.1];exact hq.2.1)
   .exact ih x b
 exact all r x b
theorem DL (ok:HOk P w H h) (e:Rd H a (.dT kvs)):kvs.length<=sizeLine/\(a == sysModules)=false /\
  ∃ xs,KT H kvs xs/\h.DictOfH (tupleKind (bZ P w)) a xs:=let #[z,y,xs,r,d]:=AN ok e;#[z,y,xs,r,d.of]
end
def DGet (H:Hp) (a:Addr) (y:V) (r:Option V):Prop :=
 (∃ kvs k,Rd H a (.dK kvs)/\y=kV k/\r=lq kvs k)\/∃ kvs k b,Rd H a (.dT kvs)/\y=.ref b/\H b=some (.tup (k.map kV))/\r=lq kvs k
def DPut (H:Hp) (a:Addr) (y v:V) (H':Hp):Prop :=
 (∃ kvs k,H a=some (.dK kvs)/\y=kV k/\kvs.length < sizeLine/\H'=upd H a (.dK (fY kvs k v))) \/
 ∃ kvs k b,H a=some (.dT kvs)/\y=.ref b/\H b=some (.tup (k.map kV))/\kvs.length < sizeLine/\H'=upd H a (.dT (fY kvs k v))
theorem DGet.t (e:H a=some (.dT kvs)) (c:H b=some (.tup (k.map kV))):DGet H a (.ref b) (lq kvs k):=.inr #[kvs,k,b,.inl e,rfl,c,rfl]
theorem DPut.t (e:H a=some (.dT kvs)) (c:H b=some (.tup (k.map kV))) (d:kvs.length < sizeLine) :
  DPut H a (.ref b) v (upd H a (.dT (fY kvs k v))):=.inr #[kvs,k,b,e,rfl,c,d,rfl]
section
variable {X:Cx} {pins:List (Addr×Obj)} {Y:St} {H:Hp} {s:Shared} {a:Addr} {y v:V} {u r:Value} {o:Option V} {A:Around} {E:Value->Shared->Prop}
theorem Inv.big (I:Inv X pins Y H s):sysModules < s.heap.objs.size:=by
 have h:mainGlobals < s.heap.objs.size:=(I.mod.glob.keeps I.bk).lt
 exact Nat.lt_trans (by decide) h
theorem xF (hu:A.units+1 < cLine) (I:Inv X pins Y H s) (g:DGet H a y (some v)) (j:RelV y u) (h:∀ d s',Inv X pins Y H s'->RelV v d->Q d s') :
  wpAny (model X.prog X.w) A (getItem (.ref a) u) Q E s:=by
 rcases g with ⟨kvs,k,e,i,l⟩ | ⟨kvs,k,b,e,i,m,l⟩
 .subst i
  obtain ⟨z,hd,n,rel,dd⟩:=DM I.hok e
  obtain ⟨d,hw,c⟩:=RelO.some_of (v:=v) (o:=valueAt n k) (by rw[l];exact rel.val k)
  exact wpAny_getItem_of (At j) dd.mapOf hw (h d _ (I.tok _) c)
 .subst i
  cases (show u=Value.ref b from j)
  obtain ⟨z,hd,xs,rel,dd⟩:=DL I.hok e
  obtain ⟨d,hw,c⟩:=RelO.some_of (v:=v) (o:=(atKey xs k).map (·.2)) (by rw[l];exact rel.val k)
  obtain ⟨p,q,f⟩:=G3.mp hw
  refine wpAny_getItem_heap (tupleKind_room_in1 hu) (ui I.hok m) dd q ?_
  rw[f]
  exact h d _ (I.tok _) c
theorem vV {t':Nat} (I:Inv X pins Y H s) (c:Mut (H a)) (f:Heap.SameBut a s.heap h') (he:∃ q,h'.get? a=some q) (new:ObjOk X.prog X.w (upd H a ob) h' a ob) :
  Inv X pins Y (upd H a ob) { s with heap:=h',toks:=t' } :=
 I.write (x:=a) (e:=a) c (.inl rfl) (λb q d z=>(f.2 b d).trans z) he new
theorem Gx (z:kvs.length<=sizeLine) (hd:(a == sysModules)=false) (rel:KV kvs vs) (dd:DictOfE (bZ P w) h' a vs) :
  ObjOk P w H' h' a (.dK kvs):=#[z,hd,vs,rel,dd]
theorem xE (hu:A.units+1 < cLine) (I:Inv X pins Y H s) (g:DPut H a y v H') (o:RelV y u) (x:RelV v r) (h:∀ s',Inv X pins Y H' s'->Q () s') :
  wpAny (model X.prog X.w) A (setItem (.ref a) u r) Q E s:=by
 rcases g with ⟨kvs,k,e,i,l,m⟩ | ⟨kvs,k,b,e,i,p,l,m⟩
 .subst i m
  obtain ⟨z,hd,D,rel,dd⟩:=AR I.hok (.inl e)
  have hz:D.length<=sizeLine:=by rw[<- rel.length];exact z
  have n:(fY kvs k v).length<=sizeLine:=by have:=k9 kvs k v;omega
  refine lZ (hsz:=hz) (At o) dd λh' d j=>h _ ?_
  have he:∃ q,h'.get? a=some q:=let #[q,_,_,f,_]:=d;#[q,f]
  exact vV I (by rw[e];exact True.intro) j he (Gx n hd (rel.put k x) d)
 .subst i m
  cases (show u=Value.ref b from o)
  obtain ⟨z,hd,xs,rel,dd⟩:=AN I.hok (.inl e)
  have hz:xs.length<=sizeLine:=by rw[<- Paired.length rel];exact z
  have n:(fY kvs k v).length<=sizeLine:=by have:=k9 kvs k v;omega
  refine nq (hsz:=hz) (tupleKind_room_in1 hu) (ui I.hok p) dd λh' d j=>h _ ?_
  obtain ⟨q,es,B,f,h2,h3,F,_,C⟩:=d
  refine vV I (by rw[e];exact True.intro) j #[q,f] #[n,hd,_,(rel.put k p x).keeps λc ys t=>?_,q,es,B,f,h2,h3,F,C]
  rw[aq (ne_of t e (λz=>nomatch z))]
  exact t
end
theorem sC (I:Inv X pins Y H s) (g:DGet H a y o):s.TypeIs (.ref a) "dict":=by
 rcases g with ⟨kvs,k,e,_,_⟩ | ⟨kvs,k,b,e,_,_,_⟩
 .obtain ⟨_,_,c,_,dd⟩:=DM I.hok e
  exact dd.typeIs
 .obtain ⟨_,_,xs,_,dd⟩:=DL I.hok e
  exact dd.typeIs
theorem AO (h:Heap) (a:sysModules < h.objs.size):ObjOk P w H (h.push { cls:=.type "dict",data:=.dict (List.toArray []) }) h.objs.size (.dT []) :=
 #[Nat.zero_le _,beq_eq_false_iff_ne.mpr (Ne.symm (Hk a)),[],.nil,_,(List.toArray []),0,Ha _ rfl,#[rfl,rfl,rfl],rfl,rfl,List.nodup_nil,rfl]
def Ev:TE:=λ_ H Q=>∀ p,H p=none->Q (.ref p) (upd H p (.dT []))
section
variable {X:Cx} {pos:Pos}
theorem zK:PE X (.Dict [] [] pos) Ev:=λpins s Y H Q I h =>
 wpAny_Dict_empty #[.ref s.heap.objs.size,_,I.laid (a:=s.heap.objs.size) (o:=.dT []) (t':=s.toks) (λ_ _ q=>GZ _ q) (Hi _) (AO s.heap I.big),rfl,h _ (I.hok.fresh (Hi _))]
end
end L2
namespace L2
open PySem PySem.Spec PyProof.Rows
end L2
end
section
namespace L2
open PySem PySem.Spec PyProof.Rows
def lC (cells:List (Str×Addr)) (cs:List (Str×Addr)) (x:Str×NameKind):List (Str×Addr) :=
 if x.2 == .free then (match cells.lookup x.1 with | some c=>(x.1,c)::cs | none=>cs) else cs
def clo (cells:List (Str×Addr)) (names:List (Str×NameKind)):List (Str×Addr):=names.foldl (lC cells) []
theorem mM {α β:Type} {f:α->β->Sem (ForInStep β)} {g:β->α->β}:∀ {l:List α} {c:β},(∀ x∈l,∀ c,f x c=pure (.yield (g c x)))->forIn l c f=pure (l.foldl g c)
 | [],c,_=>rfl
 | x::l,c,h=>by
  rw[List.forIn_cons,h x GX,pure_bind]
  exact mM λy a=>h y (GY _ a)
theorem iS (h:∀ x∈scope.names,x.2=.free->∃ c,env.cells.lookup x.1=some c):closureFor scope env=pure (clo env.cells scope.names):=by
 simp only[closureFor]
 rw[mM (g:=lC env.cells) (λx i c=>by
  obtain ⟨n,kind⟩:=x
  unfold lC
  by_cases b:kind=.free
  .subst b
   obtain ⟨a,e⟩:=h _ i rfl
   have d:env.cells.lookup n=some a:=e
   simp[cellOf,d]
  .have f:(kind == NameKind.free)=false:=by simpa using b
   simp[f])]
 rfl
theorem oO:∀ {l:List (Str×NameKind)} {cs:List (Str×Addr)},(∀ y d,cs.lookup y=some d->cells.lookup y=some d)->(l.foldl (lC cells) cs).lookup x=some c->cells.lookup x=some c
 | [],cs,h,e=>h x c e
 | y::l,cs,h,e=>by
  refine oO (l:=l) (cs:=lC cells cs y) (λz d q=>?_) e
  unfold lC at q
  split at q
  .cases b:cells.lookup y.1 with
   | none=>rw[b] at q;exact h z d q
   | some a =>
    rw[b] at q
    simp only[List.lookup_cons] at q
    cases hz:z == y.1 with
    | true=>rw[hz] at q;have:=eq_of_beq hz;subst this;rw[b];exact q
    | false=>rw[hz] at q;exact h z d q
  .exact h z d q
theorem gp (e:(clo cells l).lookup x=some c):cells.lookup x=some c:=oO (λ_ _ q=>by simp at q) e
theorem mO (b:cells.lookup x=some c):∀ {l:List (Str×NameKind)} {cs:List (Str×Addr)},cs.lookup x=some c->(l.foldl (lC cells) cs).lookup x=some c
 | [],_,e=>e
 | y::l,cs,e=>by
  refine mO b (l:=l) (cs:=lC cells cs y) ?_
  unfold lC
  split
  .cases d:cells.lookup y.1 with
   | none=>exact e
   | some a =>
    simp only[List.lookup_cons]
    cases hz:x == y.1 with
    | true=>have:=eq_of_beq hz;subst this;rw[b] at d;exact d.symm
    | false=>exact e
  .exact e
theorem oQ (a:cells.lookup x=some c):∀ {l:List (Str×NameKind)} {cs:List (Str×Addr)},(x,NameKind.free)∈l->(l.foldl (lC cells) cs).lookup x=some c
 | [],_,m=>by simp at m
 | y::l,cs,m=>by
  rcases G6.mp m with rfl | m
  .refine mO a (l:=l) ?_
   simp[lC,a]
  .exact oQ a (l:=l) (cs:=lC cells cs y) m
theorem vW (a:cells.lookup x=some c) (m:(x,NameKind.free)∈l):(clo cells l).lookup x=some c:=oQ a m
theorem jM {env:Env}:∀ {names:List (Str×NameKind)} {x:Str},names.lookup x=some .free ->
  (names.map λ(n,k)=>if (k == NameKind.free && env.scope.kind == .function && env.kindOf n == some .cell) then (n,NameKind.cell) else (n,k)).lookup x=some .cell \/
  (names.map λ(n,k)=>if (k == NameKind.free && env.scope.kind == .function && env.kindOf n == some .cell) then (n,NameKind.cell) else (n,k)).lookup x=some .free
 | [],_,h=>by simp at h
 | (n,k)::r,x,h=>by
  have b:=@jM env r x
  show List.lookup x ((if (k == NameKind.free && env.scope.kind == .function && env.kindOf n == some .cell)=true then (n,NameKind.cell) else (n,k))::_)=_ \/
   List.lookup x ((if (k == NameKind.free && env.scope.kind == .function && env.kindOf n == some .cell)=true then (n,NameKind.cell) else (n,k))::_)=_
  cases a:x == n with
  | true =>
   simp only[List.lookup_cons,a] at h
   cases h
   split
   .left;simp[List.lookup_cons,a]
   .right;simp[List.lookup_cons,a]
  | false =>
   simp only[List.lookup_cons,a] at h
   split
   .simp only[List.lookup_cons,a];exact b h
   .simp only[List.lookup_cons,a];exact b h
theorem me {env:Env}:∀ {names:List (Str×NameKind)} {x:Str},
  ((names.map λ(n,k)=>if (k == NameKind.free && env.scope.kind == .function && env.kindOf n == some .cell) then (n,NameKind.cell) else (n,k)).lookup x=some .cell \/
  (names.map λ(n,k)=>if (k == NameKind.free && env.scope.kind == .function && env.kindOf n == some .cell) then (n,NameKind.cell) else (n,k)).lookup x=some .free)->(x,NameKind.free)∈names\/(x,NameKind.cell)∈names
 | [],_,h=>by simp at h
 | (n,k)::r,x,h=>by
  have b:=@me env r x
  have h':List.lookup x ((if (k == NameKind.free && env.scope.kind == .function && env.kindOf n == some .cell)=true then (n,NameKind.cell) else (n,k))::(r.map λ(n,k)=>if (k == NameKind.free && env.scope.kind == .function && env.kindOf n == some .cell) then (n,NameKind.cell) else (n,k)))=some .cell \/
   List.lookup x ((if (k == NameKind.free && env.scope.kind == .function && env.kindOf n == some .cell)=true then (n,NameKind.cell) else (n,k))::(r.map λ(n,k)=>if (k == NameKind.free && env.scope.kind == .function && env.kindOf n == some .cell) then (n,NameKind.cell) else (n,k)))=some .free:=h
  cases a:x == n with
  | true =>
   have e:=eq_of_beq a
   subst e
   by_cases hf:k=.free
   .subst hf;exact .inl GX
   .have c:(k == NameKind.free)=false:=by simpa using hf
    simp[c,List.lookup_cons] at h'
    rcases h' with q | q
    .subst q;exact .inr GX
    .exact (hf q).elim
  | false =>
   refine (b ?_).imp (GY _) (GY _)
   split at h'
   .simpa only [List.lookup_cons,a] using h'
   .simpa only [List.lookup_cons,a] using h'
theorem mV {x:Str} {c:Addr}:∀ {names:List (Str×NameKind)} {n:Nat} {acc:List (Str×Addr)},(cellsFrom n names acc).lookup x=some c->n<=c\/acc.lookup x=some c
 | [],_,_,h=>.inr h
 | (y,k)::r,n,acc,h=>by
  unfold cellsFrom at h
  split at h
  .rcases mV h with q | q
   .exact .inl (Nat.le_of_succ_le q)
   .rw[List.lookup_cons] at q
    split at q
    .cases q;exact .inl (Hi _)
    .exact .inr q
  .exact mV h
theorem AY {x:Str} {c:Addr} {lo:Nat}:∀ {names:List (Str×NameKind)} {n:Nat} {acc:List (Str×Addr)},lo<=n->((x,NameKind.cell)∈names\/∀ d,acc.lookup x=some d->lo<=d)->(cellsFrom n names acc).lookup x=some c->lo<=c
 | [],_,_,_,m,h=>m.elim (λm=>by simp at m) λm=>m c h
 | (y,k)::r,n,acc,hl,m,h=>by
  unfold cellsFrom at h
  split at h
  .refine AY (Nat.le_succ_of_le hl) ?_ h
   by_cases e:x=y
   .refine .inr λd hd=>?_
    rw[List.lookup_cons,beq_iff_eq.mpr e] at hd
    cases hd;exact hl
   .refine m.imp (λm=>(G6.mp m).resolve_left λz=>e (Prod.mk.inj z).1) λm d hd=>m d ?_
    rw[List.lookup_cons,beq_false_of_ne e] at hd
    exact hd
  .rename_i a
   exact AY hl (m.imp_left λm=>(G6.mp m).resolve_left λz=>a (by rw[<- (Prod.mk.inj z).2];rfl)) h
theorem uy {x:Str}:∀ {names:List (Str×NameKind)} {n:Nat} {acc:List (Str×Addr)},(x,NameKind.cell) ∉ names->(cellsFrom n names acc).lookup x=acc.lookup x
 | [],_,_,_=>rfl
 | (y,k)::r,n,acc,h=>by
  have h2:(x,NameKind.cell) ∉ r:=λm=>h (GY _ m)
  unfold cellsFrom
  split
  .rename_i a
   rw[uy h2,List.lookup_cons,beq_false_of_ne λe=>h (by rw[e,<- eq_of_beq a];exact GX)]
  .exact uy h2
theorem uz:∀ {names:List (Str×NameKind)} {n:Nat} {acc:List (Str×Addr)},(∀ x y c,acc.lookup x=some c->acc.lookup y=some c->x=y)->(∀ x c,acc.lookup x=some c->c < n)->∀ x y c,(cellsFrom n names acc).lookup x=some c->(cellsFrom n names acc).lookup y=some c->x=y
 | [],_,_,h,_=>h
 | (z,k)::r,n,acc,h,hl=>by
  unfold cellsFrom
  split
  .refine uz (λx y c e1 a=>?_) λx c e=>?_
   .rw[List.lookup_cons] at e1 a
    cases b:x == z <;> cases d:y == z <;> rw[b] at e1 <;> rw[d] at a
    .exact h x y c e1 a
    .cases a;exact absurd (hl _ _ e1) (Nat.lt_irrefl _)
    .cases e1;exact absurd (hl _ _ a) (Nat.lt_irrefl _)
    .rw[eq_of_beq b,eq_of_beq d]
   .rw[List.lookup_cons] at e
    split at e
    .cases e;exact Nat.lt_succ_self _
    .exact Nat.lt_succ_of_lt (hl x c e)
  .exact uz h hl
theorem qk:∀ {names:List (Str×NameKind)} {h:Heap} {acc:List (Str×Addr)},(∀ x c,acc.lookup x=some c->∃ v,h.IsCell c v)->∀ x c,(cellsFrom h.objs.size names acc).lookup x=some c->∃ v,(pushCells h names).IsCell c v
 | [],_,_,h=>h
 | (z,k)::r,hp,acc,h=>by
  unfold cellsFrom pushCells
  split
  .have:=qk (names:=r) (h:=hp.push { cls:=.type "cell",data:=.cell none }) (acc:=(z,hp.objs.size)::acc) λx c e=>by
    rw[List.lookup_cons] at e
    split at e
    .cases e;exact #[none,_,Ha _ rfl,rfl]
    .obtain ⟨v,q⟩:=h x c e
     exact #[v,q.keeps λb o e=>GZ _ e]
   rwa [HC] at this
  .exact qk h
theorem nh {M:Model} {A:Around} {E:Value->Shared->Prop} {s:Shared} {scope:Scope} {globals:Addr} {cl:List (Str×Addr)} {qual:Str} {env:Env} {Q:Env->Shared->Prop}
  (h:Q (newEnv scope s.heap.objs.size globals (cellsFrom (s.heap.objs.size+1) scope.names cl) qual none .none (some env) builtinsNs) { s with heap:=pushCells (s.heap.push { cls:=.type "dict",data:=.dict (List.toArray []) }) scope.names }) :
  wpAny M A (newFunctionEnv scope globals cl [] qual none .none (some env)) Q E s:=by
 simp only[newFunctionEnv,Option.isSome_some,if_true]
 refine GU (wpAny_alloc ?_)
 refine GU (wpAny_layCells _ (λname kind cells=>by cases a:kind == NameKind.cell <;> simp[a]) _ _ _ _ ?_)
 rw[show ({ s with heap:=s.heap.push { cls:=.type "dict",data:=.dict (List.toArray []) } }:Shared).heap.objs.size=s.heap.objs.size+1 from HC ..]
 exact GU (by rw[List.forIn_nil];exact GV (GV h))
abbrev lR (X:Cx) (scope:Scope) (C:Addr):List (Str×Addr):=cellsFrom (C+1) scope.names (clo X.env.cells scope.names)
def aM (X:Cx) (NY:List Str) (scope:Scope) (s:Shared) (H:Hp) (C:Addr) (fp:List Addr):Cx where
 prog:=X.prog
 w:=X.w
 K:=X.K
 mg:=X.mg
 base:=X.base
 A:=X.A
 N:=NY
 s₀:=s
 H₀:=H
 env:=compEnvC scope (lR X scope C) C X.env
 outer:=X.stack
 stack:=X.stack
 ex:=fp
 fn:=λx=>scope.names.lookup x == some .cell
 calm:=X.calm
 pn:=[]
 xe:=λ_ _=>False
def cap (ix:List (Option Nat)) (Y:St):St:=ix.map λo=>match o with | some i=>(Y[i]?).getD none | none=>none
def iP (sc:Scope) (b:List Str) (a:Scope) (NY:List Str) (ix:List (Option Nat)):Bool :=
 sc.kind == .function && sc.names.all (λy=>y.2 != .cell || sc.names.lookup y.1 == some .cell) && sc.names.all (λy=>y.2 != .local || sc.names.lookup y.1 == some .local) && sc.names.all (λy=>y.2 != .free || sc.names.lookup y.1 == some .free)
  && sc.names.all (λy=>y.2 != .free || (a.names.lookup y.1 == some .cell || a.names.lookup y.1 == some .free))
  && ix.length == NY.length && (NY.zip ix).all λp=>match p.2 with | none=>true | some i=>(b[i]? == some p.1) && sc.names.contains (p.1,NameKind.free)
structure CompOk (sc:Scope) (XN:List Str) (Xsc:Scope) (NY:List Str) (ix:List (Option Nat)):Prop where
 kind:sc.kind=.function
 cel:∀ y∈sc.names,y.2=.cell->sc.names.lookup y.1=some .cell
 loc:∀ y∈sc.names,y.2=.local->sc.names.lookup y.1=some .local
 fre:∀ y∈sc.names,y.2=.free->sc.names.lookup y.1=some .free
 out:∀ y∈sc.names,y.2=.free->Xsc.names.lookup y.1=some .cell\/Xsc.names.lookup y.1=some .free
 len:ix.length=NY.length
 cap:∀ (j:Nat) x i,NY[j]?=some x->ix[j]?=some (some i)->XN[i]?=some x/\(x,NameKind.free)∈sc.names
theorem CompOk.of (h:iP sc XN Xsc NY ix=true):CompOk sc XN Xsc NY ix:=by
 simp only[iP,Bool.and_eq_true,List.all_eq_true,beq_iff_eq] at h
 obtain ⟨⟨⟨⟨⟨⟨h1,h2⟩,h3⟩,c⟩,g⟩,f⟩,b⟩:=h
 refine #[h1,λy a e=>?_,λy a e=>?_,λy a e=>?_,λy a e=>?_,f,λj x i e1 d=>?_]
 .have:=h2 y a;rw[e] at this;simpa using this
 .have:=h3 y a;rw[e] at this;simpa using this
 .have:=c y a;rw[e] at this;simpa using this
 .have:=g y a;rw[e] at this;simpa using this
 .have m:(x,some i)∈NY.zip ix:=by
   refine He (i:=j) ?_
   rw[List.getElem?_zip_eq_some]
   exact #[e1,d]
  have:=b _ m
  simpa using this
section
variable {X:Cx}
theorem FpOk.of_upd (f:FpOk X pins H b) (h:b≠D):FpOk X pins (upd H D o) b:=#[by rw[aq h];exact f.1,f.2]
theorem HOk.track (x:HOk P w H h) (d:H a=none) (new:ObjOk P w (upd H a o) h a o):HOk P w (upd H a o) h:=λb u e=>by
 by_cases f:b=a
 .subst f;rw[aE] at e;cases e;exact new
 .rw[aq f] at e
  exact (x b u e).stay (λc v _ q=>q) (λc q=>by rw[aq (aN q d)];exact q) λc xs q=>by rw[aq (aN q d)];exact q
def PTs (σ:Cx) (ifs:List Expr) (t:TT):Prop :=
 ∀ (pins:List (Addr×Obj)) (s:Shared) (Y:St) (H:Hp) (Q:Bool->Hp->Prop),Inv σ pins Y H s->t Y H Q ->
  wpAny (model σ.prog σ.w) σ.A (forIn ifs true λc r=>if r=true then do let ok <- isTrue c σ.env (eval c σ.env);pure (ForInStep.yield ok) else pure (ForInStep.yield r)) (TP σ pins Y Q) σ.xe s
def tYes:TT:=λ_ H Q=>Q true H
theorem Ci:PTs σ [] tYes:=λpins s Y H Q I h=>wpAny_tests_nil #[H,I,h]
theorem Ch (h:PT σ c t):PTs σ [c] t:=λpins s Y H Q I q=>wpAny_tests_one (h pins s Y H Q I q)
def sU (J:It) (g:TG) (tc:TT) (te:TE) (ρ:List V->Hp->Prop) (O0:St) (H1:Hp):Prop :=
 ∃ W:Nat->Nat->List V->St->Hp->Prop,(∃ m,W 0 m [] O0 H1)/\∀ i m ys O H,W i m ys O H->ys.length < sizeLine /\
  ((J.stop i H/\ρ ys H)\/(J.go i H/\∃ N:List V->St->Hp->Prop,(∀ a O' H',N a O' H'->∃ d,d < m/\W (i+1) d a O' H')/\∀ x H',J.yld i H x H'->g x O H' λO2 H2=>tc O2 H2 λb c =>
   if b=true then te O2 c λy e=>N (ys++[y]) O2 e else N ys O2 c))
def Dq (a:TI) (g:TG) (tc:TT) (te:TE) (ix:List (Option Nat)):TE:=λY H Q =>
 a Y H λJ H1=>sU J g tc te (λys H2=>∀ p,H2 p=none->Q (.ref p) (upd H2 p (.lst ys))) (cap ix Y) H1
theorem ux (d:CompOk scope X.N X.env.scope NY ix) (I:Inv X pins Y H s) (f:∀ b∈fp,FpOk X pins H b) (j:s.heap.objs.size<=C) (t:∀ b∈fp,b < s.heap.objs.size) (R:s4.os=s.os) (E:s4.gens=s.gens) (keep:∀ b o,s.heap.get? b=some o->s4.heap.get? b=some o) (ns:s4.heap.Ns C λ_=>none) (A:∀ x c,(lR X scope C).lookup x=some c->∃ v,s4.heap.IsCell c v):Inv (aM X NY scope s H C fp) [] (cap ix Y) H s4:=by
 have L:FpOk X pins H C:=I.fpOk j (I.hok.fresh j)
 have sb:∀ x c,(lR X scope C).lookup x=some c->C+1<=c\/X.env.cells.lookup x=some c:=λx c e=>(mV e).imp_right gp
 have lt:∀ x c,X.env.cells.lookup x=some c->c < s.heap.objs.size:=λx c e=>let #[_,q]:=I.cell x c e;q.lt
 have n:∀ x,(x,NameKind.free)∈scope.names->∃ c,X.env.cells.lookup x=some c:=λx m=>by
  rcases d.out _ m rfl with q | q
  .exact I.ok.has x (.inl q)
  .exact I.ok.has x (.inr q)
 refine ⟨⟨I.ok.mod,d.kind,I.ok.glob,I.ok.blt,j,uz (λx y c e1 w=>I.ok.inj x y c (gp e1) (gp w)) (λx c e=>Nat.lt_succ_of_le (HE (Nat.le_of_lt (lt x c (gp e))) j)),λx D=>?_,λx c e h=>HE j (Nat.le_of_succ_le (AY (Hi _) (.inl (PySem.mem_of_lookup (eq_of_beq e))) h)),λe=>I.ok.hd e,I.ok.frames,.inl rfl,λb g=>⟨Hk (Hq (t b g) j),λx c e=>(sb x c e).elim (λz=>Nat.ne_of_gt (Hq (t b g) (HE j (Nat.le_of_succ_le z)))) λz=>(f b g).2.2.2.2.1 x c z⟩,
  I.bs,HE I.ok.bsz I.sz,λb o e g=>?_,λb g hz=>?_,I.stack,I.stkFree⟩,R,by rw[E];exact I.bare,Un.kept keep,⟨_,ns,λi x v e1 w T=>?_⟩,A,L.1,λx c e=>(sb x c e).elim (λz=>I.hok.fresh (HE j (Nat.le_of_succ_le z))) λz=>I.freeC x c z,λp F=>absurd (show p∈([]:List (Addr×Obj)) from F) (by simp),I.hok.kept keep,?_⟩
 .refine Option.isSome_iff_exists.mp (PySem.W.cellsFrom_some _ _ _ ?_)
  rcases me D with m | m
  .obtain ⟨c,e⟩:=n x m
   exact .inr (by rw[vW e m];rfl)
  .exact .inl (d.cel _ m rfl)
 .rcases (f b g).2.2.2.1 with z | z
  .exact I.ok.noex b o e z
  .exact absurd (Hq (G8 e) (HE I.ok.bsz z)) (Nat.lt_irrefl _)
 .rcases G6.mp (I.stkSub b hz) with e | e
  .exact (f b g).2.1 e
  .exact (f b g).2.2.1 e
 .-- a captured name
  have q:∃ k,ix[i]?=some (some k)/\Y[k]?=some (some v):=by
   unfold cap at w
   grind
  obtain ⟨k,K,ev⟩:=q
  obtain ⟨τ,m⟩:=d.cap i x k e1 K
  obtain ⟨φ,S,Q⟩:=I.loc
  have G:Vis X.env.scope x:=by
   rcases d.out _ m rfl with q | q
   .exact .inr (.inl q)
   .exact .inr (.inr q)
  obtain ⟨u,r,l⟩:=Q k x v τ ev G
  refine #[u,r,.inr ?_]
  rcases l with ⟨B,_⟩ | ⟨_,c,P,J⟩
  .exfalso
   rcases d.out _ m rfl with q | q
   .have:=B.symm.trans q;cases this
   .have:=B.symm.trans q;cases this
  .obtain ⟨o,M,hd⟩:=J
   exact #[jM (d.fre _ m rfl),c,(uy λz=>by have h1:scope.names.lookup x=_:=d.cel _ z rfl;rw[show scope.names.lookup x=_ from d.fre _ m rfl] at h1;cases h1).trans (vW P m),o,keep c o M,hd]
 .show (cap ix Y).length=NY.length
  unfold cap
  rw[Hb]
  exact d.len
theorem iR (I:Nat->Shared->Prop) (turn:∀ n s,I n s->wpAny (model prog w) A (pyNext it) (λr b=>match r with
   | none=>R (.ok .next) b
   | some v=>wpAny (model prog w) A (letOwnedTupleGo target it v) (λ_ a=>wpAny (model prog w) A (assign target env v) (λ_ j =>
     wpAny (model prog w) A (forIn ifs true λc r=>if r=true then do let ok <- isTrue c env (eval c env);pure (ForInStep.yield ok) else pure (ForInStep.yield r)) (λok d =>
      if ok=true then wpAny (model prog w) A (eval elt env) (λx i =>
       wpAny (model prog w) A (call (.builtin "list.append") [acc,x]) (λ_ k=>∃ m,m < n/\I m k) (λ_ _=>False) i) (λ_ _=>False) d
      else ∃ m,m < n/\I m d) (λ_ _=>False) j) (λ_ _=>False) a) (λ_ _=>False) b) (λ_ _=>False) s) (n:Nat) (h:I n s) :
  codeAny (model prog w) A (.compLoop (.ListComp elt [#[target,iter,ifs,0]] scope pos) 0 it acc env) R s:=by
 refine codeAny_loop rfl I (λn s p=>?_) n h
 show wpAny _ A ((compTurn (.ListComp elt [#[target,iter,ifs,0]] scope pos) 0 it acc env).onRaise (λx=>do noteFrame x env;theTreesLotGoes x)) _ _ s
 refine wpAny_noted ?_
 rw[compTurn_list]
 refine GU (wpAny_standAt (GU (wpAny_mono (turn n s p) (λr b f=>?_) λ_ _ h'=>h'.elim)))
 cases r with
 | none=>exact GV f
 | some v =>
  refine GU (wpAny_mono f (λ_ a e=>?_) λ_ _ h'=>h'.elim)
  refine GU (wpAny_mono e (λ_ j q=>GU (wpAny_mono q (λok d g=>?_) λ_ _ h'=>h'.elim)) λ_ _ h'=>h'.elim)
  cases ok with
  | false=>exact GV #[rfl,g]
  | true =>
   exact GU (GU (wpAny_mono g (λx i l=>GU (wpAny_mono l (λ_ k o=>GV (GV #[rfl,o])) λ_ _ h'=>h'.elim)) λ_ _ h'=>h'.elim))
theorem sG {RR:Value->Addr->Result->Shared->Prop} (hc:X.calm=true) (ck:CompOk scope X.N X.env.scope NY ix) (hg:∀ s H C fp,PG (aM X NY scope s H C fp) tg g) (ht:∀ s H C fp,PTs (aM X NY scope s H C fp) ifs tc) (he:∀ s H C fp,PE (aM X NY scope s H C fp) elt te) (I:Inv X pins Y H s) (T:Turn X.prog X.w X.K tg J fp it tn) (st:tn 0 s.heap) (f:∀ b∈fp,FpOk X pins H b) (hW:sU J g tc te ρ (cap ix Y) H) (c4:∀ D C s' ys H' m,s'.heap.Ns C m->H' D=none->FpOk X pins (upd H' D (.lst ys)) C->Inv X pins Y (upd H' D (.lst ys)) s'->ρ ys H'->RR (.ref D) C (.ok .next) s') :
  wpAny (model X.prog X.w) X.A (newList []) (λacc s₃=>wpAny (model X.prog X.w) X.A (newFunctionEnv scope X.env.globals (clo X.env.cells scope.names) [] X.env.qual none .none (some X.env)) (λt s₄ =>
   codeAny (model X.prog X.w) X.A (.compStart (.ListComp elt [#[tg,iter,ifs,0]] scope pos) 0 (.ref it) acc { t with scope:=relabel scope X.env }) (RR acc t.locals) s₄) E s₃) E s:=by
 obtain ⟨W,⟨m0,w0⟩,turn⟩:=hW
 refine wpAny_newObj_type (nh ?_)
 dsimp only
 generalize Q:s.heap.push { cls:=.type "list",dict:=none,data:=.seq ([]:List Value).toArray }=H2
 have bb:H2.objs.size=s.heap.objs.size+1:=by rw[<- Q,HC]
 have L:s.heap.objs.size≠H2.objs.size:=by rw[bb];exact Hk (Nat.lt_succ_self _)
 have j:s.heap.objs.size<=H2.objs.size:=by rw[bb];exact Nat.le_succ _
 generalize F:s.heap.objs.size=D at *
 generalize hC:H2.objs.size=C at *
 have below:∀ b o,s.heap.get? b=some o->b < D:=λb o e=>by rw[<- F];exact G8 e
 have kp:∀ b o,H2.get? b=some o->(pushCells (H2.push { cls:=.type "dict",data:=.dict (List.toArray []) }) scope.names).get? b=some o:=λb o e=>pushCells_keeps _ _ b o (GZ _ e)
 have B:∀ b o,s.heap.get? b=some o->H2.get? b=some o:=λb o e=>Q ▸ GZ _ e
 have bt:∀ x c,(lR X scope C).lookup x=some c->∃ v,(pushCells (H2.push { cls:=.type "dict",data:=.dict (List.toArray []) }) scope.names).IsCell c v:=by
  have:=qk (names:=scope.names) (h:=H2.push { cls:=.type "dict",data:=.dict (List.toArray []) }) (acc:=clo X.env.cells scope.names) λx c e=>let #[v,q]:=I.cell x c (gp e);#[v,q.keeps λb o e=>GZ _ (B b o e)]
  rwa [HC,hC] at this
 have hns₁:(pushCells (H2.push { cls:=.type "dict",data:=.dict (List.toArray []) }) scope.names).Ns C λ_=>none:=hC ▸ (Heap.Ns.new H2 (.type "dict")).keeps (pushCells_keeps _ _)
 generalize pushCells (H2.push { cls:=.type "dict",data:=.dict (List.toArray []) }) scope.names=h₁ at kp bt hns₁ ⊢
 have old:∀ b o,s.heap.get? b=some o->h₁.get? b=some o:=λb o e=>kp b o (B b o e)
 have M:H2.get? D=some { cls:=.type "list",dict:=none,data:=.seq ([]:List Value).toArray }:=by
  rw[<- Q,<- F];exact Ha _ rfl
 have ar:h₁.PlainList D (List.toArray []):=#[_,kp _ _ M]
 have ae:∀ b∈fp,b < s.heap.objs.size:=λb a=>by
  obtain ⟨o,e,_⟩:=T.obj 0 _ st b a
  exact G8 e
 have k:∀ b∈fp,b < D:=λb a=>by rw[<- F];exact ae b a
 have IY:Inv (aM X NY scope s H C fp) [] (cap ix Y) H { s with heap:=h₁ } :=
  ux ck I f (by rw[F];exact j) ae rfl rfl old hns₁ bt
 have c0:H D=none:=I.hok.fresh (by rw[F];exact Hi _)
 have l:∀ b∈frs X.stack,b < D:=λb a=>by
  obtain ⟨_,o,ho,_⟩:=I.stack.mem a
  exact below b o ho
 have loop:∀ s₃:Shared,s₃={ s with heap:=h₁ } ->
   codeAny (model X.prog X.w) X.A (.compLoop (.ListComp elt [#[tg,iter,ifs,0]] scope pos) 0 (.ref it) (.ref D) (aM X NY scope s H C fp).env) (RR (.ref D) C) s₃:=by
  rintro s₃ rfl
  refine iR (λn s'=>∃ i ys O H' its,Inv (aM X NY scope s H C fp) [] O H' s'/\H' D=none/\s'.heap.PlainList D its/\Vals ys its.toList/\tn i s'.heap/\(∀ b∈fp,H' b=none)/\W i n ys O H') ?_ m0
   #[0,[],cap ix Y,H,(List.toArray []),IY,c0,ar,.nil,T.keep _ _ _ st λb _ o e=>old b o e,λb a=>(f b a).1,w0]
  rintro n s3 ⟨i,ys,O,S,its,I3,d3,l3,v3,σ,az,w3⟩
  obtain ⟨nl,e3⟩:=id l3
  have a6:Inv (aM X NY scope s H C fp) [(D,{ cls:=.type "list",data:=.seq its nl })] O S s3:=I3.pins_of λp φ=>by
   have e:p=(D,{ cls:=.type "list",data:=.seq its nl }):=by simpa using φ
   subst e
   exact #[e3,d3,L,λz=>Nat.lt_irrefl _ (l D z),λv z=>by cases z]
  have τ:∀ {H':Hp} {pl:List (Addr×Obj)},(∀ b∈fp,H' b=none)->(∀ p∈pl,p.1=D)->∀ b∈fp,FpOk (aM X NY scope s H C fp) pl H' b:=λhn φ b a =>
   ⟨hn b a,Hk (Hq (k b a) j),λz=>by
    rcases G6.mp (I.stkSub b z) with e | e
    .exact (f b a).2.1 e
    .exact (f b a).2.2.1 e,.inl a,λx c e=>(mV e).elim (λz=>Nat.ne_of_gt (Hq (k b a) (HE j (Nat.le_of_succ_le z)))) λz=>(f b a).2.2.2.2.1 x c (gp z),λp c3=>by
    have e:p.1=D:=φ p ((G9.mp c3).elim (λz=>absurd (show p∈([]:List (Addr×Obj)) from z) (by simp)) λz=>z)
    rw[e]
    exact Nat.ne_of_gt (k b a)⟩
  obtain ⟨zl,step⟩:=turn i n ys O S w3
  have single:∀ p∈[(D,({ cls:=.type "list",data:=.seq its nl }:Obj))],p.1=D:=λp φ=>by
   have e:p=(D,{ cls:=.type "list",data:=.seq its nl }):=by simpa using φ
   rw[e]
  rcases step with ⟨stop,qn⟩ | ⟨go,N,hN,step⟩
  .refine wpAny_mono (T.done (aM X NY scope s H C fp) rfl rfl rfl hc i _ s3 O S (λ_ _=>False) a6 (τ az single) σ stop) (λr s4 #[hr,R]=>?_) λ_ _ e=>e
   subst hr
   obtain ⟨mC,cm,_⟩:=id R.loc
   obtain ⟨e4,V,_⟩:=R.pin (D,{ cls:=.type "list",data:=.seq its nl }) (by simp[aM])
   have b4:∀ b o,s.heap.get? b=some o->b≠D:=λb o e=>Hk (below b o e)
   have G:=R.base
   refine c4 D C s4 ys S mC cm V ?_ ?_ qn
   .exact (I.fpOk (by rw[F];exact j) (by exact R.free)).of_upd (Ne.symm L)
   .refine I.call' (ch:=fp) R.os (H':=upd S D (.lst ys)) #[G.keep,G.slot,λb o e n hx=>?_,G.there,λb xs e=>?_,λb o u e=>?_,λb ps e=>?_] ?_ R.bare λb a=>?_
    .rw[aq (b4 b o e)];exact G.free b o e n hx
    .have q:=G.tups b xs e;rw[aq (aN q V)];exact q
    .have q:=G.frzs b o u e;rw[aq (aN q V)];exact q
    .obtain ⟨more,q⟩:=G.tbls b ps e;exact #[more,by rw[aq (aN q V)];exact q]
    .exact R.hok.track V #[Nat.le_of_lt zl,its.toList,nl,v3,by simpa using e4]
    .exact #[(f b a).2.2.2.1,(f b a).2.1,(f b a).2.2.2.2.1,(f b a).2.2.2.2.2]
  .refine wpAny_mono (T.item (aM X NY scope s H C fp) rfl rfl rfl hc i _ s3 O S (λ_ _=>False) a6 (τ az single) σ go) (λr s4 #[u,hr,h4]=>?_) λ_ _ e=>e
   subst hr
   refine wpAny_mono h4 (λ_ s5 #[x,H5,I5,r5,y5,P,cv]=>?_) λ_ _ e=>e
   have b3:=I5.pinned (τ cv single) (T.obj _ _ P)
   refine wpAny_mono (hg s H C fp _ s5 O H5 x u _ b3 r5 (step x H5 y5)) (λ_ s6 #[O6,H6,I6,q6]=>?_) λ_ _ e=>e
   refine wpAny_mono (ht s H C fp _ s6 O6 H6 _ I6 q6) (λb s7 #[H7,I7,q7]=>?_) λ_ _ e=>e
   have after:∀ {s':Shared} {H':Hp},Inv (aM X NY scope s H C fp) ([(D,{ cls:=.type "list",data:=.seq its nl })]++mj fp s5.heap) O6 H' s'->tn (i+1) s'.heap/\(∀ b∈fp,H' b=none)/\H' D=none/\s'.heap.PlainList D its:=λ{s' H'} I' =>
    ⟨T.keep _ _ _ P λb a o e=>(I'.pin (b,o) (G5 _ (G5 _ (gc a e)))).1,λb a=>by
     obtain ⟨o,e,d⟩:=T.obj _ _ P b a
     exact (I'.pin (b,o) (G5 _ (G5 _ (gc a e)))).2.1,(I'.pin (D,_) (G5 _ (G4 _ (Hy.mpr rfl)))).2.1,
     nl,(I'.pin (D,_) (G5 _ (G4 _ (Hy.mpr rfl)))).1⟩
   cases b with
   | false =>
    rw[if_neg Hj]
    rw[if_neg Hj] at q7
    obtain ⟨m',hm,w7⟩:=hN _ _ _ q7
    obtain ⟨a1,a2,a3,a4⟩:=after I7
    exact #[m',hm,i+1,ys,O6,H7,its,I7.pins_of (λ_ z=>absurd z (by simp)),a3,a4,v3,a1,a2,w7]
   | true =>
    rw[if_pos rfl]
    rw[if_pos rfl] at q7
    refine wpAny_mono (he s H C fp _ s7 O6 H7 _ I7 q7) (λy s8 #[yv,H8,I8,r8,n8]=>?_) λ_ _ e=>e
    obtain ⟨m',hm,w8⟩:=hN _ _ _ n8
    obtain ⟨a1,a2,a3,a4⟩:=after I8
    have c5:ys.length=its.size:=by simpa using v3.length
    have hsz:its.size<=sizeLine:=by lia
    refine wpAny_list_append_plain (hsz:=hsz) a4 λh9 l9 ax=>?_
    have I9:Inv (aM X NY scope s H C fp) [] O6 H8 { s8 with heap:=h9,toks:=s8.toks }:=(I8.pins_of (pins':=[]) λ_ z=>absurd z (by simp)).turned (it:=D) (λb o a e=>(ax.2 b a).trans e) a3 L (.inr (by show s.heap.objs.size<=D;rw[F];exact Hi _)) (λx c e z=>?_) λp z=>absurd (show p∈([]:List (Addr×Obj)) from z) (by simp)
    .refine #[m',hm,i+1,ys++[yv],O6,H8,its.push y,I9,a3,l9,?_,T.keep _ _ _ a1 λb a o e=>(ax.2 b (Hk (k b a))).trans e,a2,w8]
     rw[Array.toList_push]
     exact v3.append (.cons r8 .nil)
    .rcases mV e with q | q
     .rw[z] at q;exact Nat.lt_irrefl _ (Hq (Nat.lt_of_le_of_lt j (Nat.lt_succ_self _)) q)
     .obtain ⟨v,o,ho,_⟩:=I.cell x c (gp q)
      exact Nat.lt_irrefl _ (z ▸ below c o ho)
 exact codeAny_compStart_list (loop _ rfl) (T.self X.A 0 _ _ _ (T.keep _ _ _ st λb _ o e=>old b o e) (loop _ rfl))
theorem Cs (NY:List Str) (ix:List (Option Nat)) (t:X.calm=true) (hi:PI X tg iter wi) (l:∀ s H C fp,PG (aM X NY scope s H C fp) tg g) (k:∀ s H C fp,PTs (aM X NY scope s H C fp) ifs tc) (he:∀ s H C fp,PE (aM X NY scope s H C fp) elt te) (a:iP scope X.N X.env.scope NY ix=true) (u:∀ x,foldedSetIterable iter X.env x=pure x:=by intro _;rfl):PE X (.ListComp elt [#[tg,iter,ifs,0]] scope pos) (Dq wi g tc te ix):=by
 intro pins s Y H Q I h
 have a:=CompOk.of a
 rw[eval_ListComp]
 refine wpAny_comprehension_free (use:=none) rfl u (iS (scope:=scope) (env:=X.env) λx m e=>?_) a.kind a.loc (thn (hi pins s Y H _ I h) λv s1 h1=>thn h1 λi s2 h2=>?_)
 .rcases a.out x m e with q | q
  .exact I.ok.has x.1 (.inl q)
  .exact I.ok.has x.1 (.inr q)
 .obtain ⟨it,fp,F,J,H2,e,d,T,c,f2,B⟩:=h2
  subst e
  refine sG (RR:=λacc C=>compPost (model X.prog X.w) X.A X.xe none (EP X pins Y Q) acc C) t a l k he d T c f2 B ?_
  intro D C s' ys H' m r f z p y
  obtain ⟨f0,f1,f2,E,f4,n⟩:=z
  exact #[m,r,λh' sb=>#[.ref D,_,p.turned (t':=s'.toks) (λb o j e=>(sb.2 b j).trans e) f0 f1 E f4 n,rfl,y D f]]
def Ds (i:Nat) (a:TI) (g:TG) (tc:TT) (te:TE) (ix:List (Option Nat)):TS:=λD Y H =>
 a Y H λJ H1=>sU J g tc te (λys H2=>∀ p,H2 p=none->D.nx (Y.set i (some (.ref p))) (upd H2 p (.lst ys))) (cap ix Y) H1
theorem tV {i:Nat} (hN:X.N.Nodup) (K:X.N[i]?=some y) (B:Loc X.env.scope y) (NY:List Str) (ix:List (Option Nat)) (P:X.calm=true) (hi:PI X tg iter wi) (G:∀ s H C fp,PG (aM X NY scope s H C fp) tg g) (F:∀ s H C fp,PTs (aM X NY scope s H C fp) ifs tc) (he:∀ s H C fp,PE (aM X NY scope s H C fp) elt te) (c:iP scope X.N X.env.scope NY ix=true) (d:swapsWith (.ListComp elt [#[tg,iter,ifs,0]] scope pos) (some (.Name y py)) spos.line X.env=pure true:=by rfl) (hf:X.fn y=true\/X.env.scope.names.lookup y=some .local:=by first | exact .inl rfl | exact .inr rfl | assumption) (R:∀ x,foldedSetIterable iter X.env x=pure x:=by intro _;rfl):PS X (.Assign [.Name y py] (.ListComp elt [#[tg,iter,ifs,0]] scope pos) spos) (Ds i wi g tc te ix):=by
 intro pins s Y H D I h
 have c:=CompOk.of c
 rw[exec_Assign_Name_used _ _ _ _ d]
 refine GU (wpAny_standAt (GU ?_))
 show wpAny _ X.A (do let _ <- comprehension (.ListComp elt [#[tg,iter,ifs,0]] scope pos) scope X.env _ (newList []) false (eval iter X.env) (some (assign (.Name y py) X.env))) _ _ s
 refine GU (wpAny_mono (wpAny_comprehension_free (use:=some (assign (.Name y py) X.env)) (Q:=λ_ s'=>SP X pins D .next s') rfl R (iS (scope:=scope) (env:=X.env) λx m e=>?_) c.kind c.loc
  (thn (hi pins s Y H _ I h) λv s1 h1=>thn h1 λu s2 h2=>?_)) (λ_ s' ρ=>GV (GV ρ)) λ_ _ e=>e)
 .rcases c.out x m e with q | q
  .exact I.ok.has x.1 (.inl q)
  .exact I.ok.has x.1 (.inr q)
 .obtain ⟨it,fp,tn,J,H2,e,r,T,k,f2,V⟩:=h2
  subst e
  refine sG (RR:=λacc C=>compPost (model X.prog X.w) X.A X.xe (some (assign (.Name y py) X.env)) (λ_ s'=>SP X pins D .next s') acc C) P c G F he r T k f2 V ?_
  intro j C s' ys H' m τ t φ M S
  obtain ⟨f0,f1,f2,σ,f4,L⟩:=φ
  show wpAny _ X.A (assign (.Name y py) X.env (.ref j)) _ _ _
  refine wpAny_assign_Name (nV M hN K B (v:=.ref j) rfl (λl f #[a,sb,W]=>?_) hf)
  have n:C≠a:=by
   rcases W with e | e
   .rw[e];exact f1
   .exact λz=>f4 y a e z.symm
  exact #[m,τ.sameBut sb n,λh' p=>#[_,_,f.turned (t':=l.toks) (λb o E e=>(p.2 b E).trans e) f0 f1 σ f4 L,S j t]]
end
section
variable {X:Cx}
inductive KindOf (K:FG) (H:Hp):V->String->Prop
 | int (i:Int):KindOf K H (.int i) "int"
 | bool (b:Bool):KindOf K H (.bl b) "bool"
 | str (x:Str):KindOf K H (.str x) "str"
 | non:KindOf K H .non "NoneType"
 | tuple {a:Addr} {xs:List V}:SqT K H a xs->KindOf K H (.ref a) "tuple"
 | list {a:Addr} {xs:List V}:SqL K H a xs->KindOf K H (.ref a) "list"
 | dK {a:Addr} {kvs}:H a=some (.dK kvs)->KindOf K H (.ref a) "dict"
 | dT {a:Addr} {kvs}:H a=some (.dT kvs)->KindOf K H (.ref a) "dict"
def lA (k t:String):Bool:=k == t || (k == "bool" && t == "int")
theorem Inv.clsK (I:Inv X pins Y H s) (h:KindOf X.K H (.ref a) k):∃ o,s.heap.get? a=some o/\o.cls=.type k:=by
 cases h with
 | tuple h=>obtain ⟨its,_,⟨o,e,c,_⟩,_⟩:=I.tuple h;exact #[o,e,c]
 | list h=>obtain ⟨its,_,⟨o,n,e,c,_⟩,_⟩:=I.list h;exact #[o,e,c]
 | dK h=>obtain ⟨_,_,_,_,o,_,_,e,c,_⟩:=I.hok a _ h;exact #[o,e,c.1]
 | dT h=>obtain ⟨_,_,_,_,o,_,_,e,c,_⟩:=I.hok a _ h;exact #[o,e,c.1]
theorem qr:CallR X (.builtin "isinstance") (λxs H Q=>∃ x k,xs=[x,.ty "int"]/\KindOf X.K H x k/\Q (.bl (lA k "int")) H):=by
 intro pins s Y H xs us Q I r h
 obtain ⟨x,k,rfl,f,q⟩:=h
 obtain ⟨u,v,rfl,a,d⟩:=lV r
 cases (show v=Value.type "int" from d)
 cases f with
 | int i=>obtain ⟨tk,rfl⟩:=a;exact IsiPair.int_int #[.bl true,H,I,rfl,q]
 | bool b=>cases (show u=Value.bool b from a);exact IsiPair.bool_int #[.bl true,H,I,rfl,q]
 | str z=>obtain ⟨tk,rfl⟩:=a;exact IsiPair.str_int #[.bl false,H,I.tok _,rfl,q]
 | non=>cases (show u=Value.none from a);exact IsiPair.NoneType_int #[.bl false,H,I.tok _,rfl,q]
 | tuple hh=>cases a;obtain ⟨o,e,c⟩:=I.clsK (.tuple hh);exact IsiPair.tuple_int e c #[.bl false,H,I.tok _,rfl,q]
 | list hh=>cases a;obtain ⟨o,e,c⟩:=I.clsK (.list hh);exact IsiPair.list_int e c #[.bl false,H,I.tok _,rfl,q]
 | dK hh=>cases a;obtain ⟨o,e,c⟩:=I.clsK (.dK hh);exact IsiPair.dict_int e c #[.bl false,H,I.tok _,rfl,q]
 | dT hh=>cases a;obtain ⟨o,e,c⟩:=I.clsK (.dT hh);exact IsiPair.dict_int e c #[.bl false,H,I.tok _,rfl,q]
theorem nG:CallR X (.builtin "isinstance") (λxs H Q=>∃ x k,xs=[x,.ty "bool"]/\KindOf X.K H x k/\Q (.bl (lA k "bool")) H):=by
 intro pins s Y H xs us Q I r h
 obtain ⟨x,k,rfl,f,q⟩:=h
 obtain ⟨u,v,rfl,a,d⟩:=lV r
 cases (show v=Value.type "bool" from d)
 cases f with
 | int i=>obtain ⟨tk,rfl⟩:=a;exact IsiPair.int_bool #[.bl false,H,I.tok _,rfl,q]
 | bool b=>cases (show u=Value.bool b from a);exact IsiPair.bool_bool #[.bl true,H,I,rfl,q]
 | str z=>obtain ⟨tk,rfl⟩:=a;exact IsiPair.str_bool #[.bl false,H,I.tok _,rfl,q]
 | non=>cases (show u=Value.none from a);exact IsiPair.NoneType_bool #[.bl false,H,I.tok _,rfl,q]
 | tuple hh=>cases a;obtain ⟨o,e,c⟩:=I.clsK (.tuple hh);exact IsiPair.tuple_bool e c #[.bl false,H,I.tok _,rfl,q]
 | list hh=>cases a;obtain ⟨o,e,c⟩:=I.clsK (.list hh);exact IsiPair.list_bool e c #[.bl false,H,I.tok _,rfl,q]
 | dK hh=>cases a;obtain ⟨o,e,c⟩:=I.clsK (.dK hh);exact IsiPair.dict_bool e c #[.bl false,H,I.tok _,rfl,q]
 | dT hh=>cases a;obtain ⟨o,e,c⟩:=I.clsK (.dT hh);exact IsiPair.dict_bool e c #[.bl false,H,I.tok _,rfl,q]
theorem mY:CallR X (.builtin "isinstance") (λxs H Q=>∃ x k,xs=[x,.ty "tuple"]/\KindOf X.K H x k/\Q (.bl (lA k "tuple")) H):=by
 intro pins s Y H xs us Q I r h
 obtain ⟨x,k,rfl,f,q⟩:=h
 obtain ⟨u,v,rfl,a,d⟩:=lV r
 cases (show v=Value.type "tuple" from d)
 cases f with
 | int i=>obtain ⟨tk,rfl⟩:=a;exact IsiPair.int_tuple #[.bl false,H,I.tok _,rfl,q]
 | bool b=>cases (show u=Value.bool b from a);exact IsiPair.bool_tuple #[.bl false,H,I.tok _,rfl,q]
 | str z=>obtain ⟨tk,rfl⟩:=a;exact IsiPair.str_tuple #[.bl false,H,I.tok _,rfl,q]
 | non=>cases (show u=Value.none from a);exact IsiPair.NoneType_tuple #[.bl false,H,I.tok _,rfl,q]
 | tuple hh=>cases a;obtain ⟨o,e,c⟩:=I.clsK (.tuple hh);exact IsiPair.tuple_tuple e c #[.bl true,H,I,rfl,q]
 | list hh=>cases a;obtain ⟨o,e,c⟩:=I.clsK (.list hh);exact IsiPair.list_tuple e c #[.bl false,H,I.tok _,rfl,q]
 | dK hh=>cases a;obtain ⟨o,e,c⟩:=I.clsK (.dK hh);exact IsiPair.dict_tuple e c #[.bl false,H,I.tok _,rfl,q]
 | dT hh=>cases a;obtain ⟨o,e,c⟩:=I.clsK (.dT hh);exact IsiPair.dict_tuple e c #[.bl false,H,I.tok _,rfl,q]
theorem xZ {bs:List Bool}:((List.range bs.length).all λi=>bs.getD i false)=bs.all id:=by
 rw[Bool.eq_iff_iff]
 simp only[List.all_eq_true,List.mem_range,id]
 constructor
 .intro h b a
  obtain ⟨i,hi,rfl⟩:=List.mem_iff_getElem.mp a
  simpa[List.getD,hi] using h i hi
 .intro h i hi
  simpa[List.getD,hi] using h _ (List.getElem_mem hi)
theorem A3 (n:X.calm=true):CallR X (.builtin "all") (λxs H Q=>∃ (a:Addr) (bs:List Bool),xs=[.ref a]/\SqL X.K H a (bs.map V.bl)/\Q (.bl (bs.all id)) H):=by
 intro pins s Y H xs us Q I r h
 obtain ⟨a,bs,rfl,t,q⟩:=h
 obtain ⟨u,rfl,g⟩:=d6 r
 cases g
 obtain ⟨its,k,p,hz⟩:=I.list t
 have l:=k.length
 rw[Hb] at l
 have j:a < s.heap.objs.size:=by obtain ⟨o,_,e,_⟩:=id p;exact G8 e
 refine call_all_walk (wpAny_pyIter_list p.isList ?_)
 refine #[s.heap.objs.size,_,_,_,_,_,λi=>bs.getD i false,rfl,Walks.list (show X.A.in1.handled=none from I.ok.hd n) s.heap.objs.size a (Hk j) its.toArray,#[#[_,Ha _ rfl,rfl,rfl],p.isList.at λo e=>GZ _ e],?_,?_]
 .intro i v s' w C m f
  have d:its[i]?=some v:=by simpa using m
  have hi:i < bs.length:=by
   have:=(Hc.mp d).1
   lia
  obtain ⟨u,hu,g⟩:=k.get (i:=i) (x:=V.bl (bs[i])) (by simp[hi])
  rw[d] at hu
  cases hu
  cases (show v=Value.bool bs[i] from g)
  refine HD ?_
  have e:bs.getD i false=bs[i]:=by simp[List.getD,hi]
  have c:w (bs.getD i false) s':=f
  rw[e] at c
  exact c
 .intro h' tk B
  have y:Inv X pins Y H { s with heap:=h',toks:=tk }:=I.kept λb o e=>B b o (by
   intro hm
   have z:b=s.heap.objs.size:=by simpa using hm
   exact absurd (z ▸ G8 e) (Nat.lt_irrefl _)) (GZ _ e)
  refine #[.bl (bs.all id),H,y,?_,q]
  show Value.bool _=Value.bool _
  rw[Hl,<- l,xZ]
def Ite (K:FG) (a:Addr):It :=
 #[λi H=>∃ xs x,SqL K H a xs/\xs[i]?=some x,λi H x H'=>∃ T y,x=.ref T/\H T=none/\H'=upd H T (.tup [.int i,y])/\∀ xs,SqL K H a xs->xs[i]?=some y,λi H=>∃ xs,SqL K H a xs/\xs.length<=i]
theorem Inv.two {tk:Nat} (I:Inv X pins Y H s) (f:FpOk X pins H e) (g:FpOk X pins H it) (k:∀ b o,b≠e->b≠it->s.heap.get? b=some o->h'.get? b=some o):Inv X pins Y H { s with heap:=h',toks:=tk }:=by
 have l:∀ b u,H b=some u->b≠e/\b≠it:=λb u q=>#[aN q f.1,aN q g.1]
 have a:∀ b,b ∉ [e,it]->b≠e/\b≠it:=λb h=>#[λz=>h (by simp[z]),λz=>h (by simp[z])]
 refine I.step (g':=s.gens) (d':=s.drawn) (ch:=[e,it]) (λb h=>?_) (λb o _ _ d q _=>k b o (a b d).1 (a b d).2 q) (λb o _ _ d q _=>#[o.slots,k b o (a b d).1 (a b d).2 q]) (λ_ _ _ _ n=>n)
  (λb o d q=>#[o,k b o (a b d).1 (a b d).2 q]) (λ_ _ q=>q) (λ_ _ _ q=>q) (λb ps q=>#[(List.toArray []),by rw[q];simp]) (λm hm=>?_) (λb u q=>?_) I.bare
 .have p:b=e\/b=it:=by simpa using h
  rcases p with rfl | rfl
  .exact #[f.2.2.2.1,f.2.1,f.2.2.2.2.1,f.2.2.2.2.2]
  .exact #[g.2.2.2.1,g.2.1,g.2.2.2.2.1,g.2.2.2.2.2]
 .obtain ⟨o,es,i,j,r⟩:=hm
  exact #[o,es,i,k _ o (Ne.symm f.2.1) (Ne.symm g.2.1) j,r]
 .refine (I.hok b u q).stay (λc v d z=>?_) (λ_ z=>z) λ_ _ z=>z
  grind
theorem Inv.trackT (I:Inv X pins Y H s) (J:Inv X pins Y H s0) (f:s0.heap.objs.size<=T) (g:IsTupD s.heap T its.toArray) (E:Vals xs its) (hz:xs.length<=sizeLine):Inv X pins Y (upd H T (.tup xs)) s:=by
 have m:H T=none:=J.hok.fresh f
 obtain ⟨e1,w,t,a,r,F,z,C,A,k,j⟩:=id I
 have d:∀ b,H b=none->∀ o,s0.heap.get? b=some o->upd H T (.tup xs) b=none:=λb y o e=>by
  rw[aq (Hk (Hq (G8 e) f))];exact y
 have h:∀ b u,H b=some u->upd H T (.tup xs) b=some u:=λb u e=>by rw[aq (aN e m)];exact e
 have i:X.s₀.heap.objs.size<=T:=HE J.sz f
 refine #[e1,w,t,#[a.keep,a.slot,λb o q n g=>?_,a.there,λb ys q=>h _ _ (a.tups b ys q),λb o u q=>h _ _ (a.frzs b o u q),λb ps q=>?_],r,F,?_,λx c q=>?_,λp l=>?_,?_,j]
 .rw[aq (Hk (Hq (G8 q) i))];exact a.free b o q n g
 .obtain ⟨more,D⟩:=a.tbls b ps q;exact #[more,h _ _ D]
 .rw[aq (Hk (Hq J.lt f))];exact z
 .obtain ⟨v,o,B,_⟩:=J.cell x c q
  exact d c (C x c q) o B
 .obtain ⟨a1,a2,a3⟩:=A p l
  exact #[a1,d p.1 a2 p.2 (J.pin p l).1,a3]
 .exact k.track m #[hz,its,E,g]
theorem wq {P:Program} {w:World} {K:FG} {elts:List Expr} {k:Nat} {pos:Pos} (a e it:Addr) (l:e≠it):Turn P w K (.Tuple elts k pos) (Ite K a) [e,it] e (λi h=>(∃ old,IsEnum h e it i old)/\h.IsListIter it a i) where
 mem:=by simp
 obj:=λi h st b g=>by
  obtain ⟨⟨old,he⟩,o,n,c,d⟩:=st
  have F:b=e\/b=it:=by simpa using g
  rcases F with rfl | rfl
  .exact #[_,he,λv z=>by cases z]
  .exact #[o,n,λv z=>by rw[d] at z;cases z]
 keep:=λi h h' st k=>#[let #[old,he]:=st.1;#[old,k e (by simp) _ he],st.2.at λo q=>k it (by simp) o q]
 item:=by
  intro X C hw D τ i pins s Y H E I hf st G
  subst C hw D
  obtain ⟨xs,x,A,B⟩:=G
  obtain ⟨its,L,p,hz⟩:=I.list A
  obtain ⟨u,hu,R⟩:=L.get B
  obtain ⟨⟨old,he⟩,hit⟩:=st
  refine wpAny_pyNext_enum_item he hit p.isList (x:=u) (by simpa using hu) l λh' M t ρ hsz hk=>?_
  refine #[_,rfl,wpAny_letOwnedTupleGo_enum M λj m f=>?_]
  have y:e < s.heap.objs.size:=G8 he
  have φ:Inv X pins Y H { s with heap:=j,toks:=s.toks+1 }:=I.two (hf e (by simp)) (hf it (by simp)) λb o hb1 hb2 q=>(f.2 b hb1).trans (hk b o hb1 hb2 q)
  have J:j.get? s.heap.objs.size=some { cls:=.type "tuple",data:=.seq (List.toArray [.int i s.toks,u]) }:=(f.2 _ (Nat.ne_of_gt y)).trans ρ
  have V:=φ.trackT (s0:=s) (T:=s.heap.objs.size) (xs:=[.int i,x]) (its:=[.int i s.toks,u]) I (Hi _) #[_,J,rfl,_,rfl] (.cons #[_,rfl] (.cons R .nil)) (by show 2<=sizeLine;decide)
  refine #[.ref s.heap.objs.size,_,V,rfl,#[_,x,rfl,I.hok.fresh (Hi _),rfl,λys W=>by rw[I.list_inj W A];exact B],#[#[_,by simpa using m],?_],λb g=>?_]
  .obtain ⟨o,n,r⟩:=t
   exact #[o,(f.2 it (Ne.symm l)).trans n,r]
  .have N:b < s.heap.objs.size:=by
    have F:b=e\/b=it:=by simpa using g
    rcases F with rfl | rfl
    .exact y
    .obtain ⟨o,n,r⟩:=hit;exact G8 n
   rw[aq (Hk N)]
   exact (hf b g).1
 done:=by
  intro X C hw D τ i pins s Y H E I hf st G
  subst C hw D
  obtain ⟨xs,A,B⟩:=G
  obtain ⟨its,L,p,hz⟩:=I.list A
  obtain ⟨⟨old,he⟩,hit⟩:=st
  have hl:=L.length
  obtain ⟨f0,f1,f2,S,f4,Q⟩:=hf it (by simp)
  exact wpAny_pyNext_enum_end (I.ok.hd τ) he hit p.isList (by simp;lia) λh' σ=>#[rfl,I.turned (t':=s.toks) (λb o g q=>σ b o g q) f0 f1 S f4 Q]
 self:=λ_ _ _ _ _ st h=>let #[_,he]:=st.1;wpAny_pyIter_enum he h
def DH (K:FG) (ta:TA):TI:=λY H R=>ta Y H λb H1=>∃ a,b=[.ref a]/\(∃ xs,SqL K H1 a xs)/\R (Ite K a) H1
theorem Cr {k:Nat} (g:Gl X "enumerate") (hm:X.mg "enumerate"=none) (l:PA X [a] ta) (j:starEach [a] X.env=[(false,eval a X.env)]:=by rfl):PI X (.Tuple elts k tp) (.Call (.Name "enumerate" p) [a] [] pos) (DH X.K ta):=by
 intro pins s Y H R I h
 refine Call_ (iK I g hm boot_enumerate (PyProof.Rows.callWith_type1 (thn (l pos pins s Y H _ I h) λus s1 #[v,H1,d,n,m]=>?_) j rfl))
 obtain ⟨a,e,⟨xs,o⟩,q⟩:=m
 subst e
 obtain ⟨u,rfl,i⟩:=d6 n
 cases i
 obtain ⟨its,w,pl,hz⟩:=d.list o
 refine call_enumerate_list pl.isList λh' he hit hsz r=>?_
 refine wpAny_pyIter_enum he ?_
 have f:Inv X pins Y H1 { s1 with heap:=h' }:=d.kept (t':=s1.toks) r
 refine #[s1.heap.objs.size+1,[s1.heap.objs.size+1,s1.heap.objs.size],_,_,H1,rfl,f,wq a _ _ (Nat.succ_ne_self _),#[#[_,he],hit],λb t=>?_,q]
 have c:s1.heap.objs.size<=b:=by
  grind
 exact d.fpOk c (d.hok.fresh c)
end
structure Callee (P:Program) (w:World) (K:FG) (mg:Str->Option Value) (base:Heap) (x:Str) (k:Nat) (ps:List Str) (sp:Sp):Prop where
 ex:∃ (f:Addr) (fd:FuncData),FnOk P w K mg base CX0 k f fd ps sp/\mg x=some (.ref f)/\PySem.W.keepIn K (.ref f)=true/\Binds K fd ps []
structure DefAt (K:FG) (mg:Str->Option Value) (x:Str) (st:Stmt) (f:Addr) (fd:FuncData):Prop where
 fn:Fun K x x st f fd
 mg:mg x=some (.ref f)
def Def (K:FG) (mg:Str->Option Value) (x:Str) (st:Stmt):Prop:=∃ f fd,DefAt K mg x st f fd
theorem Def.callee {K:FG} {st:Stmt} {k:Nat} (D:Def K mg x st) (b:∀ (kV doc pm:Value) (an:Option Addr) (a ct:Value) (us:List Value),us.length=ps.length->bindArgs (PySem.W.fnOf x x (aK st) (aB st) (ad st) .none kV doc pm an a ct) #[us,[]]=pure (ps.zip us)) (h:∀ f fd,Fun K x x st f fd->FnOk P w K mg base CX0 k f fd ps sp):Callee P w K mg base x k ps sp :=
 let #[f,fd,d]:=D
 #[f,fd,h f fd d.fn,d.mg,d.fn.kp,d.fn.binds b]
section
variable {X:Cx} {x:Str} {p pos:Pos} {e:Expr} {es:List Expr} {t:TA} {k:Nat} {ps:List Str} {sp:Sp}
def tFn (sp:Sp) (t:TA):TE:=λY H Q=>t Y H λa H1=>sp a H1 Q E0
theorem pe_fn (c:Callee X.prog X.w X.K X.mg X.base x k ps sp) (g:Room k X.A) (i:PA X (e::es) t) (m:Gl X x:=by rfl) (d:(x == ("__debug__":Str))=false:=by decide)
  (he:starEach (e::es) X.env=(false,eval e X.env)::starEach es X.env:=by rfl) (a:(backTo pos (starEach es X.env)).any (·.1)=false:=by rfl):PE X (.Call (.Name x p) (e::es) [] pos) (tFn sp t):=by
 obtain ⟨f,fd,F,hm,n,j⟩:=c.ex
 have h:=Cu (pos:=pos) (p:=p) (dvs:=[]) (E:=E0) F g m hm n j .nil pass0 i d he a
 intro pins s Y H Q I q
 refine h pins s Y H Q I ?_
 show t Y H λb H1=>sp (b++[]) H1 Q E0
 have l:t Y H (λb H1=>sp b H1 Q E0):=q
 simpa using l
end
def But (p:Addr) (H H':Hp):Prop:=∀ b o,H b=some o->b≠p->H' b=some o
theorem But.trans (a:But p H H1) (b:But p H1 H2):But p H H2:=λc o h n=>b c o (a c o h n) n
abbrev Pt:=Int×Int
def aY (p q r:Pt):Int:=(q.1 - p.1) * (r.2 - p.2) - (q.2 - p.2) * (r.1 - p.1)
def Small (p:Pt):Prop:=-(2 ^ 62) < p.1/\p.1 < 2 ^ 62/\-(2 ^ 62) < p.2/\p.2 < 2 ^ 62
def Rising (ps:List Pt):Prop:=∀ (i j:Nat) (p q:Pt),i < j->ps[i]?=some p->ps[j]?=some q->p.1 < q.1
def NoLine (ps:List Pt):Prop:=∀ (i j k:Nat) (p q r:Pt),i < j->j < k->ps[i]?=some p->ps[j]?=some q->ps[k]?=some r->aY p q r≠0
structure GoodSh (ps:List Pt):Prop where
 pos:0 < ps.length
 most:ps.length<=24
 small:∀ p∈ps,Small p
 rising:Rising ps
 noline:NoLine ps
def kU:List Pt->List (Pt×Pt)
 | []=>[]
 | p::r=>r.map (λq=>(p,q))++kU r
theorem oF:∀ {ps:List Pt} {i j:Nat} {p q:Pt},i < j->ps[i]?=some p->ps[j]?=some q->(p,q)∈kU ps
 | [],_,_,_,_,_,h,_=>by simp at h
 | a::r,0,0,_,_,h,_,_=>by lia
 | a::r,0,j+1,p,q,_,h1,h2=>by
  simp at h1 h2;subst h1
  exact G4 _ (Hg.mpr #[q,He h2,rfl])
 | a::r,i+1,0,_,_,h,_,_=>by lia
 | a::r,i+1,j+1,p,q,h,h1,h2=>G5 _ (oF (ps:=r) (i:=i) (j:=j) (by lia) (by simpa using h1) (by simpa using h2))
theorem rC:∀ {ps:List Pt} {p q:Pt},(p,q)∈kU ps->∃ i j:Nat,i < j/\ps[i]?=some p/\ps[j]?=some q
 | [],_,_,h=>by simp[kU] at h
 | a::r,p,q,h=>by
  rcases G9.mp h with h | h
  .obtain ⟨z,hz,e⟩:=Hg.mp h
   cases e
   obtain ⟨j,b,e⟩:=List.mem_iff_getElem.mp hz
   exact #[0,j+1,by lia,rfl,by simp[b,e]]
  .obtain ⟨i,j,h0,h1,h2⟩:=rC h
   exact #[i+1,j+1,by lia,by simpa using h1,by simpa using h2]
theorem oq:∀ ps:List Pt,(kU ps).length<=ps.length * ps.length
 | []=>by simp[kU]
 | a::r=>by
  have b:=oq r
  simp only[kU,Ht,Hb,Hu]
  have:(r.length+1) * (r.length+1)=r.length * r.length+2 * r.length+1:=by
   rw[Nat.add_mul,Nat.mul_add];lia
  lia
def Bi (ps:List Pt) (z:Pt):Prop:=∀ (i j:Nat) (p q:Pt),i < j->ps[i]?=some p->ps[j]?=some q->aY p q z≠0
def above (ps:List Pt) (x y:Int):Nat:=((kU ps).filter λpr=>decide (aY pr.1 pr.2 (x,y)<=0)).length
theorem AV {α:Type} {p q:α->Bool}:∀ {l:List α},(∀ a∈l,p a=true->q a=true)->(l.filter p).length<=(l.filter q).length
 | [],_=>by simp
 | a::l,h=>by
  have e:=AV (l:=l) λb g=>h b (GY _ g)
  have f:=h a GX
  cases c:p a with
  | true=>rw[List.filter_cons_of_pos c,List.filter_cons_of_pos (f c)];simpa using e
  | false =>
   rw[List.filter_cons_of_neg (by simp[c])]
   cases d:q a with
   | true=>rw[List.filter_cons_of_pos d];simp;lia
   | false=>rw[List.filter_cons_of_neg (by simp[d])];exact e
theorem AU {α:Type} {p q:α->Bool}:∀ {l:List α} {z:α},(∀ a∈l,p a=true->q a=true)->z∈l->q z=true->p z=false->(l.filter p).length < (l.filter q).length
 | [],_,_,hz,_,_=>by simp at hz
 | a::l,z,h,hz,h1,h2=>by
  have d:∀ b∈l,p b=true->q b=true:=λb i=>h b (GY _ i)
  rcases G6.mp hz with rfl | hz
  .rw[List.filter_cons_of_neg (by simp[h2]),List.filter_cons_of_pos h1]
   have:=AV d
   simp;lia
  .have f:=AU d hz h1 h2
   have g:=h a GX
   cases c:p a with
   | true=>rw[List.filter_cons_of_pos c,List.filter_cons_of_pos (g c)];simpa using f
   | false =>
    rw[List.filter_cons_of_neg (by simp[c])]
    cases e:q a with
    | true=>rw[List.filter_cons_of_pos e];simp;lia
    | false=>rw[List.filter_cons_of_neg (by simp[e])];exact f
theorem wa (p q:Pt) (x y:Int):aY p q (x,y+1)=aY p q (x,y)+(q.1 - p.1):=by
 unfold aY
 grind
theorem Bd {x y:Int} (R:Rising ps) {i j:Nat} (a:i < j) (hi:ps[i]?=some p) (c:ps[j]?=some q) (h0:aY p q (x,y)=0):above ps x (y+1) < above ps x y:=by
 refine AU (z:=(p,q)) (λpr b h=>?_) (oF a hi c) (by simp[h0]) ?_
 .obtain ⟨f,d,h',e1,e⟩:=rC (p:=pr.1) (q:=pr.2) b
  have:=R f d _ _ h' e1 e
  have h:=of_decide_eq_true h
  rw[wa] at h
  exact Hn (by lia)
 .have:=R i j _ _ a hi c
  show decide (aY p q (x,y+1)<=0)=false
  rw[wa,h0]
  exact Ho (by lia)
theorem Be (ps:List Pt) (x y:Int):above ps x y<=ps.length * ps.length:=HE (List.length_filter_le _ _) (oq ps)
theorem dG {α:Type} {l:List α} {z a:α} {i:Nat} (h:(l++[z])[i]?=some a):(l[i]?=some a/\i < l.length)\/(a=z/\i=l.length):=by grind
theorem Rising.snoc (R:Rising ps) (h:∀ p∈ps,p.1 < z.1):Rising (ps++[z]):=λi j p q a h1 h2=>by
 rcases dG h1 with ⟨a1,b1⟩ | ⟨rfl,b1⟩
 .rcases dG h2 with ⟨a2,b2⟩ | ⟨rfl,b2⟩
  .exact R i j p q a a1 a2
  .exact h p (He a1)
 .rcases dG h2 with ⟨a2,b2⟩ | ⟨rfl,b2⟩
  .lia
  .lia
theorem NoLine.snoc (N:NoLine ps) (F:Bi ps z):NoLine (ps++[z]):=λi j k p q r a b h1 h2 h3=>by
 rcases dG h1 with ⟨a1,b1⟩ | ⟨rfl,b1⟩
 .rcases dG h2 with ⟨a2,b2⟩ | ⟨rfl,b2⟩
  .rcases dG h3 with ⟨a3,c⟩ | ⟨rfl,c⟩
   .exact N i j k p q r a b a1 a2 a3
   .exact F i j p q a a1 a2
  .rcases dG h3 with ⟨a3,c⟩ | ⟨rfl,c⟩ <;> lia
 .rcases dG h2 with ⟨a2,b2⟩ | ⟨rfl,b2⟩ <;> lia
def jm (a b c:Int) (p:Pt):Pt:=(a * p.1+c,b * p.2)
theorem uM (a b c:Int) (p q r:Pt):aY (jm a b c p) (jm a b c q) (jm a b c r)=(a * b) * aY p q r:=by
 unfold aY jm
 grind
theorem Rising.scale {a b c:Int} (h:0 < a) (R:Rising ps):Rising (ps.map (jm a b c)):=λi j p q e h1 h2=>by
 rw[Hh] at h1 h2
 obtain ⟨f,e1,rfl⟩:=G3.mp h1
 obtain ⟨d,g,rfl⟩:=G3.mp h2
 have:=R i j f d e e1 g
 have h3:a * f.1 < a * d.1:=Int.mul_lt_mul_of_pos_left this h
 show a * f.1+c < a * d.1+c
 lia
theorem NoLine.scale {a b c:Int} (n:0 < a) (o:0 < b) (N:NoLine ps):NoLine (ps.map (jm a b c)):=λi j k p q r e d h1 h2 h3=>by
 rw[Hh] at h1 h2 h3
 obtain ⟨m,e1,rfl⟩:=G3.mp h1
 obtain ⟨h,g,rfl⟩:=G3.mp h2
 obtain ⟨l,f,rfl⟩:=G3.mp h3
 rw[uM]
 exact Int.mul_ne_zero (Int.mul_ne_zero (by lia) (by lia)) (N i j k m h l e d e1 g f)
section InBlock
variable {X:Cx} {NY:List Str} {scope:Scope} {s:Shared} {H:Hp} {C:Addr} {fp:List Addr}
end InBlock
mutual
inductive DV (K:FG) (H:Hp):V->PyData->Prop
 | non:DV K H .non .none
 | bl (b:Bool):DV K H (.bl b) (.bool b)
 | int (i:Int):DV K H (.int i) (.int i)
 | str (x:Str):DV K H (.str x) (.str x)
 | tup {a:Addr} {xs:List V} {ds:List PyData}:SqT K H a xs->DVs K H xs ds->DV K H (.ref a) (.tuple ds)
 | lst {a:Addr} {xs:List V} {ds:List PyData}:SqL K H a xs->DVs K H xs ds->DV K H (.ref a) (.list ds)
inductive DVs (K:FG) (H:Hp):List V->List PyData->Prop
 | nil:DVs K H [] []
 | cons {x:V} {d:PyData} {xs:List V} {ds:List PyData}:DV K H x d->DVs K H xs ds->DVs K H (x::xs) (d::ds)
end
section
variable {X:Cx} {pins:List (Addr×Obj)} {Y:St} {H:Hp} {s:Shared}
mutual
theorem DV.reads (I:Inv X pins Y H s):∀ {v:V} {d:PyData} {u:Value},DV X.K H v d->RelV v u->∃ as,Reads s.heap u d as
 | _,_,u,.non,r=>by cases (show u=Value.none from r);exact #[_,.none]
 | _,_,u,.bl b,r=>by cases (show u=Value.bool b from r);exact #[_,.bool b]
 | _,_,u,.int i,r=>by obtain ⟨t,rfl⟩:=r;exact #[_,.int i t]
 | _,_,u,.str x,r=>by obtain ⟨t,rfl⟩:=r;exact #[_,.str x t]
 | _,_,u,.tup (a:=a) h rs,r=>by
  cases (show u=Value.ref a from r)
  obtain ⟨its,f,⟨o,e,c,n,d⟩,_⟩:=I.tuple h
  obtain ⟨as,q⟩:=DVs.reads I rs f
  exact #[_,.tuple e c d (by simpa using q)]
 | _,_,u,.lst (a:=a) h rs,r=>by
  cases (show u=Value.ref a from r)
  obtain ⟨its,f,⟨o,n,e,c,_,d⟩,_⟩:=I.list h
  obtain ⟨as,q⟩:=DVs.reads I rs f
  exact #[_,.list e c d (by simpa using q)]
theorem DVs.reads (I:Inv X pins Y H s):∀ {v:List V} {d:List PyData} {us:List Value},DVs X.K H v d->Vals v us->∃ as,ReadsAll s.heap us d as
 | _,_,_,.nil,.nil=>#[_,.nil]
 | _,_,_,.cons h r,.cons q t=>by
  obtain ⟨as,e1⟩:=DV.reads I h q
  obtain ⟨bs,a⟩:=DVs.reads I r t
  exact #[_,.cons e1 a]
end
end
section
variable {X:Cx}
theorem xP (b:X.A.guards=some []) (hu:X.A.units+64 < cLine):CallR X (.builtin "repr") (λxs H Q=>∃ (a:Addr) (d:PyData),xs=[.ref a]/\DV X.K H (.ref a) d/\d.showable=true/\d.hasDict=false/\d.depth<=16/\d.shown.length<=sizeLine/\Q (.str d.shown) H):=by
 intro pins s Y H xs us Q I r h
 obtain ⟨a,d,rfl,hd,h1,h2,h3,f,q⟩:=h
 obtain ⟨u,rfl,g⟩:=d6 r
 cases (show u=Value.ref a from g)
 obtain ⟨as,c⟩:=DV.reads I hd rfl
 exact repr_of_reads' c h1 (PyData.noDict_hsm h2) b (by lia) (λ_ _ e=>e) (λh' j tk i=>#[.str d.shown,H,I.kept i,#[_,rfl],q]) f
end
section
variable {X:Cx}
theorem C0 (r:Vals (ns.map V.int) us):∃ xs:Array (Int×Tok),us.toArray=intItems xs/\ns=xs.toList.map (·.1):=by
 induction ns generalizing us with
 | nil=>cases r;exact #[(List.toArray []),by simp[intItems],rfl]
 | cons n ns ih =>
  cases r with
  | cons q t =>
   obtain ⟨k,rfl⟩:=q
   obtain ⟨xs,e1,b⟩:=ih t
   refine #[((n,k)::xs.toList).toArray,?_,by simp[b]]
   have a:=congrArg Array.toList e1
   simp only[intItems,List.toList_toArray,Array.toList_map] at a
   simp[intItems,a]
theorem wU {i:Nat} (h:i < xs.size):numAt xs i∈xs.toList.map (·.1):=by
 have e:(xs.toList.map (·.1))[i]?=some (numAt xs i):=by simp[numAt,h]
 exact He e
theorem xb {n:Int} (h:n∈xs.toList.map (·.1)):∃ i,i < xs.size/\numAt xs i=n:=by
 obtain ⟨i,hi,e⟩:=List.mem_iff_getElem.mp h
 have a:i < xs.size:=by simpa using hi
 refine #[i,a,?_]
 rw[<- e]
 simp[numAt,a]
end
def DO (b:Option (Int×Tok)):Array Value:=match b with | none=>(List.toArray []) | some p=>(List.toArray [.int p.1 p.2,.int p.1 p.2])
def qy (xs:Array (Int×Tok)) (j:Nat) (b:Option (Int×Tok)):Prop:=match b with
 | none=>j=0
 | some p=>(∃ i,i < j/\numAt xs i=p.1)/\∀ i,i < j->numAt xs i<=p.1
section
variable {prog:Program} {w:World} {A:Around} {R:Result->Shared->Prop}
theorem xc (W:A.handled=none) (D:l≠I) (m:S≠I) (E:S≠l) (xs:Array (Int×Tok)) (d:Value):∀ (k j:Nat) (s:Shared) (b:Option (Int×Tok)) (c:Nat),xs.size - j=k->j<=xs.size->s.heap.IsListIter I l j->s.heap.IsList l (intItems xs) ->
  s.heap.get? S=some { cls:=.type "list",dict:=none,data:=.seq (DO b) c,slots:=(List.toArray []) }->qy xs j b ->
  (∀ v h' tk,((xs.size=0/\v=d)\/∃ p:Int×Tok,v=.int p.1 p.2/\qy xs xs.size (some p))->(∀ a o,a≠I->a≠S->s.heap.get? a=some o->h'.get? a=some o)->R (.ok (.ret v)) { s with heap:=h',toks:=tk }) ->
  codeAny (model prog w) A (.builtin "max.loop" #[[.ref I,.none,.ref S],[("default",d)]]) R s:=by
 have nm:(toString "max"++toString ".loop":String)="max.loop":=by decide
 intro k
 induction k with
 | zero =>
  intro j s b c X T hit C u t fin
  obtain rfl:j=xs.size:=by lia
  refine codeAny_builtin F.entry_max_loop ?_
  rw[Around.under_plainId F.plain_max_loop _]
  show wpAny _ A.in1 (seqItems? (.ref S) >>= _) _ _ s
  refine GU (wpAny_seqItems u rfl ?_)
  show wpAny _ A.in1 (tryCatch (pyNext (.ref I)) _ >>= _) _ _ s
  refine GU (wpAny_tryCatch (wpAny_pyNext_list_end (show A.in1.handled=none from W) hit C (by simp[intItems]) λh' K=>?_))
  cases b with
  | none =>
   have h0:xs.size=0:=t
   show wpAny _ A.in1 (rule _ >>= λ_=>ret d) _ _ _
   exact GU (wpAny_rule (GV (fin d h' s.toks (.inl #[h0,rfl]) λa o g _ e=>K a o g e)))
  | some p =>
   have f:=K S _ m u
   show wpAny _ A.in1 (updateSeq S (λ_=>(List.toArray [])) >>= _) _ _ _
   refine GU (wpAny_updateSeq f rfl (GU (wpAny_letGo (GV ?_))) (hz:=by show 2<=sizeLine;decide))
   exact fin _ _ s.toks (.inr #[p,rfl,t]) λa o g z e=>(HB _ _ (Ne.symm z)).trans (K a o g e)
 | succ k ih =>
  intro j s b c X T hit C u t fin
  have y:j < xs.size:=by lia
  obtain ⟨x,τ⟩:∃ x,xs[j]?=some x:=#[xs[j],by simp[y]]
  have φ:(intItems xs)[j]?=some (.int x.1 x.2):=by simp[intItems,τ]
  have h:numAt xs j=x.1:=by simp[numAt,τ]
  refine codeAny_builtin F.entry_max_loop ?_
  rw[Around.under_plainId F.plain_max_loop _]
  show wpAny _ A.in1 (seqItems? (.ref S) >>= _) _ _ s
  refine GU (wpAny_seqItems u rfl ?_)
  show wpAny _ A.in1 (tryCatch (pyNext (.ref I)) _ >>= _) _ _ s
  refine GU (wpAny_tryCatch (wpAny_pyNext_list_item hit C φ λh' r sb=>?_))
  have f:h'.get? S=_:=(sb.2 S m).trans u
  have H:h'.IsList l (intItems xs):=C.at λo e=>(sb.2 l D).trans e
  have on:∀ (h2:Heap) (tk:Nat) (B:Option (Int×Tok)) (J:Nat),(∀ a o,a≠S->h'.get? a=some o->h2.get? a=some o)->h2.get? S=some { cls:=.type "list",dict:=none,data:=.seq (DO B) J,slots:=(List.toArray []) }->qy xs (j+1) B ->
    codeAny (model prog w) A (.builtin "max.loop" #[[.ref I,.none,.ref S],[("default",d)]]) R { s with heap:=h2,toks:=tk }:=λh2 tk B J k2 L N =>
   ih (j+1) _ B J (by lia) y (r.at λo e=>k2 I o (Ne.symm m) e) (H.at λo e=>k2 l o (Ne.symm E) e) L N λv h3 G M k3=>fin v h3 G M λa o g z e=>k3 a o g z (k2 a o z ((sb.2 a g).trans e))
  cases b with
  | none =>
   have h0:j=0:=t
   show wpAny _ A.in1 (updateSeq S (λ_=>(List.toArray [.int x.1 x.2,.int x.1 x.2])) >>= _) _ _ _
   refine GU (wpAny_updateSeq f rfl ?_)
   rw[nm]
   refine GV #[plainId_quiet F.plain_max_loop _,on _ s.toks (some x) _ (λa o g e=>(HB _ _ (Ne.symm g)).trans e) (Hs _ f rfl) #[#[j,by lia,h],λi hi=>?_]]
   obtain rfl:i=j:=by lia
   lia
  | some p =>
   obtain ⟨⟨Q,P,V⟩,hle⟩:=t
   show wpAny _ A.in1 (tryCatch (holding [.int x.1 x.2,.int x.1 x.2] (richCompare .Gt (.int x.1 x.2) (.int p.1 p.2) >>= _)) _ >>= _) _ _ _
   refine GU (wpAny_tryCatch (GW (GU ?_)))
   refine (gt_int (a:=x.1) (b:=p.1) ?_:wpAny (model prog w) A.in1 (compareOp .Gt (.int x.1 x.2) (.int p.1 p.2)) _ _ _)
   refine GU (GW (HD (GU (wpAny_letGo (GV ?_)))))
   by_cases q:p.1 < x.1
   .rw[Hn q,if_pos rfl]
    refine GU (wpAny_updateSeq f rfl (GU (wpAny_letGo ?_)) (hz:=by show 2<=sizeLine;decide))
    rw[nm]
    refine GV #[plainId_quiet F.plain_max_loop _,on _ s.toks (some x) _ (λa o g e=>(HB _ _ (Ne.symm g)).trans e) (Hs _ f rfl) #[#[j,by lia,h],λi hi=>?_]]
    by_cases n:i=j
    .subst n;lia
    .have:=hle i (by lia);lia
   .rw[Ho q,if_neg Hj]
    refine GU (wpAny_letGo ?_)
    rw[nm]
    refine GV #[plainId_quiet F.plain_max_loop _,on h' s.toks (some p) c (λa o _ e=>e) f #[#[Q,by lia,V],λi hi=>?_]]
    by_cases n:i=j
    .subst n;lia
    .exact hle i (by lia)
end
section
variable {prog:Program} {w:World} {A:Around} {E:Value->Shared->Prop} {s:Shared}
theorem jf {id:String} (h:builtinKind id=none) (g:plainId id=true) (i:entryFor table id=some b) (d:argsOk id #[args,kw]) (c:wpAny (model prog w) A.in1 (b #[args,kw]) (λfin s'=>match fin with
   | .done f=>(match (Except.ok f:Result) with | .ok (.ret v)=>Q v s' | .ok _=>False | .error e=>E e s')
   | .again c'=>c'.quiet=true/\codeAny (model prog w) A c' (λr s'=>match r with | .ok (.ret v)=>Q v s' | .ok _=>False | .error e=>E e s') s') E s) :
  wpAny (model prog w) A (call (.builtin id) args kw) Q E s:=by
 refine wpAny_call (codeAny_call_builtin g i ?_)
 simp only[checkBuiltinCall,h]
 cases a:Manifest.signature? id with
 | none=>exact GV c
 | some sig =>
  simp only[argsOk,a] at d
  have h2:Bind.checkArgs id sig #[args,kw]=pure ():=d
  show wpAny _ A.in1 (Bind.checkArgs id sig #[args,kw]) _ _ s
  rw[h2];exact GV c
theorem xX (a d:Value):argsOk "max" #[[a],[("default",d)]]:=by unfold argsOk;kernel_rfl
theorem xR (i:A.handled=none) (g:s.heap.IsList l (intItems xs)) (h:∀ v h' tk,((xs.size=0/\v=d)\/∃ p:Int×Tok,v=.int p.1 p.2/\qy xs xs.size (some p))->(∀ b o,s.heap.get? b=some o->h'.get? b=some o)->Q v { s with heap:=h',toks:=tk }) :
  wpAny (model prog w) A (call (.builtin "max") [.ref l] [("default",d)]) Q E s:=by
 have a:(toString "max"++toString ".loop":String)="max.loop":=by decide
 refine jf F.kind_max F.plain_max F.entry_max (xX _ _) ?_
 show wpAny _ A.in1 (Builtin.Builtins.bindParams "max" ["key","default"] 0 #[[],[("default",d)]] >>= _) _ _ s
 refine GU (wpAny_of_eq (show Builtin.Builtins.bindParams "max" ["key","default"] 0 #[[],[("default",d)]]=pure [none,some d] from rfl) ?_)
 refine GU (GV ?_)
 refine GU (iter_intList g λn e st k c=>?_)
 subst e
 refine GU (wpAny_newObj_type ?_)
 rw[a]
 have f:l < s.heap.objs.size:=by obtain ⟨_,e,_⟩:=g;exact G8 e
 have hsz:(s.heap.push { cls:=.type "list_iterator",data:=.fields (List.toArray [.ref l,.int 0 0]) }).objs.size=s.heap.objs.size+1:=HC _ _
 have a1:(s.heap.push { cls:=.type "list_iterator",data:=.fields (List.toArray [.ref l,.int 0 0]) }).objs.size≠s.heap.objs.size:=by rw[hsz];exact Nat.succ_ne_self _
 have a2:(s.heap.push { cls:=.type "list_iterator",data:=.fields (List.toArray [.ref l,.int 0 0]) }).objs.size≠l:=by rw[hsz];exact Nat.ne_of_gt (Nat.lt_succ_of_lt f)
 refine GV ⟨plainId_quiet F.plain_max_loop _,xc (A:=A) i c a1 a2 xs d xs.size 0 _ none 0 (by lia) (by lia)
  (st.1.at λo e=>GZ _ e) (st.2.at λo e=>GZ _ e) (Ha _ rfl) rfl λv h' tk j m=>?_⟩
 refine h v h' tk j λb o e=>m b o (λq=>?_) (λq=>?_) (GZ _ (GZ _ e))
 .exact absurd q (Hk (G8 e))
 .exact absurd (q.trans hsz) (Hk (Nat.lt_succ_of_lt (G8 e)))
end
section
variable {X:Cx}
theorem ni {xs:Array (Int×Tok)} (e:ns=xs.toList.map (·.1)):xs.size=0 ↔ ns=[]:=by
 rw[e];simp
def vg (K:FG) (P:List Int->Int->Prop) (x d:V) (H:Hp) (Q:VK):Prop:=∃ (l:Addr) (ns:List Int),x=.ref l/\SqL K H l (ns.map V.int)/\(ns=[]->Q d H)/\∀ m,m∈ns->P ns m->Q (.int m) H
theorem yT (g:X.calm=true) (I:Inv X pins Y H s) (c:RelV x u) (e:RelV d ud) (h:vg X.K (λns m=>∀ n∈ns,n<=m) x d H Q) :
  wpAny (model X.prog X.w) X.A (call (.builtin "max") [u] [("default",ud)]) (EP X pins Y Q) X.xe s:=by
 obtain ⟨l,ns,rfl,o,h0,h1⟩:=h
 cases (show u=Value.ref l from c)
 obtain ⟨its,r,p,hz⟩:=I.list o
 obtain ⟨ys,e1,a⟩:=C0 r
 have pl:=p.isList
 rw[e1] at pl
 refine xR (I.ok.hd g) pl λv h' tk f b=>?_
 rcases f with ⟨k,rfl⟩ | ⟨q,rfl,⟨⟨i,hi,t⟩,hle⟩⟩
 .exact #[d,H,I.kept b,e,h0 ((ni a).mp k)]
 .refine #[.int q.1,H,I.kept b,#[q.2,rfl],h1 _ (by rw[a,<- t];exact wU hi) λn hm=>?_]
  rw[a] at hm
  obtain ⟨j,y,rfl⟩:=xb hm
  exact hle j y
def tKw1 (r:V->V->Hp->VK->Prop) (te a:TE):TE:=λY H Q=>te Y H λx H1=>a Y H1 λd H2=>r x d H2 Q
theorem FC {id:String} (c:∀ {pins:List (Addr×Obj)} {s:Shared} {Y:St} {H:Hp} {x d:V} {u l:Value} {Q:VK},Inv X pins Y H s->RelV x u->RelV d l->r x d H Q->wpAny (model X.prog X.w) X.A (call (.builtin id) [u] [("default",l)]) (EP X pins Y Q) X.xe s) (q:Gl X nm) (hm:X.mg nm=none) (y:bootBuiltins nm=some (.builtin id)) (he:PE X e te) (hd:PE X d td) (v:nm≠"__name__") (m:(nm == ("__debug__":Str))=false) (n:backTo pos (starEach [e] X.env)=(false,eval e X.env)::backTo pos (starEach [] X.env)) (j:backTo pos (starEach [] X.env)=[]) (a:(backTo pos (starEach [e] X.env)).any (·.1)=false) (b:(backToKw pos (keywordEach [#[some "default",d,kpos]] X.env)).all (·.1.isSome)=true) (f:(backToKw pos (keywordEach [#[some "default",d,kpos]] X.env)).any (·.1.isNone)=false) (i:(backToKw pos (keywordEach [#[some "default",d,kpos]] X.env)).filterMap (·.1)=(["default"]:List Str)) :
  PE X (.Call (.Name nm p) [e] [#[some "default",d,kpos]] pos) (tKw1 r te td):=by
 intro pins s Y H Q I h
 refine wpAny_Call_Name_kw (iK I q hm y ?_ v m)
 refine PyProof.Rows.callWith_kw ?_ n a b f
 rw[n,j]
 refine Calls.spliced_cons (thn (he pins s Y H _ I h) λu s1 #[x,H1,D,C,B]=>Calls.spliced_nil ?_)
 refine thn (Cp (nm:=some "default") (kpos:=kpos) hd Fr pos pins s1 Y H1 (λz H2=>match z with | [d]=>r x d H2 Q | _=>False) D B) λus s2 #[xs,H2,o,k,g]=>?_
 match xs,g,k with
 | [d'],g,k =>
  rw[i]
  obtain ⟨l,rfl,t⟩:=d6 k
  exact c o C t g
end
def Itd (hi:Int) (n:Nat):It:=#[λi _=>i < n,λi H x H'=>H'=H/\x=.int (hi - i),λi _=>n<=i]
theorem qI {P:Program} {w:World} {K:FG} {tg:Expr} (it:Addr) (hi:Int) (n:Nat):Turn P w K tg (Itd hi n) [it] it (λi h=>IsRangeIter h it (hi+(i:Nat) * (-1)) ((n:Int) - (i:Nat)) (-1)) where
 mem:=by simp
 obj:=λi h st b a=>by
  grind
 keep:=λi h h' st k=>k it (by simp) _ st
 item:=by
  intro X j hw l g i pins s Y H E I hf st d
  subst j hw l
  obtain ⟨f0,f1,f2,m,f4,f⟩:=hf it (by simp)
  have W:=Walks.range (prog:=X.prog) (w:=X.w) (I.ok.hd g) it hi (-1) n
  refine W.item i s _ _ d st λv h' tk p c q=>?_
  obtain ⟨t,rfl⟩:=p
  have u:Inv X pins Y H { s with heap:=h',toks:=tk }:=I.turned (λb o a e=>q b o (by simpa using a) e) f0 f1 m f4 f
  refine #[_,rfl,vL (s:={ s with heap:=h',toks:=tk }) (n:="range_iterator") c rfl rfl (by decide) #[.int (hi - i),H,u,#[t,?_],#[rfl,rfl],c,λb a=>(hf b a).1]]
  rw[show hi+(i:Int) * (-1)=hi - i by omega]
 done:=by
  intro X j hw l g i pins s Y H E I hf st d
  subst j hw l
  obtain ⟨f0,f1,f2,m,f4,f⟩:=hf it (by simp)
  exact wpAny_pyNext_range_end (I.ok.hd g) st (by have:n<=i:=d;omega) λh' r=>#[rfl,I.turned (t':=s.toks) (λb o a e=>r b o a e) f0 f1 m f4 f]
 self:=λ_ _ _ _ _ st h=>wpAny_pyIter_rangeiter st h
section
variable {X:Cx} {tg:Expr}
theorem iA (a b:Int):Builtin.Range.rangeSize a b (-1)=if a > b then a - b else 0:=by
 unfold Builtin.Range.rangeSize
 grind
theorem tv {a b:Int} (h1:-(2 ^ 62)<=a) (h2:a < 2 ^ 62) (h3:-(2 ^ 62)<=b) (d:b < 2 ^ 62):Builtin.Range.small a b (-1)=true:=by
 unfold Builtin.Range.small
 rw[iA]
 have c:¬ ((-1:Int) > 0):=by decide
 simp only[Builtin.Range.rangeFitsLong,Bool.and_eq_true,Bool.or_eq_true,decide_eq_true_eq,beq_iff_eq,c,if_false]
 split <;> lia
def DE (ta:TA):TI:=λY H R=>ta Y H λa H1=>∃ i j:Int,a=[.int i,.int j,.int (-1)]/\(-(2 ^ 62)<=i/\i < 2 ^ 62/\-(2 ^ 62)<=j/\j < 2 ^ 62)/\R (Itd i (i - j).toNat) H1
theorem wL {lo hi:Int} {tk:Nat} (I:Inv X pins Y H s) (h1:-(2 ^ 62)<=lo) (h2:lo < 2 ^ 62) (h3:-(2 ^ 62)<=hi) (f:hi < 2 ^ 62) (q:R (Itd lo (lo - hi).toNat) H):wpAny (model X.prog X.w) X.A (pyIter (.ref s.heap.objs.size)) (PIE X pins Y tg R) E { s with heap:=s.heap.push { cls:=.type "range",data:=.fields (List.toArray [.int lo t,.int hi u,.int (-1) v]) },toks:=tk }:=by
 refine wpAny_pyIter_range (IsRange.new ..) (tv h1 h2 h3 f) ?_
 have a:Inv X pins Y H { s with heap:=s.heap.push { cls:=.type "range",data:=.fields (List.toArray [.int lo t,.int hi u,.int (-1) v]) },toks:=tk }:=I.kept λb o e=>GZ _ e
 refine ⟨(s.heap.push { cls:=.type "range",data:=.fields (List.toArray [.int lo t,.int hi u,.int (-1) v]) }).objs.size,[(s.heap.push { cls:=.type "range",data:=.fields (List.toArray [.int lo t,.int hi u,.int (-1) v]) }).objs.size],_,_,H,rfl,
  a.kept (t':=tk) λb o e=>GZ _ e,qI _ lo (lo - hi).toNat,?_,λb d=>?_,q⟩
 .have e1:lo+((0:Nat):Int) * (-1)=lo:=by simp
  have c:(((lo - hi).toNat:Nat):Int) - ((0:Nat):Int)=Builtin.Range.rangeSize lo hi (-1):=by rw[iA];split <;> lia
  show IsRangeIter _ _ (lo+((0:Nat):Int) * (-1)) ((((lo - hi).toNat:Nat):Int) - ((0:Nat):Int)) (-1)
  rw[e1,c]
  exact Ha _ rfl
 .have e:b=(s.heap.push { cls:=.type "range",data:=.fields (List.toArray [.int lo t,.int hi u,.int (-1) v]) }).objs.size:=by simpa using d
  subst e
  exact a.fpOk (Hi _) (a.hok.fresh (Hi _))
theorem wO (m:Gl X "range") (hm:X.mg "range"=none) (l:PA X [a,b,c] ta) (w:starEach [a,b,c] X.env=(false,eval a X.env)::starEach [b,c] X.env) (d:(backTo pos (starEach [b,c] X.env)).any (·.1)=false) :
  PI X tg (.Call (.Name "range" p) [a,b,c] [] pos) (DE ta):=by
 intro pins s Y H R I h
 refine Call_ (iK I m hm boot_range (PyProof.Rows.callWith_type1 (thn (l pos pins s Y H _ I h) λus s1 #[x,H1,v,n,f]=>?_) w d))
 obtain ⟨i,j,e,⟨f,o,g,k⟩,q⟩:=f
 subst e
 cases n with
 | cons r rr =>
  cases rr with
  | cons r' rr =>
   cases rr with
   | cons r'' rr =>
    cases rr
    obtain ⟨t,rfl⟩:=r
    obtain ⟨t',rfl⟩:=r'
    obtain ⟨u,rfl⟩:=r''
    exact call_range_3 (by decide) (wL v f o g k q) (.inl (PyProof.noPylong_small (by decide)))
end
end L2
end
section
namespace PySem
open Sem (wp)
end PySem
end
section
namespace L2
open PySem PySem.Spec PyProof.Rows
section
variable {X:Cx}
theorem z4:MtR X "list.index" (λx J H Q=>∃ (a:Addr) (xs:List V) (k:V) (j:Nat),x=.ref a/\J=[k]/\SqL X.K H a xs/\ic k=true/\xs.all ic=true/\(∃ y,xs[j]?=some y/\eqV y k=true)/\(∀ (i:Nat) (y:V),i < j->xs[i]?=some y->eqV y k=false)/\Q (.int j) H):=by
 intro pins s Y H x J v us Q I N S h
 obtain ⟨a,xs,k,j,rfl,rfl,R,M,fx,⟨y,C,τ⟩,B,q⟩:=h
 cases N
 obtain ⟨u,rfl,P⟩:=d6 S
 obtain ⟨its,r,⟨o,n,e,D,hd,E⟩,hz⟩:=I.list R
 obtain ⟨w,hw,t⟩:=r.get C
 have hlen:=r.length
 have φ:j < its.length:=(Hc.mp hw).1
 have L:∀ z∈xs,ic z=true:=List.all_eq_true.mp fx
 have hit:eqU k its.toArray[j]=true:=by
  have e1:its.toArray[j]=w:=by
   have:=(Hc.mp hw).2
   simpa using this
  rw[e1,qe t (L y (He C))]
  exact τ
 have no:∀ m (hm:m < its.toArray.size),m < j->eqU k its.toArray[m]=false:=λm hm l=>by
  have b:m < xs.length:=by simp at hm;lia
  obtain ⟨T,A,g⟩:=r.get (G7 b)
  have e1:its.toArray[m]=T:=by
   have:=(Hc.mp A).2
   simpa using this
  rw[e1,qe g (L _ (List.getElem_mem _))]
  exact B m _ l (G7 b)
 have G:s.heap.get? a=some { cls:=.type "list",dict:=none,data:=.seq its.toArray n,slots:=o.slots }:=by
  rw[e]
  obtain ⟨c,d,dt,sl⟩:=o
  dsimp only at D hd E
  subst D hd E
  rfl
 have f:(j:Int) < 2 ^ 63 - 1:=by
  have:sizeLine < 2 ^ 60:=by decide
  lia
 refine call_meets F.slot_list_index #[_,G,rfl] F.entry_list_index (F.args_list_index_2 _ _) (SeqAt.list_indexAt a its.toArray n none o.slots u (eqU k) j (by simpa using φ) f hit no) #[G,λz p=>mD P M r fx z (by simpa using p),?_]
 exact #[.int j,H,I.tok _,#[_,rfl],q]
end
end L2
end
section
namespace PyProof.Rows
open PySem
end PyProof.Rows
end
section
namespace L2
open PySem PySem.Spec PyProof.Rows
theorem jy:∀ {us:List Value} {ns:List Int},IntsAre us ns->Vals (ns.map V.int) us
 | _,_,.nil=>.nil
 | _,_,.cons n t h=>.cons #[t,rfl] (jy h)
def IsNts (h:Heap) (b:Addr) (n:List Int):Prop:=∃ it:Array Value,IsTup h b it/\IntsAre it.toList n
abbrev aX (f:Bool):SortKind:=(sortPriv% PySem.Builtin.KeyKind.tuples) f
section
variable {prog:Program} {w:World} {A:Around} {E:Value->Shared->Prop} {s:Shared}
theorem t4 (f:Bool) {a b:Int} (h:Q (decide (a < b)) s):wpAny (model prog w) A (oneLt' f (.int a t) (.int b u)) Q E s:=by
 cases f with
 | true=>exact oneLt_int h
 | false =>
  rw[oneLt'_eq]
  simp only[Hz,if_false]
  refine GU (HT.rcLt_int A s a t b u prog w E _ ?_)
  exact HD h
theorem oH (f:Bool) (n m:Nat) {k:Option Bool×Unit->Sem Bool} (l:∀ p q i c,g ((p,q),i) c=(do
          let b <- eqBool p q
          if (!b)=true then do
            let r <- oneLt' (f && i == 0) p q
            pure (ForInStep.done (some r,()))
          else pure (ForInStep.yield (none,())))) (j:∀ b,k (some b,())=pure b) (d:k (none,())=pure (decide (n < m))):∀ (h ws:List Value) (ns ms:List Int) (i:Nat),IntsAre h ns->IntsAre ws ms->ns.length+m=ms.length+n->Q (HT.lexLt ns ms) s ->
    wpAny (model prog w) A (forIn ((h.zip ws).zipIdx i) ((none,()):Option Bool×Unit) g) (λr s'=>wpAny (model prog w) A (k r) Q E s') E s
  | [],ws,ns,ms,i,h1,h2,hl,q=>by
    cases h1
    have e:HT.lexLt [] ms=decide (n < m):=by
      cases ms with
      | nil=>simp at hl;rw[HT.lexLt_nil_nil];exact (Ho (by lia)).symm
      | cons a ms=>simp at hl;rw[HT.lexLt_nil_cons];exact (Hn (by lia)).symm
    rw[e] at q
    rw[List.zip_nil_left]
    simp only[List.zipIdx_nil,List.forIn_nil]
    refine GV ?_
    rw[d]
    exact GV q
  | v::h,[],ns,ms,i,h1,h2,hl,q=>by
    cases h2
    cases h1 with
    | cons a t h1 =>
    rename_i ns
    have e:HT.lexLt (a::ns) []=decide (n < m):=by
      simp at hl;rw[HT.lexLt_cons_nil];exact (Ho (by lia)).symm
    rw[e] at q
    rw[List.zip_nil_right]
    simp only[List.zipIdx_nil,List.forIn_nil]
    refine GV ?_
    rw[d]
    exact GV q
  | v::h,u::ws,ns,ms,i,h1,h2,hl,q=>by
    cases h1 with
    | cons a t h1 =>
    cases h2 with
    | cons b t2 h2 =>
    rename_i ns ms
    rw[List.zip_cons_cons,List.zipIdx_cons,List.forIn_cons,l]
    rw[HT.lexLt_cons] at q
    refine GU (GU ((intKind prog w).eqBool (a:=a) (b:=b) (by simp[intKind,Value.isInt]) (by simp[intKind,Value.isInt]) ?_))
    by_cases e:a=b
    . rw[if_pos e] at q
      rw[Hn e]
      simp only[Bool.not_true,Hz,if_false]
      refine GV ?_
      exact oH f n m l j d h ws ns ms (i+1) h1 h2 (by simp at hl;lia) q
    . rw[if_neg e] at q
      rw[Ho e]
      simp only[Bool.not_false,if_true]
      refine GU (t4 _ (GV (GV ?_)))
      rw[j]
      exact GV q
theorem xo (l:IsNts s.heap a x) (n:IsNts s.heap b y) (h:Q (HT.lexLt x y) s):wpAny (model prog w) A (keyLt' (aX f) (.ref a) (.ref b)) Q E s:=by
 obtain ⟨d,⟨t,e1,c1,p,o⟩,g⟩:=l
 obtain ⟨c,⟨q,i,c2,r,m⟩,e⟩:=n
 refine GU (listItems_at e1 o ?_)
 refine GU (listItems_at i m ?_)
 refine GU ?_
 have j:x.length=d.size:=by rw[<- g.length];simp
 have k:y.length=c.size:=by rw[<- e.length];simp
 exact oH f d.size c.size (λ_ _ _ _=>rfl) (λ_=>rfl) rfl d.toList c.toList x y 0 g e (by lia) h
end
section
variable {prog:Program} {w:World} {A:Around} {E:Value->Shared->Prop} {s:Shared}
theorem uu (v:Value):firstOfTuple' v=(do
  if (<- typeOf v) != .type "tuple" then return none
  return (<- Builtin.List.listItems v)[0]?):=rfl
theorem oR (f:IsNts s.heap b n) (h0:n≠[]) (h:∀ i t,Q (some (.int i t)) s):wpAny (model prog w) A (firstOfTuple' (.ref b)) Q E s:=by
 obtain ⟨it,⟨o,e,c,k,d⟩,j⟩:=f
 rw[uu]
 refine GU (wpAny_typeOf (T:="tuple") #[o,e,c] ?_)
 rw[if_neg (by decide)]
 refine GU (listItems_at e d ?_)
 cases a:it.toList with
 | nil=>rw[a] at j;cases j;exact absurd rfl h0
 | cons v vs =>
  rw[a] at j
  cases j with
  | cons i t j =>
   have:it[0]?=some (.int i t):=by rw[<- Array.getElem?_toList,a];rfl
   rw[this]
   exact GV (h i t)
theorem mQ:∀ (bs:List Addr),(∀ b∈bs,∃ n,n≠[]/\IsNts s.heap b n)->(∀ (a:List Value) (ns:List Int),IntsAre a ns->a.length=bs.length->Q (a.map some) s) ->
  wpAny (model prog w) A ((bs.map Value.ref).mapM firstOfTuple') Q E s
 | [],_,q=>by
  simp only[List.map_nil,List.mapM_nil]
  exact GV (q [] [] .nil rfl)
 | b::bs,h,q=>by
  rw[Hm,List.mapM_cons]
  obtain ⟨n,h0,f⟩:=h b GX
  refine GU (oR f h0 λi t=>?_)
  refine GU (mQ bs (λc e=>h c (GY _ e)) λa ns hi d=>?_)
  exact GV (q (.int i t::a) (i::ns) (.cons i t hi) (by simp[d]))
theorem Ap (h2:bs≠[]) (f:∀ b∈bs,∃ n,n≠[]/\IsNts s.heap b n) (h:Q (aX true) s):wpAny (model prog w) A (keyKind' (bs.map Value.ref).toArray) Q E s:=by
 rw[keyKind'_eq,List.mapM_toArray]
 refine GU ?_
 rw[map_eq_pure_bind]
 refine GU (mQ bs f λa ns hi d=>GV ?_)
 have e:(a.map some).toArray.all (·.isSome)=true:=by simp
 rw[if_pos e]
 refine GU (wpAny_rule ?_)
 have hf:(a.map some).toArray.filterMap id=a.toArray:=by simp
 rw[hf,oneTypeOnly'_eq,List.mapM_toArray,mapM_typeOf_ints hi]
 simp only[map_pure,pure_bind]
 cases a with
 | nil=>exact absurd (HK.mp d.symm) h2
 | cons v a =>
  have c:((List.map (λ_=>Value.type "int") (v::a)).toArray.all λx=>x == Value.type "int")=true:=by
   simp only[List.all_toArray,List.all_map,List.all_eq_true]
   intro _ _
   rfl
  have h0:(List.map (λ_=>Value.type "int") (v::a)).toArray[0]?=some (Value.type "int"):=by simp
  rw[h0]
  simp only[c,if_true,pure_bind,Option.any_some]
  exact GV h
end
theorem IsNts.at (x:IsNts h b n) (e:∀ o,h.get? b=some o->h'.get? b=some o):IsNts h' b n:=by
 obtain ⟨it,⟨o,e1,r⟩,j⟩:=x
 exact #[it,#[o,e o e1,r],j]
structure NRow (h:Heap) (bs:List Addr) (ns:List (List Int)):Prop where
 len:ns.length=bs.length
 at':∀ (i:Nat) (b:Addr) (n:List Int),bs[i]?=some b->ns[i]?=some n->IsNts h b n/\n≠[]
 asc:∀ (i:Nat) (x y:List Int),ns[i]?=some y->ns[i+1]?=some x->HT.lexLt x y=false
theorem NRow.keep (r:NRow h bs ns) (k:∀ b∈bs,∀ o,h.get? b=some o->h'.get? b=some o):NRow h' bs ns :=
 #[r.len,λi b n e1 a=>#[(r.at' i b n e1 a).1.at (k b (He e1)),(r.at' i b n e1 a).2],r.asc]
theorem jx:∀ bs:List Addr,Vals (bs.map V.ref) (bs.map Value.ref)
 | []=>.nil
 | _::bs=>.cons rfl (jx bs)
end L2
end
section
namespace L2
open PySem
abbrev Up (xs:Array Nat):Prop:=xs.toList.Pairwise (· < ·)
theorem Up.at (h:Up xs) {i k:Nat} (a:i < k) (b:k < xs.size):xs[i]'(by omega) < xs[k]:=by
 have:=List.pairwise_iff_getElem.mp h i k (by simp;lia) (by simpa using b) a
 simpa using this
theorem A7 (h:Up xs) (j:Nat):∀ (fuel lo hi:Nat),hi - lo<=fuel->lo<=hi->hi<=xs.size ->
  (∀ i (z:i < xs.size),i < lo->xs[i] < j)->(∀ i (z:i < xs.size),hi<=i->j<=xs[i]) ->
  (∀ i (z:i < xs.size),i < SetTable.below.go xs j fuel lo hi->xs[i] < j)/\(∀ i (z:i < xs.size),SetTable.below.go xs j fuel lo hi<=i->j<=xs[i])/\SetTable.below.go xs j fuel lo hi<=xs.size:=by
 intro fuel
 induction fuel with
 | zero =>
  intro lo hi f l z a b
  have e:lo=hi:=by lia
  subst e
  unfold SetTable.below.go
  exact #[a,b,z]
 | succ fuel ih =>
  intro lo hi f l z a b
  unfold SetTable.below.go
  by_cases k:lo < hi
  .rw[if_pos k]
   have hm:(lo+hi) / 2 < xs.size:=by lia
   have m:xs.getD ((lo+hi) / 2) j=xs[(lo+hi) / 2]:=by simp[Array.getD,hm]
   dsimp only
   rw[m]
   by_cases c:xs[(lo+hi) / 2] < j
   .rw[if_pos c]
    refine ih _ _ (by lia) (by lia) z (λi g d=>?_) b
    by_cases e:i=(lo+hi) / 2
    .subst e;exact c
    .exact Nat.lt_trans (h.at (show i < (lo+hi) / 2 by lia) hm) c
   .rw[if_neg c]
    refine ih _ _ (by lia) (by lia) (by lia) a (λi g d=>?_)
    by_cases e:i=(lo+hi) / 2
    .subst e;lia
    .have:=h.at (show (lo+hi) / 2 < i by lia) g;lia
  .rw[if_neg k]
   have e:lo=hi:=by lia
   subst e
   exact #[a,b,z]
theorem m8 (h:Up xs) (j:Nat):(∀ i (z:i < xs.size),i < SetTable.below xs j->xs[i] < j)/\(∀ i (z:i < xs.size),SetTable.below xs j<=i->j<=xs[i])/\SetTable.below xs j<=xs.size :=
 A7 h j xs.size 0 xs.size (by lia) (by lia) (Hi _) (λi z c=>by lia) (λi z c=>by lia)
theorem uO (h:Up xs) {i:Nat} (hi:i < xs.size):SetTable.below xs (xs[i]+1)=i+1:=by
 obtain ⟨a,b,c⟩:=m8 h (xs[i]+1)
 generalize SetTable.below xs (xs[i]+1)=r at *
 by_cases l:r<=i
 .have:=b i hi l;lia
 .by_cases g:i+1 < r
  .have h1:=a (i+1) (by lia) g
   have h2:=h.at (show i < i+1 by lia) (by lia)
   lia
  .lia
theorem uN (h:Up xs):SetTable.below xs 0=0:=by
 obtain ⟨a,b,c⟩:=m8 h 0
 by_cases l:0 < SetTable.below xs 0
 .have:=a 0 (by lia) l;lia
 .lia
theorem wn (h:Up xs) {j:Nat} (m:(xs[SetTable.below xs j]? == some j)=false):Up (SetTable.insertAt xs (SetTable.below xs j) j):=by
 obtain ⟨a,b,c⟩:=m8 h j
 show (SetTable.insertAt xs (SetTable.below xs j) j).toList.Pairwise _
 rw[SetTable.toList_insertAt]
 generalize SetTable.below xs j=r at *
 have g:∀ x∈xs.toList.take r,x < j:=λx d=>by
  obtain ⟨i,hi,rfl⟩:=List.mem_take_iff_getElem.mp d
  simp at hi
  exact a i (by lia) (by lia)
 have f:∀ x∈xs.toList.drop r,j < x:=λx d=>by
  obtain ⟨i,hi,rfl⟩:=List.mem_drop_iff_getElem.mp d
  simp at hi
  have h1:=b (r+i) (by lia) (by lia)
  have h2:xs[r]'(by lia)≠j:=by
   intro e
   rw[Array.getElem?_eq_getElem (by lia),e] at m
   simp at m
  simp only[Array.getElem_toList]
  rcases Nat.eq_zero_or_pos i with e | e
  .subst e
   simp only[Nat.add_zero] at h1 ⊢
   lia
  .have h3:=h.at (show r < r+i by lia) (by lia)
   have n:=b r (by lia) (Hi _)
   lia
 have k:(xs.toList.take r++xs.toList.drop r).Pairwise (· < ·):=by rw[List.take_append_drop];exact h
 rw[List.pairwise_append] at k ⊢
 refine #[k.1,List.pairwise_cons.mpr #[f,k.2.1],λx d y l=>?_]
 rcases G6.mp l with rfl | l
 .exact g x d
 .exact Nat.lt_trans (g x d) (f y l)
theorem wy {t:SetTable} {j:Nat} (h:∀ i,t.slot j≠.live i):(t.place[SetTable.below t.place j]? == some j)=false:=by
 cases e:(t.place[SetTable.below t.place j]? == some j) with
 | false=>rfl
 | true =>
  refine absurd ?_ (h (SetTable.below t.place j))
  unfold SetTable.slot
  simp only[e,if_true]
theorem zE {h:Int} {j:Nat}:∀ (n:Nat) (p:SetTable.Probe),(∀ x,p.dummy=some x->∀ i,t.slot x≠.live i) ->
  SetTable.probe.go t f h n p=some (.empty j d)->∀ i,t.slot (d.getD j)≠.live i:=by
 intro n
 induction n with
 | zero=>intro p _ e;simp[SetTable.probe.go] at e
 | succ n ih =>
  intro p g e
  have a:∀ q:SetTable.Probe,(t.advance q).dummy=q.dummy:=λq=>by unfold SetTable.advance;split <;> rfl
  unfold SetTable.probe.go at e
  split at e
  .rename_i c
   simp only[Option.some.injEq,SetTable.Met.empty.injEq] at e
   obtain ⟨e1,k⟩:=e
   cases hd:p.dummy with
   | none=>rw[<- k,hd,Option.getD_none,<- e1,c];exact λi z=>by cases z
   | some x=>rw[<- k,hd,Option.getD_some];exact g x hd
  .rename_i c
   refine ih _ (λx b=>?_) e
   rw[a] at b
   simp only[Option.some.injEq] at b
   rw[<- b,c]
   exact λi z=>by cases z
  .split at e
   .simp at e
   .exact ih _ (λx b=>g x (by rw[<- b,a])) e
theorem xv {t:SetTable} {h:Int} {j:Nat} (e:t.freeSlot h=some (j,b)):∀ i,t.slot j≠.live i:=by
 unfold SetTable.freeSlot at e
 split at e
 .rename_i f d a
  simp only[Option.some.injEq,Prod.mk.injEq] at e
  rw[<- e.1]
  exact zE _ _ (λx c=>by simp[SetTable.probeStart] at c) a
 .cases e
structure Tab (b:Bool) (t:SetTable):Prop where
 up:Up t.place
 led:t.led=b
theorem yg (n:Nat):Up (Array.range n):=by
 show (Array.range n).toList.Pairwise _
 rw[Array.toList_range]
 exact List.pairwise_lt_range
theorem Tab.stand (h:Tab b t) (n:Nat):Tab b (t.standIn n):=#[yg n,h.led]
theorem Tab.or (h:Tab b t) (n:Nat):Tab b (t.orStandIn n):=by
 unfold SetTable.orStandIn
 split
 .exact h
 .exact h.stand n
theorem Tab.new (h:Tab b t) (es:Array (Int×Value)) (k:Int) (x:Value):Tab b (layNew t es k x).2.1:=by
 unfold layNew
 split
 .rename_i j d e
  have z:Tab b (t.put j).1:=#[wn h.up (wy (xv e)),h.led]
  exact z.or _
 .exact h.stand _
theorem Tab.all (h:Tab b t) (es:Array (Int×Value)) (n:Nat):Tab b (relayAll t es n).2.1:=by
 unfold relayAll
 split
 .rename_i t' order e
  dsimp only
  split
  .unfold SetTable.relaid SetTable.laid at e
   simp only[Option.bind_eq_bind,Hx,Option.pure_def,Option.some.injEq,Prod.mk.injEq] at e
   obtain ⟨k,_,e1,_⟩:=e
   subst e1
   refine #[?_,h.led]
   have aux:∀ (f:Nat->Option Nat) (m:Nat),((List.filterMap (λj=>(f j).map (j,·)) (List.range m)).map (·.1)).Pairwise (· < ·):=λf m=>by
    rw[List.pairwise_map,List.pairwise_filterMap]
    refine List.pairwise_lt_range.imp λ{a c} d x g y i=>?_
    rw[G3] at g i
    obtain ⟨_,_,rfl⟩:=g
    obtain ⟨_,_,rfl⟩:=i
    exact d
   exact aux _ _
  .exact h.stand _
 .exact h.stand _
theorem Tab.off (h:Tab b t) (c:Bool):Tab b (if c=true then t else { t with plain:=false }):=by
 cases c
 .exact #[h.up,h.led]
 .exact h
end L2
end
section
namespace L2
open PySem PyProof.Rows
abbrev dP (w:World):Bool:=!w.params.followText "set-order"
def SetL (prog:Program) (w:World) (h:Heap) (a:Addr) (ns:List Int):Prop :=
 ∃ o es b t ms,h.get? a=some o/\o.ExactSet/\o.data=.set es b t/\ElemsOf (intKind prog w) es.toList/\IntsAre (es.toList.map (·.2)) ms/\ms.Perm ns/\es.size < scanBound/\t.fits es.size=true/\Tab (dP w) t
theorem SetL.keep (x:SetL prog w h a ns) (k:∀ o,h.get? a=some o->h'.get? a=some o):SetL prog w h' a ns :=
 let #[o,es,b,t,ms,e,r]:=x;#[o,es,b,t,ms,k o e,r]
theorem SetL.typeIs {s:Shared} (x:SetL prog w s.heap a ns):s.TypeIs (.ref a) "set" :=
 let #[o,_,_,_,_,e,c,_]:=x;#[o,e,c.1]
def met (ns:List Int) (k:Int):List Int:=if k∈ns then ns else ns++[k]
theorem fv:∀ {l:List (Int×Value)},ElemsOf (intKind prog w) l->∃ ms,IntsAre (l.map (·.2)) ms
 | [],_=>#[[],.nil]
 | e::l,h=>by
  obtain ⟨ms,hm⟩:=fv h.tail
  obtain ⟨⟨k,b,_⟩,_⟩:=h.head
  obtain ⟨t,a⟩:=Value.isInt_shape b
  refine #[k::ms,?_]
  rw[Hm,a]
  exact .cons k t hm
theorem kB (p:List.Perm vs ws) (a:IntsAre vs ns) (b:IntsAre ws ms):ns.Perm ms:=by
 rw[<- a.nums,<- b.nums]
 exact p.map _
section
variable {prog:Program} {w:World} {A:Around} {E:Value->Shared->Prop} {s:Shared}
theorem xw {l:List (Int×Value)} {k:Int} (hi:IntsAre (l.map (·.2)) ms):(l.findIdx? (λe=>(intKind prog w).is k e.2)).isSome=true ↔ k∈ms:=by
 induction l generalizing ms with
 | nil=>cases hi;simp
 | cons e l ih =>
  obtain ⟨h0,v⟩:=e
  rw[Hm] at hi
  cases hi with
  | cons n t hr =>
   rw[List.findIdx?_cons]
   by_cases c:k=n
   .subst c
    rw[if_pos (intKind_is prog w k t)]
    simp
   .have:(intKind prog w).is k (Value.int n t)=false:=by
     cases z:(intKind prog w).is k (Value.int n t) with
     | false=>rfl
     | true=>exact absurd ((intKind prog w).inj _ _ _ z (intKind_is prog w n t)) c
    rw[this]
    simp only[Hz,if_false,Option.isSome_map,G6,c,false_or]
    exact ih hr
theorem qV {k:Int} (ρ:SetL prog w s.heap a ns) (H:ns.length+1 < scanBound) (h:∀ b h',Heap.SameBut a s.heap h'->SetL prog w h' a (met ns k)->Q b { s with heap:=h' }):wpAny (model prog w) A (setAddHashed a (.int k tk) (hashInt k)) Q E s:=by
 obtain ⟨o,es,G,t,ms,B,hex,hd,l,hi,y,S,hf,P⟩:=ρ
 have hn:es.size=ns.length:=by rw[<- y.length_eq,<- hi.length,Hb,Array.length_toList]
 have F:=xw (prog:=prog) (w:=w) (k:=k) hi
 unfold setAddHashed setAddHashedIn
 refine GW (GU (wpAny_setState_of B hd hf ?_))
 dsimp only
 rw[if_pos (byScan_of (x:=.int k tk) rfl S l)]
 refine GU (GU (wpAny_rule (GU (wpAny_setScan_of (knd:=intKind prog w) (intKind_is prog w k tk) B hd hf l ?_))))
 cases W:List.findIdx? (λe=>(intKind prog w).is k e.2) es.toList with
 | some j =>
  rw[W] at F
  have τ:k∈ns:=y.mem_iff.mp (F.mp rfl)
  refine GV (GV ?_)
  have:=h false s.heap (Heap.SameBut.refl a s.heap) #[o,es,G,t,ms,B,hex,hd,l,hi,by rw[met,if_pos τ];exact y,S,hf,P]
  exact this
 | none =>
  rw[W] at F
  have τ:k ∉ ns:=λz=>by have:=F.mpr (y.mem_iff.mpr z);simp at this
  have p:=layNew_perm t es (hashInt k) (.int k tk)
  have f1:=layNew_fits t es (hashInt k) (.int k tk)
  have t1:=P.new es (hashInt k) (.int k tk)
  generalize layNew t es (hashInt k) (.int k tk)=L at p f1 t1 ⊢
  obtain ⟨d,u,σ,φ⟩:=L
  dsimp only at p f1 t1 ⊢
  rw[Array.toList_push] at p
  have n:ElemsOf (intKind prog w) d.toList:=(l.push (intKind_is prog w k tk) rfl).perm p
  obtain ⟨K,V⟩:=fv n
  have b1:d.size=es.size+1:=by have:=p.length_eq;simpa using this
  have q1:K.Perm (met ns k):=by
   have X:IntsAre ((es.toList++[(hashInt k,Value.int k tk)]).map (·.2)) (ms++[k]):=by
    rw[List.map_append]
    exact hi.append (.cons k tk .nil)
   rw[met,if_neg τ]
   exact (kB (p.map _) V X).trans (y.append_right [k])
  have done:∀ (h1:Heap) (g:Obj) (f:Array (Int×Value)) (m:Nat) (i:SetTable),h1.get? a=some g->g.ExactSet->g.data=.set f m i->f.toList.Perm d.toList->i.fits f.size=true->Tab (dP w) i->Heap.SameBut a s.heap h1->Q true { s with heap:=h1 }:=by
   intro h1 g f m i g1 g2 g3 C g5 g6 g7
   obtain ⟨M,R⟩:=fv (n.perm C)
   exact h true h1 g7 #[g,f,m,i,M,g1,g2,g3,n.perm C,R,(kB (C.map _) R V).trans q1,by have:=C.length_eq;simp at this;lia,g5,g6]
  have T:∀ (b:Bool) {N:Shared} {J:Unit->Shared->Prop},J () N->wpAny (model prog w) A (match b with | true=>rule "set.scan.the-table-gave-way" | false=>pure ()) J E N:=λb N J q=>by
   cases b
   .exact GV q
   .exact wpAny_rule q
  have two:∀ (c:Bool),wpAny (model prog w) A (do
    storeSet a d (if c=true then u else { u with plain:=false })
    if (!σ && (if c=true then u else { u with plain:=false }).tooFull)=true then do
     let r:=relayAll (if c=true then u else { u with plain:=false }) d (SetTable.grown d.size)
     (match r.2.2 with | true=>rule "set.scan.the-table-gave-way" | false=>pure ())
     storeSet a r.1 r.2.1
     pure (some true)
    else pure (some true)) (λr s'=>r=some true/\Q true s') E s:=by
   intro c
   have i:=t1.off c
   have f2:(if c=true then u else { u with plain:=false }).fits d.size=true:=by cases c <;> exact f1
   generalize (if c=true then u else { u with plain:=false })=v at i f2 ⊢
   refine GU (wpAny_storeSet_of (hz:=fits_of_scanBound (by lia)) B hd ?_)
   have g:(s.heap.update a (Obj.putSet d v)).get? a=some { o with data:=.set d (G+1) v }:=by
    have:=Hs (Obj.putSet d v) B (by rw[putSet_of d v hd];rfl)
    rw[putSet_of d v hd] at this
    exact this
   split
   .have D:=relayAll_perm v d (SetTable.grown d.size)
    have I:=relayAll_fits v d (SetTable.grown d.size)
    have t3:=i.all d (SetTable.grown d.size)
    generalize relayAll v d (SetTable.grown d.size)=r at D I t3 ⊢
    obtain ⟨f,v2,g2⟩:=r
    dsimp only at D I t3 ⊢
    have b3:f.size=d.size:=by have:=D.length_eq;simpa using this
    refine GU (T _ (GU (wpAny_storeSet_of (hz:=fits_of_scanBound (by lia)) g rfl (GV #[rfl,?_]))))
    have o2:((s.heap.update a (Obj.putSet d v)).update a (Obj.putSet f v2)).get? a=some { o with data:=.set f (G+1+1) v2 }:=by
     have:=Hs (Obj.putSet f v2) g (by rw[putSet_of f v2 rfl];rfl)
     rw[putSet_of f v2 rfl] at this
     exact this
    exact done _ _ f _ v2 o2 hex rfl D I t3 ((Heap.SameBut.update _ a _).trans (Heap.SameBut.update _ a _))
   .refine GV #[rfl,?_]
    exact done _ _ d _ v g hex rfl (List.Perm.refl _) f2 i (Heap.SameBut.update _ a _)
  have fin:∀ (r:Option Bool) (s':Shared) {x:Sem Bool},r=some true/\Q true s'->wpAny (model prog w) A (match r with | some b=>pure b | none=>x) Q E s':=λr s' x z=>by
   obtain ⟨rfl,q⟩:=z
   exact GV q
  refine GU (T _ ?_)
  split
  .refine GU (wpAny_of_eq (a:=true) rfl ?_)
   exact wpAny_mono (two true) (λr s' z=>fin r s' z) λ_ _ z=>z
  .refine GU (GV ?_)
   exact wpAny_mono (two true) (λr s' z=>fin r s' z) λ_ _ z=>z
end
theorem pK (ns:List Int) (k:Int):(met ns k).length<=ns.length+1:=by
 unfold met
 split <;> simp
theorem rP:∀ (ks ns:List Int),(ks.foldl met ns).length<=ns.length+ks.length
 | [],ns=>Hi _
 | k::ks,ns=>by
  have a:=rP ks (met ns k)
  have b:=pK ns k
  simp only[List.foldl_cons,Hu]
  lia
section
variable {prog:Program} {w:World} {A:Around} {E:Value->Shared->Prop}
theorem yJ (z:A.handled=none) (m:I≠S) (B:l≠S) (D:l≠I) :
  ∀ (k i:Nat) (s:Shared) (ns ms:List Int),items.size - i=k->s.heap.IsTupleIter I l i->s.heap.IsTuple l items->IntsAre (items.toList.drop i) ms->SetL prog w s.heap S ns->ns.length+ms.length+1 < scanBound ->
   (∀ h' tk,SetL prog w h' S (ms.foldl met ns)->(∀ b o,b≠S->b≠I->s.heap.get? b=some o->h'.get? b=some o)->R (.ok (.ret .none)) { s with heap:=h',toks:=tk }) ->
   codeAny (model prog w) A (.builtin "set.update.loop" #[[.ref S,.ref I],[]]) R s:=by
 intro k
 induction k with
 | zero =>
  intro i s ns ms E hi f a p g h
  refine codeAny_builtin F.entry_set_update_loop ?_
  rw[Around.under_plainId F.plain_set_update_loop _]
  have e:ms=[]:=by
   rw[List.drop_eq_nil_of_le (by simp;lia)] at a
   cases a
   rfl
  subst e
  refine GU (wpAny_pyNext_tuple_end (s:=s) z hi f (Array.getElem?_eq_none (by lia)) λh' d=>?_)
  exact GV (h h' s.toks (p.keep λo e=>d _ _ (Ne.symm m) e) λb o _ c e=>d _ _ c e)
 | succ k ih =>
  intro i s ns ms E hi f a p g h
  have lt:i < items.size:=by lia
  refine codeAny_builtin F.entry_set_update_loop ?_
  rw[Around.under_plainId F.plain_set_update_loop _]
  rw[List.drop_eq_getElem_cons (by simpa using lt)] at a
  generalize x:items.toList[i]=v at a
  have d:items[i]?=some v:=by rw[<- x,Array.getElem?_eq_getElem lt,Array.getElem_toList]
  cases a with
  | @cons n t _ ms' hr =>
   refine GU (wpAny_pyNext_tuple_item (s:=s) hi f d λh1 r s1=>?_)
   have y:SetL prog w h1 S ns:=p.keep λo e=>s1.extBut _ _ (Ne.symm m) e
   have C:h1.IsTuple l items:=f.extBut s1.extBut D
   refine GU (GW (GW (GU ((intKind prog w).pyHash (k:=n) (intKind_is prog w n t) ?_))))
   refine qV (s:={ s with heap:=h1,toks:=s.toks+1 }) y (by simp only[Hu] at g;lia) λb h2 s2 u=>?_
   refine GV #[plainId_quiet F.plain_set_update_loop _,?_]
   have G:=pK ns n
   refine ih (i+1) { s with heap:=h2,toks:=s.toks+1 } (met ns n) ms' (by lia) (r.extBut s2.extBut m) (C.extBut s2.extBut B) hr u (by simp only[Hu] at g;lia) λh3 j q k3=>?_
   exact h h3 j q λb o c1 c2 e=>k3 b o c1 c2 (s2.extBut _ _ c1 (s1.extBut _ _ c2 e))
variable {s:Shared}
theorem vx (h:∀ o,o=({ cls:=.type "set",dict:=none,data:=.set (List.toArray []) 0 (.fresh 0 0 (dP w)) }:Obj)->Q (.ref s.heap.objs.size) { s with heap:=s.heap.push o }) :
  codeAny (model prog w) A (.call (.builtin "set.__new__") #[[.type "set",a],[]]) (wants Q E) s:=by
 refine codeAny_of_tree ?_
 refine GU (wpAny_of_eq (F.newCall_set_1 a) (GV #[plainId_quiet F.plain_set_new _,codeAny_builtin F.entry_set_new ?_]))
 rw[Around.under_plainId F.plain_set_new _]
 have sub:=sub_set_self
 obtain ⟨b,g,d,tk,os⟩:=s
 wp_walk
 refine wpAny_askSetting ?_
 wp_walk
 exact h _ rfl
theorem ql (D:A.handled=none) (u:s.heap.IsTuple l items) (hi:IntsAre items.toList ns) (G:items.size+1 < scanBound) (h:∀ h' tk,SetL prog w h' s.heap.objs.size (ns.foldl met [])->(∀ b o,s.heap.get? b=some o->h'.get? b=some o)->Q (.ref s.heap.objs.size) { s with heap:=h',toks:=tk }) :
  wpAny (model prog w) A (call (.type "set") [.ref l]) Q E s:=by
 obtain ⟨c,tl,x⟩:=F.called_set.mro
 have made:=F.called_set.made
 have below:=F.called_set.sub
 have j:=F.called_set.notType
 have y:=F.called_set.canCreate
 have one:=F.typeCall_set_1 (.ref l)
 obtain ⟨i,g,d,tk,os⟩:=s
 refine wpAny_call (codeAny_of_tree (GV #[Code.quiet_builtin _ (by decide +kernel),codeAny_builtin F.entry_type_call ?_]))
 rw[Around.under_plain (weight_type_call_type "set" [.ref l] []) rfl]
 repeat (any_goals (first | assumption | wp_step))
 refine codeAny_mono (vx (E:=E) (Q:=λv t=>v=.ref i.objs.size/\t=#[i.push { cls:=.type "set",dict:=none,data:=.set (List.toArray []) 0 (.fresh 0 0 (dP w)) },g,d,tk,os]) λo e=>by subst e;exact #[rfl,rfl]) ?_
 rintro (e | f) t n
 .exact n
 cases f with
 | ret v =>
  obtain ⟨rfl,rfl⟩:=n
  have got:(i.push { cls:=.type "set",dict:=none,data:=.set (List.toArray []) 0 (.fresh 0 0 (dP w)) }).get? i.objs.size=some { cls:=.type "set",dict:=none,data:=.set (List.toArray []) 0 (.fresh 0 0 (dP w)) }:=Ha _ rfl
  have ty:(#[i.push { cls:=.type "set",dict:=none,data:=.set (List.toArray []) 0 (.fresh 0 0 (dP w)) },g,d,tk,os]:Shared).TypeIs (.ref i.objs.size) "set":=#[_,got,rfl]
  have p:(i.push { cls:=.type "set",dict:=none,data:=.set (List.toArray []) 0 (.fresh 0 0 (dP w)) }).IsTuple l items:=u.push _
  refine GU (wpAny_isInstance ty sub_set_self (wpAny_ite_false rfl ?_))
  refine GU (GW (wpAny_callSpecial?_slot ty F.called_set.init (wpAny_call (codeAny_call_builtin F.called_set.init.plain F.entry_set_init (check_set_init_1 ty ?_)))))
  obtain ⟨⟨c2,J,H,s2⟩,h2,r,I,q⟩:=id p
  simp only at r q
  subst r q
  have C:=F.sub_tuple_set
  have B:=F.sub_tuple_frozenset
  wp_walk using wpAny_pyIter_tuple p
  have lt:l < i.objs.size:=by obtain ⟨_,e,_⟩:=u;exact G8 e
  refine yJ (l:=l) (items:=items) (by simpa using D) (by rw[HC];exact Nat.ne_of_gt (Nat.lt_succ_self _)) (Hk lt) (by rw[HC];exact Hk (Nat.lt_succ_of_lt lt)) items.size 0 _ [] ns (by lia) #[_,Ha _ rfl,rfl,rfl] (p.push _) (by simpa using hi) #[_,(List.toArray []),0,_,[],GZ _ got,#[rfl,rfl,rfl],rfl,(λe he=>by simp at he),.nil,List.Perm.refl _,by decide,rfl,#[List.Pairwise.nil,rfl]] (by have:=hi.length;simp at this;simp;lia) λh' m S k=>?_
  wp_walk
  exact h h' m S λb o e=>k b o (λz=>by subst z;exact absurd (G8 e) (Nat.lt_irrefl _)) (λz=>by have a:=G8 e;rw[z,HC] at a;exact absurd a (Nat.not_lt.mpr (Nat.le_succ _))) (GZ _ (GZ _ e))
 | _=>exact n.elim
end
theorem Cq (f:Nat->Nat):∀ (n k:Nat) (left:List α) (out:Array α),left.length<=n->(pickOrder.go f n k left out).toList.Perm (out.toList++left):=by
 intro n
 induction n with
 | zero =>
  intro k left out h
  obtain rfl:left=[]:=HK.mp (by lia)
  simp[pickOrder.go]
 | succ n ih =>
  intro k left out h
  unfold pickOrder.go
  cases e:left[f k % left.length]? with
  | none =>
   have d:left.length<=f k % left.length:=List.getElem?_eq_none_iff.mp e
   have z:left.length=0:=by
    rcases Nat.eq_zero_or_pos left.length with z | z
    .exact z
    .have:=Nat.mod_lt (f k) z;lia
   obtain rfl:left=[]:=HK.mp z
   simp
  | some x =>
   have b:f k % left.length < left.length:=(Hc.mp e).1
   dsimp only
   refine (ih _ _ _ (by rw[List.length_eraseIdx];split <;> lia)).trans ?_
   rw[Array.toList_push,List.append_assoc]
   refine List.Perm.append_left _ ?_
   rw[List.eraseIdx_eq_take_drop_succ]
   have c:left=left.take (f k % left.length)++x::left.drop (f k % left.length+1):=by
    rw[<- (Hc.mp e).2,<- List.drop_eq_getElem_cons b,List.take_append_drop]
   have p:=(List.perm_middle (a:=x) (l₁:=left.take (f k % left.length)) (l₂:=left.drop (f k % left.length+1))).symm
   rw[<- c] at p
   exact p
theorem wN (f:Nat->Nat) (xs:Array α):(pickOrder f xs).toList.Perm xs.toList:=by
 have:=Cq f xs.size 0 xs.toList (List.toArray []) (by simp)
 simpa[pickOrder] using this
section
variable {prog:Program} {w:World} {A:Around} {E:Value->Shared->Prop}
theorem oT:∀ (n:Nat) (xs:List α) (s:Shared) {Q:List α->Shared->Prop},xs.length<=n->(∀ ys d',ys.Perm xs->Q ys { s with drawn:=d' })->wpAny (model prog w) A (drawOrder n xs) Q E s
 | 0,xs,s,Q,h,hQ=>by
  obtain rfl:xs=[]:=HK.mp (by lia)
  exact GV (hQ [] s.drawn (List.Perm.refl _))
 | n+1,[],s,Q,h,hQ=>GV (hQ [] s.drawn (List.Perm.refl _))
 | n+1,x::xs,s,Q,h,hQ=>by
  unfold drawOrder
  refine GU (λΓ p hΓ=>?_)
  show Sem.wp _ _ (Sem.choose _ _ Sem.pure) _ _ _ _
  rw[Sem.wp_choose]
  refine #[by simp,?_]
  generalize hi:(model prog w).w.draws .order (s.drawn.get .order) % (x::xs).length=i
  have lt:i < (x::xs).length:=by rw[<- hi];exact Nat.mod_lt _ (by simp)
  refine (show wpAny (model prog w) A (pure i) _ E { s with drawn:=s.drawn.bump .order } from GV ?_) Γ p hΓ
  obtain ⟨y,a⟩:∃ y,(x::xs)[i]?=some y:=#[_,G7 lt]
  rw[a]
  dsimp only
  refine GU (oT n ((x::xs).eraseIdx i) _ (by rw[List.length_eraseIdx,if_pos lt];simp at h ⊢;lia) λys d' c=>?_)
  refine GV (hQ (y::ys) d' ?_)
  refine (c.cons y).trans ?_
  rw[List.eraseIdx_eq_take_drop_succ]
  have b:x::xs=(x::xs).take i++y::(x::xs).drop (i+1):=by
   rw[<- (Hc.mp a).2,<- List.drop_eq_getElem_cons lt,List.take_append_drop]
  exact (List.perm_middle.symm).trans (by rw[<- b])
end
theorem slot_next:Slot "set_iterator" "__next__" "set_iterator.__next__" :=
 .of (owner:="set_iterator") (n:="__next__") (by rw[typeLookup_type,builtinLookup_eq_fast];kernel_rfl) (by decide +kernel) (by decide +kernel) (by decide +kernel) (by first | exact .inl (by decide +kernel) | exact .inr (by decide +kernel)) (by rw[isSubtype_type];kernel_rfl)
theorem mR:entryFor table "set_iterator.__next__"=some Builtin.«set_iterator.__next__»:=entryFor_of_tree (by kernel_rfl)
theorem zN:Manifest.owners.lookup (String.ofList (['r','o','t','a','r','e','t','i','_','t','e','s']:List Char).reverse)=some Manifest.sig_set_iterator:=by kernel_rfl
theorem o3 (a:Value):argsOk "set_iterator.__next__" #[[a],[]]:=by
 unfold argsOk
 rw[signature?_of (id:="set_iterator.__next__") (n:=['_','_','t','x','e','n','_','_']) (o:=['r','o','t','a','r','e','t','i','_','t','e','s']) (by kernel_rfl) zN]
 kernel_rfl
theorem uw:entryFor table "set.__iter__"=some Builtin.«frozenset.__iter__»:=entryFor_alias (id':="frozenset.__iter__") (by kernel_rfl) rfl (by decide +kernel) (by kernel_rfl)
def SIt (w:World) (h:Heap) (I a:Addr) (es:Array (Int×Value)) (b:Nat) (t:SetTable) (ord:List Value) (i:Nat):Prop :=
  ∃ first,h.get? I=some { cls:=.type "set_iterator",dict:=none,data:=.fields (List.toArray [first,rawInt i,.ref a,rawInt es.size,rawInt b]),slots:=(List.toArray []) } /\
    ((w.params.followText "set-order"=true /\ first=rawInt 0 /\ ord=(pickOrder (w.params.setOrder a b) es).toList.map (·.2)) \/
     (w.params.followText "set-order"=false /\ (!t.plain && es.size > 1)=false /\ (∃ k:Nat,first=rawInt k /\ SetTable.below t.place k=i) /\ ord=es.toList.map (·.2)) \/
     (∃ (T:Addr) (ps:List Nat),first=.ref T /\ T≠I /\ h.get? T=some { cls:=.type "tuple",data:=.seq (ps.map λ(p:Nat)=>rawInt p).toArray } /\ ps.Perm (List.range es.size) /\ ord=ps.filterMap λp=>es[p]?.map (·.2)))
structure SAt (w:World) (h:Heap) (a:Addr) (es:Array (Int×Value)) (ep:Nat) (t:SetTable):Prop where
 at':∃ o,h.get? a=some o/\o.data=.set es ep t
 fits:t.fits es.size=true
 tab:Tab (dP w) t
section
variable {prog:Program} {w:World} {A:Around} {E:Value->Shared->Prop} {s:Shared}
theorem yI {c:Nat} {i:Nat} (τ:SIt w s.heap I a es c t ord i) (J:SAt w s.heap a es c t) (d:ord[i]?=some v) (z:∀ h',SIt w h' I a es c t ord (i+1)->Heap.SameBut I s.heap h'->Q (some v) { s with heap:=h' }):wpAny (model prog w) A (pyNext (.ref I)) Q E s:=by
 obtain ⟨⟨o,f,hd⟩,hf,C⟩:=J
 obtain ⟨first,g1,m⟩:=τ
 obtain ⟨h,g,H,tk,os⟩:=s
 have ty:(#[h,g,H,tk,os]:Shared).TypeIs (.ref I) "set_iterator":=#[_,g1,rfl]
 have led:=C.led
 unfold pyNext
 refine GU (wpAny_attempt (wpAny_callSpecial?_slot ty slot_next (wpAny_call_entry slot_next ty mR ?_ (o3 _))))
 rcases m with ⟨l,rfl,b⟩ | ⟨l,nd,⟨k,rfl,bk⟩,b⟩ | ⟨T,ps,rfl,B,gT,pp,b⟩
 .have N:(model prog w).w.params.followText "set-order"=true:=l
  have r:(pickOrder (w.params.setOrder a c) es)[i]?.map (·.2)=some v:=by rw[<- d,b];simp
  obtain ⟨x,G,ex⟩:=G3.mp r
  have at2:Option.map (λe:Int×Value=>(e.2,Int.toNat 0)) (pickOrder (({ program:=(model prog w).prog,params:=(model prog w).w.params }:Setting).params.setOrder a c) es)[(i:Int).toNat]?=some (v,0):=by
   refine (show Option.map _ (pickOrder (w.params.setOrder a c) es)[(i:Int).toNat]?=_ from ?_)
   rw[Int.toNat_natCast,G,<- ex];rfl
  wp_walk using wpAny_setState_of f hd hf,wpAny_askSetting
  rw[at2]
  wp_walk
  exact #[_,rfl,GV (z _ #[rawInt 0,Hs _ (Hs _ g1 rfl) rfl,.inl #[l,rfl,b]] ((Heap.SameBut.update ..).trans (Heap.SameBut.update ..)))]
 .have N:(model prog w).w.params.followText "set-order"=false:=l
  have D:t.led=true:=by rw[led];simp[dP,l]
  have lt:i < es.size:=by
   have:=(Hc.mp d).1
   rw[b] at this
   simpa using this
  have P:t.place.size=es.size:=by
   unfold SetTable.fits at hf
   rw[Bool.and_eq_true] at hf
   exact eq_of_beq hf.1
  have ev:es[i].2=v:=by
   rw[b,Hh,Array.getElem?_toList,Array.getElem?_eq_getElem lt] at d
   simpa using d
  have j:SetTable.below t.place (k:Int).toNat=i:=bk
  wp_walk using wpAny_setState_of f hd hf,wpAny_askSetting
  refine wpAny_ite_false (show decide ((!t.plain && decide (es.size > 1))=true)=false by rw[nd];rfl) ?_
  wp_walk
  rw[j,Array.getElem?_eq_getElem lt,Array.getElem?_eq_getElem (show i < t.place.size by lia)]
  wp_walk
  subst ev
  exact #[_,rfl,GV (z _ #[rawInt (t.place[i]+1:Nat),Hs _ (Hs _ g1 rfl) rfl,.inr (.inl #[l,nd,#[_,rfl,uO C.up (by lia)],b])] ((Heap.SameBut.update ..).trans (Heap.SameBut.update ..)))]
 .obtain ⟨p,x,n,y,ev⟩:∃ p x,ps[i]?=some p/\es[p]?=some x/\x.2=v:=by
   have all:∀ (l:List Nat),(∀ p∈l,p < es.size)->∀ i:Nat,(l.filterMap λp=>es[p]?.map λx:Int×Value=>x.2)[i]?=l[i]?.bind λp=>es[p]?.map λx:Int×Value=>x.2:=by
    intro l
    induction l with
    | nil=>intro _ i;simp
    | cons p l ih =>
     intro u i
     rw[List.filterMap_cons,Array.getElem?_eq_getElem (u p GX)]
     cases i with
     | zero=>simp[Array.getElem?_eq_getElem (u p GX)]
     | succ i=>simpa using ih (λq K=>u q (GY _ K)) i
   rw[b,all ps (λp h=>List.mem_range.mp (pp.mem_iff.mp h))] at d
   obtain ⟨p,e1,M⟩:=Hx.mp d
   obtain ⟨x,L,F⟩:=G3.mp M
   exact #[p,x,e1,L,F]
  wp_walk using wpAny_setState_of f hd hf,wpAny_askSetting
  rw[show (List.map (λp:Nat=>rawInt p) ps).toArray[(i:Int).toNat]?=some (rawInt p) by simp[n]]
  wp_walk using wpAny_setState_of f hd hf,wpAny_askSetting
  rw[show es[(p:Int).toNat]?=some x from y]
  wp_walk
  subst ev
  exact #[_,rfl,GV (z _ #[.ref T,Hs _ g1 rfl,.inr (.inr #[T,ps,rfl,B,(Heap.SameBut.update ..).extBut _ _ B gT,pp,b])] (Heap.SameBut.update ..))]
theorem BM {h:Nat} {i:Nat} (G:A.handled=none) (C:SIt w s.heap I a es h t ord i) (H:SAt w s.heap a es h t) (d:ord.length<=i) (u:∀ h',Heap.ExtBut I s.heap h'->Q none { s with heap:=h' }):wpAny (model prog w) A (pyNext (.ref I)) Q E s:=by
 obtain ⟨⟨o,r,hd⟩,hf,F⟩:=H
 obtain ⟨first,g1,m⟩:=C
 obtain ⟨n,g,D,tk,os⟩:=s
 have ty:(#[n,g,D,tk,os]:Shared).TypeIs (.ref I) "set_iterator":=#[_,g1,rfl]
 have led:=F.led
 have c:A.in1.handled=none:=G
 unfold pyNext
 refine GU (wpAny_attempt (wpAny_callSpecial?_slot ty slot_next (wpAny_call_entry slot_next ty mR ?_ (o3 _))))
 rcases m with ⟨l,rfl,f⟩ | ⟨l,nd,⟨k,rfl,bk⟩,f⟩ | ⟨T,ps,rfl,K,gT,pp,f⟩
 .have B:(model prog w).w.params.followText "set-order"=true:=l
  have at2:Option.map (λe:Int×Value=>(e.2,Int.toNat 0)) (pickOrder (({ program:=(model prog w).prog,params:=(model prog w).w.params }:Setting).params.setOrder a h) es)[(i:Int).toNat]?=none:=by
   refine (show Option.map _ (pickOrder (w.params.setOrder a h) es)[(i:Int).toNat]?=_ from ?_)
   rw[Int.toNat_natCast,Array.getElem?_eq_none (by rw[f] at d;simpa using d)];rfl
  wp_walk using wpAny_setState_of r hd hf,wpAny_askSetting
  rw[at2]
  wp_walk
  refine wpAny_raiseNew_none c ?_
  refine GU (wpAny_isInstance (v:=.ref _) (T:="StopIteration") (b:=true) ?_ isSubtype_stop ?_)
  .exact #[_,Ha _ rfl,rfl]
  .exact GV (u _ (((Heap.SameBut.update ..).extBut.push _).push _))
 .have B:(model prog w).w.params.followText "set-order"=false:=l
  have y:t.led=true:=by rw[led];simp[dP,l]
  have ge:es.size<=i:=by rw[f] at d;simpa using d
  have j:SetTable.below t.place (k:Int).toNat=i:=bk
  wp_walk using wpAny_setState_of r hd hf,wpAny_askSetting
  refine wpAny_ite_false (show decide ((!t.plain && decide (es.size > 1))=true)=false by rw[nd];rfl) ?_
  wp_walk
  rw[j,Array.getElem?_eq_none ge]
  wp_walk
  refine wpAny_raiseNew_none c ?_
  refine GU (wpAny_isInstance (v:=.ref _) (T:="StopIteration") (b:=true) ?_ isSubtype_stop ?_)
  .exact #[_,Ha _ rfl,rfl]
  .exact GV (u _ (((Heap.SameBut.update ..).extBut.push _).push _))
 .have len:∀ (l:List Nat),(∀ p∈l,p < es.size)->(l.filterMap λp=>es[p]?.map λx:Int×Value=>x.2).length=l.length:=by
   intro l
   induction l with
   | nil=>intro _;rfl
   | cons p l ih =>
    intro z
    rw[List.filterMap_cons,Array.getElem?_eq_getElem (z p GX)]
    simpa using ih λq J=>z q (GY _ J)
  rw[f,len ps λp n=>List.mem_range.mp (pp.mem_iff.mp n)] at d
  wp_walk using wpAny_setState_of r hd hf,wpAny_askSetting
  rw[show (List.map (λp:Nat=>rawInt p) ps).toArray[(i:Int).toNat]?=none by simpa using d]
  wp_walk
  refine wpAny_raiseNew_none c ?_
  refine GU (wpAny_isInstance (v:=.ref _) (T:="StopIteration") (b:=true) ?_ isSubtype_stop ?_)
  .exact #[_,Ha _ rfl,rfl]
  .exact GV (u _ ((((Heap.SameBut.update ..).trans (Heap.SameBut.update ..)).extBut.push _).push _))
end
section
variable {prog:Program} {w:World} {A:Around} {E:Value->Shared->Prop} {s:Shared}
theorem yM {f:Nat} (k:SAt w s.heap a es f t) (d:s.TypeIs (.ref a) "set") (hz:es.size<=sizeLine) (i:∀ h' I d' ord,s.heap.objs.size<=I->ord.Perm (es.toList.map (·.2))->SIt w h' I a es f t ord 0->(∀ b o,s.heap.get? b=some o->h'.get? b=some o)->Q (.ref I) { s with heap:=h',drawn:=d' }) :
  wpAny (model prog w) A (pyIter (.ref a)) Q E s:=by
 obtain ⟨⟨o,c,hd⟩,hf,m⟩:=k
 obtain ⟨h,g,j,tk,os⟩:=s
 refine wpAny_pyIter_slot d F.slot_set_iter (wpAny_call_entry F.slot_set_iter d uw ?_ (F.args_set_iter_1 _))
 cases l:w.params.followText "set-order" with
 | true =>
  have n:(model prog w).w.params.followText "set-order"=true:=l
  wp_walk using wpAny_setState_of c hd hf,wpAny_askSetting
  exact #[_,rfl,"set_iterator",_,#[_,Ha _ rfl,rfl],slot_next.lookup,i _ h.objs.size j _ (Hi _) ((wN (w.params.setOrder a f) es).map _) #[rawInt 0,Ha _ rfl,.inl #[l,rfl,rfl]] λb o e=>GZ _ e]
 | false =>
  have n:(model prog w).w.params.followText "set-order"=false:=l
  cases nd:(!t.plain && decide (es.size > 1)) with
  | false =>
   wp_walk using wpAny_setState_of c hd hf,wpAny_askSetting
   refine wpAny_ite_false (show decide ((!w.params.followText "set-order" && (!t.plain && decide (es.size > 1)))=true)=false by rw[l,nd];rfl) ?_
   wp_walk using wpAny_setState_of c hd hf,wpAny_askSetting
   exact #[_,rfl,"set_iterator",_,#[_,Ha _ rfl,rfl],slot_next.lookup,i _ h.objs.size j _ (Hi _) (List.Perm.refl _) #[rawInt 0,Ha _ rfl,.inr (.inl #[l,nd,#[0,rfl,uN m.up],rfl])] λb o e=>GZ _ e]
  | true =>
   wp_walk using wpAny_setState_of c hd hf,wpAny_askSetting
   refine wpAny_ite_true (show decide ((!w.params.followText "set-order" && (!t.plain && decide (es.size > 1)))=true)=true by rw[l,nd];rfl) ?_
   refine GU (oT _ _ _ (by simp) λys d' pp=>?_)
   have q:ys.length=es.size:=by have:=pp.length_eq;simpa using this
   refine GU (wpAny_newTuple ?_ (by simp;lia))
   refine GU (GU (wpAny_setState_of (GZ _ c) hd hf (GV ?_)))
   wp_walk
   have pm:(ys.filterMap λp=>es[p]?.map λx:Int×Value=>x.2).Perm (es.toList.map (·.2)):=by
    refine (pp.filterMap _).trans ?_
    rw[<- filterMap_getElem?_range es,List.map_filterMap]
   refine #[_,rfl,"set_iterator",_,#[_,Ha _ rfl,rfl],slot_next.lookup,i _ _ d' _ ?_ pm #[.ref h.objs.size,Ha _ rfl,.inr (.inr #[_,ys,rfl,?_,GZ _ (Ha _ rfl),pp,rfl])] λb o e=>GZ _ (GZ _ e)]
   .rw[HC];exact Nat.le_succ _
   .rw[HC];exact Hk (Nat.lt_succ_self _)
theorem SAt.keep {b:Nat} (x:SAt w h a es b t) (k:∀ o,h.get? a=some o->h'.get? a=some o):SAt w h' a es b t :=
 let #[#[o,e,d],f,t]:=x;#[#[o,k o e,d],f,t]
theorem SIt.keep {c:Nat} {i:Nat} (x:SIt w h I a es c t ord i) (j:I≠S) (n:∀ T ps,h.get? T=some { cls:=.type "tuple",data:=.seq ps }->T≠S) (k:∀ b o,b≠S->h.get? b=some o->h'.get? b=some o):SIt w h' I a es c t ord i:=by
 obtain ⟨f,g,m⟩:=x
 refine #[f,k _ _ j g,?_]
 rcases m with m | m | ⟨T,ps,e1,l,d,e⟩
 .exact .inl m
 .exact .inr (.inl m)
 .exact .inr (.inr #[T,ps,e1,l,k _ _ (n _ _ d) d,e])
theorem C7 (B:A.handled=none) (x:a≠I) (j:S≠I) (C:S≠a) {m:Nat} (hz:ord.length<=sizeLine) (res:Value) :
  ∀ (k i:Nat) (s:Shared) (c:Nat),ord.length - i=k->i<=ord.length->SIt w s.heap I a es m t ord i->SAt w s.heap a es m t ->
  s.heap.get? S=some { cls:=.type "list",dict:=none,data:=.seq (ord.take i).toArray c,slots:=(List.toArray []) } ->
  (∀ h' y tk,h'.get? S=some { cls:=.type "list",dict:=none,data:=.seq ord.toArray y,slots:=(List.toArray []) }->(∀ b o,b≠I->b≠S->s.heap.get? b=some o->h'.get? b=some o)->R (.ok (.ret res)) { s with heap:=h',toks:=tk }) ->
  codeAny (model prog w) A (.builtin "list.extend.loop" #[[.ref S,.ref I,res],[]]) R s:=by
 intro k
 induction k with
 | zero =>
  intro i s c D hi hit hm f fin
  obtain rfl:i=ord.length:=by lia
  refine codeAny_builtin F.entry_extend_loop ?_
  rw[Around.under_plainId F.plain_extend_loop _]
  refine GU (BM (s:=s) (show A.in1.handled=none from B) hit hm (Hi _) λh' r=>?_)
  rw[List.take_length] at f
  exact GV (fin h' c s.toks (r S _ j f) λb o d _ e=>r b o d e)
 | succ k ih =>
  intro i s c D hi hit hm f fin
  have lt:i < ord.length:=by lia
  refine codeAny_builtin F.entry_extend_loop ?_
  rw[Around.under_plainId F.plain_extend_loop _]
  refine GU (yI (s:=s) (v:=ord[i]) hit hm (G7 lt) λh1 l s1=>?_)
  have h:=s1.extBut _ _ j f
  refine GU (wpAny_updateSeq h rfl (GV #[plainId_quiet F.plain_extend_loop _,?_]) (by simp;lia) (by simp;lia))
  obtain ⟨c2,p⟩:∃ c2,(h1.update S (Obj.mapSeq (·.push ord[i]))).get? S=some (seqObj "list" ((ord.take i).toArray.push ord[i]) c2):=#[_,get?_update_seq h (·.push ord[i])]
  have up:∀ b o,b≠S->h1.get? b=some o->(h1.update S (Obj.mapSeq (·.push ord[i]))).get? b=some o:=λb o n e=>(Heap.SameBut.update ..).extBut _ _ n e
  have tk:(ord.take i).toArray.push ord[i]=(ord.take (i+1)).toArray:=by
   rw[List.take_add_one,G7 lt]
   simp
  rw[tk] at p
  refine ih (i+1) { s with heap:=h1.update S (Obj.mapSeq (·.push ord[i])) } c2 (by lia) lt (l.keep (S:=S) (Ne.symm j) (λT ps e z=>by subst z;rw[h] at e;simp at e) up) ((hm.keep λo e=>s1.extBut _ _ x e).keep λo e=>up _ _ (Ne.symm C) e) p λh3 u g g3 k3=>?_
  exact fin h3 u g g3 λb o d q e=>k3 b o d q (up _ _ q (s1.extBut _ _ d e))
theorem AA (ty:s.TypeIs (.ref d) "set") (h:Q false s):wpAny (model prog w) A (Builtin.List.listLengthHint (.ref d)) Q E s:=by
 unfold Builtin.List.listLengthHint
 refine GU (wpAny_specialOf ty F.slot_set_len.lookup ?_)
 have cut:splitId "set.__len__"=some ("set","__len__"):=by kernel_rfl
 dsimp only
 simp only[cut]
 refine GU (wpAny_isInstance ty (b:=true) sub_set_self (wpAny_ite_false rfl ?_))
 rw[if_pos (by kernel_rfl)]
 exact GU (wpAny_typeOf ty (GV h))
theorem sI {l:Nat} (R:A.handled=none) (H:SAt w s.heap a es l t) (ty:s.TypeIs (.ref a) "set") (hz:es.size<=sizeLine) (h:∀ h' d' tk ord,ord.Perm (es.toList.map (·.2))->s.heap.objs.size<=h'.objs.size->(∀ b o,s.heap.get? b=some o->h'.get? b=some o)->Q ord { s with heap:=h',drawn:=d',toks:=tk }):wpAny (model prog w) A (collect (.ref a)) Q E s:=by
 have lt:a < s.heap.objs.size:=by obtain ⟨⟨o,e,_⟩,_⟩:=H;exact G8 e
 obtain ⟨d,g,p,tk,os⟩:=s
 unfold collect
 refine GU (wpAny_runValue (codeAny_builtin F.entry_proto_collect ?_))
 rw[Around.under_plainId F.plain_proto_collect _]
 refine GU (wpAny_newObj_type (GV #[plainId_quiet F.plain_list_iadd _,codeAny_builtin F.entry_list_iadd ?_]))
 rw[Around.under_plainId F.plain_list_iadd _]
 have τ:(d.push { cls:=.type "list",data:=.seq ([]:List Value).toArray }).get? d.objs.size=some { cls:=.type "list",data:=.seq ([]:List Value).toArray }:=Ha _ rfl
 have a1:SAt w (d.push { cls:=.type "list",data:=.seq ([]:List Value).toArray }) a es l t:=H.keep λo e=>GZ _ e
 have i:(#[d.push { cls:=.type "list",data:=.seq ([]:List Value).toArray },g,p,tk,os]:Shared).TypeIs (.ref a) "set":=let #[o,e,c]:=ty;#[o,GZ _ e,c]
 have P:(d.push { cls:=.type "list",data:=.seq ([]:List Value).toArray }).objs.size=d.objs.size+1:=HC ..
 have k1:∀ b o,d.get? b=some o->(d.push { cls:=.type "list",data:=.seq ([]:List Value).toArray }).get? b=some o:=λb o e=>GZ _ e
 refine (show wpAny _ A.in1 (Builtin.List.listExtendWith (.ref d.objs.size) (.ref a) (.ref d.objs.size)) _ _ #[d.push { cls:=.type "list",data:=.seq ([]:List Value).toArray },g,p,tk,os] from ?_)
 generalize d.push { cls:=.type "list",data:=.seq ([]:List Value).toArray }=H1 at *
 unfold Builtin.List.listExtendWith
 refine GU (wpAny_typeOf i ?_)
 rw[if_neg (by
  have e1:Builtin.List.listSameRef (.ref d.objs.size) (.ref a)=false:=beq_false_of_ne (Nat.ne_of_gt lt)
  have M:(Value.type "set" == Value.type "list")=false:=by decide
  have K:(Value.type "set" == Value.type "tuple")=false:=by decide
  rw[e1,M,K]
  decide)]
 refine GU (yM (s:=#[H1,g,p,tk,os]) a1 i hz λh2 I k ord j pm m k2=>?_)
 have u:(#[h2,g,k,tk,os]:Shared).TypeIs (.ref a) "set":=let #[o,e,c]:=i;#[o,k2 _ _ e,c]
 refine GU (GW (AA u ?_))
 have j:H1.objs.size<=I:=j
 rw[P] at j
 have G:d.objs.size≠I:=Hk j
 have L:a≠I:=Hk (Nat.lt_trans lt j)
 have ol:ord.length=es.size:=by have:=pm.length_eq;simpa using this
 have q:h2.get? d.objs.size=some (seqObj "list" (List.toArray []) 0):=k2 _ _ τ
 have a2:SAt w h2 a es l t:=a1.keep λo e=>k2 _ _ e
 refine wpAny_ite_true (by kernel_rfl) ?_
 refine GU (wpAny_rule ?_)
 refine GU (GU (listUpdate_at (s:=#[h2,g,k,tk,os]) q rfl ?_))
 obtain ⟨B,D⟩:∃ B,(h2.update d.objs.size (Obj.mapSeq (·.push Value.none))).get? d.objs.size=some (seqObj "list" ((List.toArray []).push Value.none) B):=#[_,get?_update_seq q (·.push Value.none)]
 refine listUpdate_at (s:=#[h2.update d.objs.size (Obj.mapSeq (·.push Value.none)),g,k,tk,os]) D rfl ?_
 obtain ⟨r,J⟩:∃ r,((h2.update d.objs.size (Obj.mapSeq (·.push Value.none))).update d.objs.size (Obj.mapSeq (·.pop))).get? d.objs.size=some (seqObj "list" ((List.toArray []).push Value.none).pop r):=#[_,get?_update_seq D (·.pop)]
 have f:∀ b o,b≠d.objs.size->h2.get? b=some o->((h2.update d.objs.size (Obj.mapSeq (·.push Value.none))).update d.objs.size (Obj.mapSeq (·.pop))).get? b=some o:=λb o n e=>(Heap.SameBut.update ..).extBut _ _ n ((Heap.SameBut.update ..).extBut _ _ n e)
 have v:=m.keep (S:=d.objs.size) (Ne.symm G) (λT ps e z=>by subst z;rw[q] at e;simp[seqObj] at e) f
 have a4:=a2.keep λo e=>f _ _ (Hk lt) e
 have N:d.objs.size < ((h2.update d.objs.size (Obj.mapSeq (·.push Value.none))).update d.objs.size (Obj.mapSeq (·.pop))).objs.size:=G8 J
 generalize ((h2.update d.objs.size (Obj.mapSeq (·.push Value.none))).update d.objs.size (Obj.mapSeq (·.pop)))=H4 at *
 refine GV #[plainId_quiet F.plain_extend_loop _,C7 (ord:=ord) R L G (Nat.ne_of_gt lt) (by lia) _ ord.length 0 #[H4,g,k,tk,os] r (by lia) (Nat.zero_le _) v a4 (by simpa[seqObj] using J) λφ V y C k5=>?_]
 refine GU (wpAny_load C ?_)
 refine GV ?_
 have e:ord.toArray.toList=ord:=by simp
 refine e.symm ▸ h φ k y ord pm ?_ λb o e=>?_
 .exact Nat.le_of_lt (G8 C)
 .have x:=G8 e
  exact k5 b o (Hk (Nat.lt_trans x j)) (Hk x) (f _ _ (Hk x) (k2 _ _ (k1 _ _ e)))
end
end L2
end
section
namespace L2
open PySem PySem.Spec PyProof.Rows
section
variable {X:Cx}
abbrev tw (X:Cx) (p:Addr) (ns:List Int):HO:=.ext λh=>SetL X.prog X.w h p ns
theorem Inv.drew (I:Inv X pins Y H s):Inv X pins Y H { s with drawn:=d } :=
 #[I.ok,I.os,I.bare,I.base,I.loc,I.cell,I.free,I.freeC,I.pin,I.hok,I.len]
def rSet (X:Cx):List V->Hp->VK->Prop:=λxs H Q=>∃ (l:Addr) (ns:List Int),xs=[.ref l]/\SqT X.K H l (ns.map V.int)/\ns.length < 64/\∀ p,H p=none->Q (.ref p) (upd H p (tw X p (ns.foldl met [])))
theorem xN (g:X.calm=true):CallR X (.type "set") (rSet X):=by
 intro pins s Y H xs us Q I b h
 obtain ⟨l,ns,rfl,d,c,q⟩:=h
 obtain ⟨u,rfl,f⟩:=d6 b
 cases (show u=Value.ref l from f)
 obtain ⟨its,r,p,hz⟩:=I.tuple d
 have hlen:=r.length
 refine ql (I.ok.hd g) (show s.heap.IsTuple l its.toArray from p) (by simpa using js r) (by simp at hlen ⊢;unfold scanBound;lia) λh' tk S k=>?_
 exact #[.ref s.heap.objs.size,_,I.laid (a:=s.heap.objs.size) (o:=tw X s.heap.objs.size (ns.foldl met [])) (t':=tk) k (Hi _) #[S,(let #[o,_,_,_,_,e,_]:=S;#[o,e]),λh1 h2 x k=>x.keep k],rfl,q _ (I.hok.fresh (Hi _))]
def tU (X:Cx):List V->Hp->VK->Prop:=λxs H Q=>∃ (p:Addr) (ns:List Int),xs=[.ref p]/\H p=some (tw X p ns)/\ns.length < 64/\∀ q,H q=none->∀ a:List Int,a.Perm ns->a.Pairwise (·<=·)->Q (.ref q) (upd H q (.lst (a.map V.int)))
theorem mW (E:X.calm=true):CallR X (.builtin "sorted") (tU X):=by
 intro pins s Y H xs us Q I w h
 obtain ⟨p,ns,rfl,C,i,q⟩:=h
 obtain ⟨u,rfl,D⟩:=d6 w
 cases (show u=Value.ref p from D)
 obtain ⟨S,_,_⟩:=I.hok p _ C
 have ty:=S.typeIs (s:=s)
 obtain ⟨o,es,K,t,ms,G,hex,hd,y,hi,pm,x,hf,B⟩:=S
 have F:=I.ok.hd E
 have sz:es.size<=sizeLine:=fits_of_scanBound x
 refine Calls.call_function_entry kind_sorted plain_sorted entry_sorted (args_sorted1 _) (GU (GV (GU (sI (show X.A.in1.handled=none from F) #[#[o,G,hd],hf,B] ty sz λh1 J k ord po j k1=>?_))))
 obtain ⟨ks,g⟩:∃ ks,IntsAre ord ks:=by
  have:∀ v∈ord,∃ n t,v=Value.int n t:=λv l=>by
   have:=po.mem_iff.mp l
   exact hi.all v this
  clear po
  induction ord with
  | nil=>exact #[[],.nil]
  | cons v ord ih =>
   obtain ⟨n,t,rfl⟩:=this v GX
   obtain ⟨ks,h⟩:=ih λv l=>this v (GY _ l)
   exact #[n::ks,.cons n t h]
 have m:ks.Perm ns:=(kB po g hi).trans pm
 have ol:ord.length < 64:=by rw[g.length,m.length_eq];exact i
 refine GU (wpAny_newList ?_)
 have got:(h1.push (seqObj "list" ord.toArray 0)).get? h1.objs.size=some (seqObj "list" ord.toArray 0):=Ha _ rfl
 refine GU (GW (wpAny_call_entry slot_list_sort #[_,got,rfl] entry_list_sort (list_sort_tree got g ol λout f a b c=>#[_,rfl,GV #[_,rfl,?_]]) (args_list_sort _)))
 obtain ⟨e,he⟩:=sortedHeap_at (out:=out) got
 have nl:f.length < 64:=by rw[b.length_eq,m.length_eq];exact i
 have keep:∀ (b:Addr) (u:Obj),s.heap.get? b=some u->(sortedHeap (h1.push (seqObj "list" ord.toArray 0)) h1.objs.size ord out).get? b=some u:=λb u z=>by
  have r:=G8 z
  rw[sortedHeap_old (Hk (Hq r j)) (by rw[HC];exact Nat.lt_succ_of_lt (Hq r j))]
  exact GZ _ (k1 _ _ z)
 refine #[.ref h1.objs.size,_,(I.drew (d:=J)).laid (a:=h1.objs.size) (o:=.lst (f.map V.int)) (t':=k) keep j #[?_,out.toList,e,jy a,by rw[he]],rfl,q _ (I.hok.fresh j) f (b.trans m) c]
 rw[Hb]
 have:64<=sizeLine:=by decide
 lia
end
def sX (l:Array Value):Obj:=seqObj "tuple" l 0
def ev (cmp:Nat->Nat->Option Bool) {α:Type} (m:Sem α):Option Addr->Option (α×Option Addr):=by
 induction m with
 | pure a=>exact λp=>some (a,p)
 | rule _ k ih=>exact ih ()
 | load b _ k ih=>exact λp=>match p with
  | none=>ih (sX (List.toArray [])) (some b)
  | some a=>match cmp a b with
   | some true=>ih (sX (List.toArray [Value.none])) none
   | some false=>ih (sX (List.toArray [])) none
   | none=>none
 | _=>exact λ_=>none
theorem vO (m:Sem α) (f:α->Sem β):∀ p,ev cmp (m.bind f) p=(ev cmp m p).bind λr=>ev cmp (f r.1) r.2:=by
 induction m with
 | pure a=>exact λp=>rfl
 | rule _ k ih=>exact ih ()
 | load b _ k ih =>
  intro p
  cases p with
  | none=>exact ih _ _
  | some a =>
   show (match cmp a b with
    | some true=>ev cmp ((k (sX (List.toArray [Value.none]))).bind f) none
    | some false=>ev cmp ((k (sX (List.toArray []))).bind f) none
    | none=>none)=Option.bind (match cmp a b with
    | some true=>ev cmp (k (sX (List.toArray [Value.none]))) none
    | some false=>ev cmp (k (sX (List.toArray []))) none
    | none=>none) _
   grind
 | _=>exact λ_=>rfl
def t5 (k:SortKind):Prop:=k=aX true\/k=oneType'
structure Fol (U:Keyed->Keyed) (st ps:SortSt):Prop where
 kind:t5 (kindOf st)
 kind':kindOf ps=aX true
 arr:arrOf st=(arrOf ps).map U
 pend:pendingOf st=pendingOf ps
 mg:gallopOf st=gallopOf ps
 fail:failedOf st=none
 fail':failedOf ps=none
class EqRl (α:Type) where
instance:EqRl Nat:=#[]
instance:EqRl Bool:=#[]
instance:EqRl PUnit:=#[]
instance {α:Type} [EqRl α]:EqRl (Option α):=#[]
instance {α:Type} [EqRl α]:EqRl (Array α):=#[]
instance {α β:Type} [EqRl α] [EqRl β]:EqRl (α×β):=#[]
instance {α:Type} [EqRl α]:EqRl (ForInStep α):=#[]
class Rl (U:Keyed->Keyed) (α:Type) where
 rel:α->α->Prop
variable {U:Keyed->Keyed}
instance rlO {α:Type} [Rl U α]:Rl U (Option α):=#[λx y=>match x,y with | none,none=>True | some a,some b=>Rl.rel U a b | _,_=>False]
instance rlP {α β:Type} [Rl U α] [Rl U β]:Rl U (α×β):=#[λx y=>Rl.rel U x.1 y.1/\Rl.rel U x.2 y.2]
instance rlF {α:Type} [Rl U α]:Rl U (ForInStep α):=#[λx y=>match x,y with | .done a,.done b=>Rl.rel U a b | .yield a,.yield b=>Rl.rel U a b | _,_=>False]
instance rlK:Rl U Keyed:=#[λp i=>p=U i]
instance rlA:Rl U (Array Keyed):=#[λp i=>p=i.map U]
instance rlS:Rl U SortSt:=#[Fol U]
instance (priority:=high) rlE {α:Type} [EqRl α]:Rl U α:=#[Eq]
section
variable {prog:Program} {w:World} {A:Around} {E:Value->Shared->Prop} {s:Shared} {cmp:Nat->Nat->Option Bool} {α β:Type}
def Sim (prog:Program) (w:World) (A:Around) (E:Value->Shared->Prop) (s:Shared) (U:Keyed->Keyed) (cmp:Nat->Nat->Option Bool) {α:Type} [Rl U α] (m p:StateT SortSt Sem α):Prop :=
 ∀ st ps b c q,Fol U st ps->ev cmp (p.run ps) none=some ((b,c),q)->∃ a d,Rl.rel U a b/\Fol U d c/\q=none/\∀ Q:α->SortSt->Prop,Q a d->wpS (model prog w) A E s m Q st
theorem aI [Rl U α] {a b:α} (h:Rl.rel U a b):Sim prog w A E s U cmp (pure a) (pure b):=by
 intro st ps g c d f e
 cases e
 exact #[a,st,h,f,rfl,λQ q=>wpS_pure q]
theorem cD [Rl U α] [Rl U β] {m p:StateT SortSt Sem α} {f g:α->StateT SortSt Sem β} (h:Sim prog w A E s U cmp m p) (k:∀ a b,Rl.rel U a b->Sim prog w A E s U cmp (f a) (g b)):Sim prog w A E s U cmp (m >>= f) (p >>= g):=by
 intro st ps o i t z e
 have e:ev cmp ((p.run ps).bind λx=>(g x.1).run x.2) none=some ((o,i),t):=e
 rw[vO] at e
 obtain ⟨⟨⟨b,d⟩,y⟩,e1,u⟩:=Hx.mp e
 obtain ⟨a,st1,r,l,rfl,h1⟩:=h st ps b d y z e1
 obtain ⟨c,j,v,n,rfl,h2⟩:=k a b r st1 d o i t l u
 exact #[c,j,v,n,rfl,λQ q=>wpS_bind (h1 _ (h2 Q q))]
theorem aA [EqRl α] [Rl U β] {f g:α->StateT SortSt Sem β} (h:Sim prog w A E s U cmp m p) (k:∀ a,Sim prog w A E s U cmp (f a) (g a)):Sim prog w A E s U cmp (m >>= f) (p >>= g) :=
 cD h λa b (r:a=b)=>r ▸ k a
theorem bB [EqRl α] [Rl U β] {f g:Option α->StateT SortSt Sem β} (h:Sim prog w A E s U cmp m p) (c:Sim prog w A E s U cmp (f none) (g none)) (ks:∀ a,Sim prog w A E s U cmp (f (some a)) (g (some a))):Sim prog w A E s U cmp (m >>= f) (p >>= g) :=
 cD h λa b (r:a=b)=>r ▸ (match a with | none=>c | some a=>ks a)
theorem bH [Rl U α] [Decidable c] {m n p q:StateT SortSt Sem α} (h1:c->Sim prog w A E s U cmp m p) (h2:¬ c->Sim prog w A E s U cmp n q):Sim prog w A E s U cmp (if c then m else n) (if c then p else q):=by grind
theorem yE [Rl U α] {m p:StateT SortSt Sem α} (h:∀ ps,ev cmp (p.run ps) none=none):Sim prog w A E s U cmp m p:=λst ps b a q f e=>by
 rw[h] at e
 cases e
theorem dg [Rl U α]:Sim prog w A E s U cmp m (unsupported t:Sem α):=yE λ_=>rfl
theorem kQ [Rl U α] (h:∀ i x y,Rl.rel U x y -> @Sim prog w A E s U cmp _ rlF (f i x) (g i y)):∀ (l:List Nat) (x y:α),Rl.rel U x y -> Sim prog w A E s U cmp (forIn l x f) (forIn l y g)
  | [],x,y,r=>by rw[List.forIn_nil,List.forIn_nil]; exact aI r
  | i::l,x,y,r=>by
    rw[List.forIn_cons,List.forIn_cons]
    refine @cD _ _ _ _ _ _ _ _ _ rlF _ _ _ _ _ (h i x y r) λa b ab=>?_
    cases a <;> cases b <;> first | exact False.elim ab | skip
    . exact aI ab
    . exact kQ h l _ _ ab
theorem fQ [Rl U α] {a b:Nat} {x y:α} (r:Rl.rel U x y) (h:∀ i x y,Rl.rel U x y->@Sim prog w A E s U cmp _ rlF (f i x) (g i y)):Sim prog w A E s U cmp (forIn [a:b] x f) (forIn [a:b] y g):=by
 rw[Std.Legacy.Range.forIn_eq_forIn_range',Std.Legacy.Range.forIn_eq_forIn_range']
 exact kQ h _ _ _ r
theorem iV [EqRl α] {a b:Nat} {x:α} (h:∀ i x,Sim prog w A E s U cmp (f i x) (g i x)):Sim prog w A E s U cmp (forIn [a:b] x f) (forIn [a:b] x g):=by
 refine fQ rfl λi x y r=>?_
 cases r
 intro st ps b j q k e
 obtain ⟨c,d,r,ig⟩:=h i x st ps b j q k e
 refine #[c,d,?_,ig]
 obtain rfl:c=b:=r
 cases c <;> exact (rfl:_=_)
theorem uV:Sim prog w A E s U cmp (get:StateT SortSt Sem SortSt) get:=by
 intro st ps b a q f e
 cases e
 exact #[st,st,f,f,rfl,λQ q=>wpS_get q]
theorem d9 (h:∀ st ps,Fol U st ps->Fol U (f st) (g ps)):Sim prog w A E s U cmp (modify f:StateT SortSt Sem PUnit) (modify g):=by
 intro st ps b c q a e
 cases e
 exact #[_,_,rfl,h st ps a,rfl,λQ q=>wpS_modify q]
theorem BJ (h:Fol U c a):Sim prog w A E s U cmp (set c:StateT SortSt Sem PUnit) (set a):=by
 intro st ps b a q d e
 cases e
 exact #[_,_,rfl,h,rfl,λQ q=>GV #[rfl,q]]
theorem d8:Sim prog w A E s U cmp (liftM (PySem.rule r:Sem Unit):StateT SortSt Sem Unit) (liftM (PySem.rule r:Sem Unit)):=by
 intro st ps b c q a e
 cases e
 exact #[_,st,rfl,a,rfl,λQ q=>wpS_lift (wpAny_rule #[rfl,q])]
theorem yH {i:Nat}:Sim prog w A E s U cmp (elem' (arr.map U) i) (elem' arr i):=by
 rw[elem'_eq,elem'_eq]
 cases e:arr[i]? with
 | none=>exact dg
 | some x =>
  have:(arr.map U)[i]?=some (U x):=by rw[Array.getElem?_map,e];rfl
  rw[this]
  exact aI rfl
theorem bN [Rl U α] {i:Nat} {f g:Keyed->StateT SortSt Sem α} (k:∀ u,Sim prog w A E s U cmp (f (U u)) (g u)):Sim prog w A E s U cmp (elem' (arr.map U) i >>= f) (elem' arr i >>= g) :=
 cD yH λu u' (hu:u=U u')=>hu ▸ k u'
end
def mS (bs:List Addr) (x:Keyed):Keyed:=match x.1 with
 | .ref i=>(.ref (bs.getD i 0),.ref (bs.getD i 0))
 | _=>(.none,.none)
def bG (ns:List (List Int)) (i j:Nat):Option Bool:=match ns[i]?,ns[j]? with
 | some x,some y=>some (HT.lexLt x y)
 | _,_=>none
section
variable {prog:Program} {w:World} {A:Around} {E:Value->Shared->Prop} {s:Shared} {bs:List Addr} {ns:List (List Int)}
theorem si (h:∀ a,v≠.ref a):∃ t,Builtin.List.listItems v=Sem.unsupported t:=by
 cases v
 case ref a=>exact absurd rfl (h a)
 case builtin id =>
  by_cases c:(withoutEnding? id "#opaque").isSome=true
  .have e:notAStandIn (.builtin id)=Sem.unsupported id:=if_pos c
   refine #[id,?_]
   show Sem.bind (Sem.bind (notAStandIn (.builtin id)) _) _=_
   rw[e]
   rfl
  .have e:notAStandIn (.builtin id)=Sem.pure ():=if_neg c
   have b:Builtin.List.listItems (.builtin id)=Sem.bind (Sem.bind (notAStandIn (.builtin id)) _) _:=rfl
   rw[e] at b
   exact #[_,b]
 all_goals exact #[_,rfl]
theorem CW (h:∀ a,v≠.ref a):∃ t,keyLt' (aX true) v y=Sem.unsupported t:=by
 obtain ⟨t,e⟩:=si h
 obtain ⟨G,e1⟩:∃ G,keyLt' (aX true) v y=(Builtin.List.listItems v).bind G:=#[_,rfl]
 exact #[t,by rw[e1,e];rfl]
theorem CV (h:∀ a,v≠.ref a):∃ t,keyLt' (aX true) (.ref i) v=(Builtin.List.listItems (.ref i)).bind λ_=>Sem.unsupported t:=by
 obtain ⟨t,e⟩:=si h
 obtain ⟨G,e1⟩:∃ G:Array Value->Array Value->Sem Bool,keyLt' (aX true) (.ref i) v=(Builtin.List.listItems (.ref i)).bind λxs=>(Builtin.List.listItems v).bind (G xs):=#[_,rfl]
 exact #[t,by rw[e1,e];rfl]
theorem wS (o:IsNts s.heap a x) (t:IsNts s.heap b y) (hu:A.units < cLine) (h:Q (HT.lexLt x y) s):wpAny (model prog w) A (oneLt' true (.ref a) (.ref b)) Q E s:=by
 obtain ⟨u,⟨⟨c1,d,k,e⟩,e1,c1,j,i⟩,r⟩:=o
 obtain ⟨n,⟨⟨c2,c,l,f⟩,m,c2,p,g⟩,q⟩:=t
 simp only at c1 i c2 g
 subst c1 i c2 g
 rw[oneLt'_eq]
 simp only[if_true]
 refine GU (wpAny_cRoomFor hu ?_)
 refine GU (wpAny_callSpecialIfBound?_slot (T:="tuple") #[_,e1,rfl] PySem.F.slot_tuple_lt (call_meets PySem.F.slot_tuple_lt (T:="tuple") #[_,e1,rfl] PySem.F.entry_tuple_lt (PySem.F.args_tuple_lt_2 _ _) (HT.tuple_lt_ints a b u n j p d c e f x y r q) #[e1,m,?_]))
 exact HD h
theorem Ez (hu:A.units < cLine) (v:∀ (i:Nat) (n:List Int),ns[i]?=some n->IsNts s.heap (bs.getD i 0) n) (x y:Keyed):Sim prog w A E s (mS bs) (bG ns) (lt' (mS bs x) (mS bs y)) (lt' x y):=by
 intro st ps b c q f e
 obtain ⟨r,B⟩:=x
 obtain ⟨o,z⟩:=y
 have l:=f.kind'
 cases ps with
 | mk k a pd g fl =>
 have l:k=aX true:=l
 subst l
 by_cases d:∀ a,r≠.ref a
 .obtain ⟨t,h⟩:=CW (y:=o) d
  rw[lt'_eq] at e
  have e:ev (bG ns) (Sem.bind (Sem.bind (Sem.attempt (keyLt' (aX true) r o)) _) _) none=some ((b,c),q):=e
  rw[h] at e
  cases e
 .by_cases u:∀ a,o≠.ref a
  .obtain ⟨i,d⟩:=Classical.not_forall.mp d
   obtain rfl:r=.ref i:=Classical.not_not.mp d
   obtain ⟨t,h⟩:=CV (i:=i) u
   rw[lt'_eq] at e
   have e:ev (bG ns) (Sem.bind (Sem.bind (Sem.attempt (keyLt' (aX true) (.ref i) o)) _) _) none=some ((b,c),q):=e
   rw[h] at e
   cases e
  .obtain ⟨i,d⟩:=Classical.not_forall.mp d
   obtain rfl:r=.ref i:=Classical.not_not.mp d
   obtain ⟨j,u⟩:=Classical.not_forall.mp u
   obtain rfl:o=.ref j:=Classical.not_not.mp u
   have e:(match bG ns i j with
    | some true=>some ((some true,SortSt.mk' (aX true) a pd g fl),none)
    | some false=>some ((some false,SortSt.mk' (aX true) a pd g fl),none)
    | none=>none)=some ((b,c),q):=e
   unfold bG at e
   cases e1:ns[i]? with
   | none=>rw[e1] at e;cases e
   | some n =>
    cases p:ns[j]? with
    | none=>rw[e1,p] at e;cases e
    | some m =>
     rw[e1,p] at e
     have e:(match some (HT.lexLt n m) with
      | some true=>some ((some true,SortSt.mk' (aX true) a pd g fl),none)
      | some false=>some ((some false,SortSt.mk' (aX true) a pd g fl),none)
      | none=>none)=some ((b,c),q):=e
     have e:some ((some (HT.lexLt n m),SortSt.mk' (aX true) a pd g fl),(none:Option Addr))=some ((b,c),q):=by
      rw[<- e]
      cases HT.lexLt n m <;> rfl
     cases e
     refine #[_,st,rfl,f,rfl,λQ q=>?_]
     rw[lt'_eq]
     refine wpS_bind (wpS_get ?_)
     rcases f.kind with l | l <;> rw[l]
     .refine wpS_bind (wpS_lift (wpAny_attempt (xo (v i n e1) (v j m p) #[rfl,?_])))
      exact wpS_pure q
     .rw[keyLt'_oneType]
      refine wpS_bind (wpS_lift (wpAny_attempt (wS (v i n e1) (v j m p) hu #[rfl,?_])))
      exact wpS_pure q
end
end L2
end
section
namespace L2
open PySem PySem.Spec PyProof.Rows
def vM:Bool->Keyed->Array Keyed->Nat->Nat->Nat->StateT SortSt Sem (Option Nat):=sortPriv% PySem.Builtin.gallop
def rQ:Array Keyed->Array Keyed->StateT SortSt Sem (Array Keyed):=sortPriv% PySem.Builtin.mergeLo
def rR:Array Keyed->Array Keyed->StateT SortSt Sem (Array Keyed):=sortPriv% PySem.Builtin.mergeHi
def yO:Nat->StateT SortSt Sem Unit:=sortPriv% PySem.Builtin.setMinGallop
section
variable {prog:Program} {w:World} {A:Around} {E:Value->Shared->Prop} {s:Shared} {U:Keyed->Keyed} {cmp:Nat->Nat->Option Bool}
theorem nX {g:Nat}:Sim prog w A E s U cmp (yO g) (yO g) :=
 d9 λst ps f=>#[f.kind,f.kind',f.arr,f.pend,rfl,f.fail,f.fail']
theorem iW [EqRl γ] [EqRl δ] [Rl U β] {m p:StateT SortSt Sem (Option γ×δ)} {f g:Option γ×δ->StateT SortSt Sem β} (h:Sim prog w A E s U cmp m p) (a:∀ d,Sim prog w A E s U cmp (f (none,d)) (g (none,d))) (ks:∀ c d,Sim prog w A E s U cmp (f (some c,d)) (g (some c,d))):Sim prog w A E s U cmp (m >>= f) (p >>= g) :=
 aA h λx=>match x with
  | (none,d)=>a d
  | (some c,d)=>ks c d
theorem qT (a:∀ x y:Keyed,Sim prog w A E s U cmp (lt' (U x) (U y)) (lt' x y)) {i j:Nat}:Sim prog w A E s U cmp (ltAt' i j) (ltAt' i j):=by
 rw[ltAt'_eq]
 refine cD uV λst ps f=>?_
 have e:arrOf st=(arrOf ps).map U:=Fol.arr f
 dsimp only
 rw[e]
 exact bN λu=>bN λv=>a u v
theorem dL {β:Type} (p q:β->Nat):∀ (l:List β) (xs:Array Keyed),l.foldl (λa k=>a.swapIfInBounds (p k) (q k)) (xs.map U)=(l.foldl (λa k=>a.swapIfInBounds (p k) (q k)) xs).map U
 | [],xs=>rfl
 | k::l,xs=>by
  rw[List.foldl_cons,List.foldl_cons,<- dL p q l]
  congr 1
  apply Array.ext_getElem?
  intro i
  rw[Array.getElem?_map]
  by_cases h1:p k < xs.size
  .by_cases h2:q k < xs.size
   .rw[getElem?_swapIB (by simpa using h1) (by simpa using h2),getElem?_swapIB h1 h2]
    simp only[Array.getElem?_map]
    repeat' split
    all_goals rfl
   .rw[Array.swapIfInBounds_def,Array.swapIfInBounds_def,dif_pos (by simpa using h1),dif_neg (by simpa using h2),dif_pos h1,dif_neg h2,Array.getElem?_map]
  .rw[Array.swapIfInBounds_def,Array.swapIfInBounds_def,dif_neg (by simpa using h1),dif_neg h1,Array.getElem?_map]
theorem uT {i j:Nat}:Sim prog w A E s U cmp (reverseSlice' i j) (reverseSlice' i j):=by
 rw[reverseSlice'_eq]
 refine d9 λst ps f=>#[f.kind,f.kind',?_,f.pend,f.mg,f.fail,f.fail']
 show mirror (arrOf st) _ _ _=(mirror (arrOf ps) _ _ _).map U
 rw[f.arr]
 exact dL _ _ _ _
theorem qU {i j:Nat}:Sim prog w A E s U cmp (moveDown' i j) (moveDown' i j):=by
 rw[moveDown'_eq]
 refine d9 λst ps f=>#[f.kind,f.kind',?_,f.pend,f.mg,f.fail,f.fail']
 show bubble (arrOf st) _ _=(bubble (arrOf ps) _ _).map U
 rw[f.arr]
 exact dL _ _ _ _
theorem BL (a:∀ x y:Keyed,Sim prog w A E s U cmp (lt' (U x) (U y)) (lt' x y)) {lo n ok:Nat}:Sim prog w A E s U cmp (binarySort' lo n ok) (binarySort' lo n ok):=by
 rw[binarySort'_eq]
 repeat' first
  | exact aI rfl
  | exact dg
  | refine bH (λ_=>?_) (λ_=>?_)
  | (refine bB (qT a) ?_ (λu=>?_) <;> try dsimp only)
  | (refine aA uT (λu=>?_);try dsimp only)
  | (refine aA qU (λu=>?_);try dsimp only)
  | (refine aA d8 (λu=>?_);try dsimp only)
  | (refine iW (iV λi x=>?_) (λd=>?_) (λc d=>?_) <;> try dsimp only)
  | (refine aA (iV λi x=>?_) (λx=>?_) <;> try dsimp only)
theorem BK (a:∀ x y:Keyed,Sim prog w A E s U cmp (lt' (U x) (U y)) (lt' x y)) {lo n:Nat}:Sim prog w A E s U cmp (countRun' lo n) (countRun' lo n):=by
 rw[countRun'_eq]
 repeat' first
  | exact aI rfl
  | exact dg
  | refine bH (λ_=>?_) (λ_=>?_)
  | (refine bB (qT a) ?_ (λu=>?_) <;> try dsimp only)
  | (refine aA uT (λu=>?_);try dsimp only)
  | (refine aA qU (λu=>?_);try dsimp only)
  | (refine aA d8 (λu=>?_);try dsimp only)
  | (refine iW (iV λi x=>?_) (λd=>?_) (λc d=>?_) <;> try dsimp only)
  | (refine aA (iV λi x=>?_) (λx=>?_) <;> try dsimp only)
end
section
variable {prog:Program} {w:World} {A:Around} {E:Value->Shared->Prop} {s:Shared} {U:Keyed->Keyed} {cmp:Nat->Nat->Option Bool}
theorem fP (a:∀ x y:Keyed,Sim prog w A E s U cmp (lt' (U x) (U y)) (lt' x y)) {base n hint:Nat}:Sim prog w A E s U cmp (vM left (U key) (arr.map U) base n hint) (vM left key arr base n hint):=by
 refine bB (bN λu=>bH (λ_=>a _ _) (λ_=>aA (a _ _) λr=>aI rfl)) (aI rfl) (λu=>?_)
 dsimp only
 repeat' first
  | exact aI rfl
  | refine bH (λ_=>?_) (λ_=>?_)
  | (refine bB (bN λu=>bH (λ_=>a _ _) (λ_=>aA (a _ _) λr=>aI rfl)) ?_ (λu=>?_) <;> try dsimp only)
  | (refine iW (iV λi x=>?_) (λd=>?_) (λc d=>?_) <;> try dsimp only)
end
section
variable {prog:Program} {w:World} {A:Around} {E:Value->Shared->Prop} {s:Shared} {U:Keyed->Keyed} {cmp:Nat->Nat->Option Bool}
theorem kS [EqRl α]:@Rl.rel U α rlE a a:=rfl
theorem iy {X σ:Array Keyed} (h:X=σ.map U):Rl.rel U X σ:=h
theorem eK [Rl U α] {a b:α} (h:Rl.rel U a b):@Rl.rel U _ rlO (some a) (some b):=h
theorem eO [Rl U α]:@Rl.rel U _ rlO (none:Option α) none:=trivial
theorem eP [Rl U α] {a b:α} (h:Rl.rel U a b):@Rl.rel U _ rlF (ForInStep.done a) (ForInStep.done b):=h
theorem dz [Rl U α] {a b:α} (h:Rl.rel U a b):@Rl.rel U _ rlF (ForInStep.yield a) (ForInStep.yield b):=h
theorem eM [Rl U α] [Rl U β] {a b:α} {c d:β} (h:Rl.rel U a b) (h':Rl.rel U c d):@Rl.rel U _ rlP (a,c) (b,d):=#[h,h']
theorem yG [EqRl γ] {a b:Nat} {x y:Option (Array Keyed)×Array Keyed×γ} {f g:Nat -> Option (Array Keyed)×Array Keyed×γ -> StateT SortSt Sem (ForInStep (Option (Array Keyed)×Array Keyed×γ))} (r:Rl.rel U x y) (h:∀ i o d c,Sim prog w A E s U cmp (f i (o.map (Array.map U),d.map U,c)) (g i (o,d,c))):Sim prog w A E s U cmp (forIn [a:b] x f) (forIn [a:b] y g):=by
  refine fQ r λi x y r=>?_
  obtain ⟨m,n,e⟩:=x
  obtain ⟨v,j,u⟩:=y
  obtain ⟨k,l,t⟩:=r
  obtain rfl:n=j.map U:=l
  obtain rfl:e=u:=t
  cases m <;> cases v <;> first | exact False.elim k | skip
  . exact h i none j e
  . rename_i p q
    obtain rfl:p=q.map U:=k
    exact h i (some q) j e
theorem wA [EqRl γ] [Rl U β] {m p:StateT SortSt Sem (Option (Array Keyed)×Array Keyed×γ)} {f g:Option (Array Keyed)×Array Keyed×γ -> StateT SortSt Sem β} (h:Sim prog w A E s U cmp m p) (l:∀ d c,Sim prog w A E s U cmp (f (none,d.map U,c)) (g (none,d,c))) (ks:∀ r d c,Sim prog w A E s U cmp (f (some (r.map U),d.map U,c)) (g (some r,d,c))):Sim prog w A E s U cmp (m >>= f) (p >>= g):=by
  refine cD h λx y r=>?_
  obtain ⟨j,k,a⟩:=x
  obtain ⟨t,b,o⟩:=y
  obtain ⟨e,i,n⟩:=r
  obtain rfl:k=b.map U:=i
  obtain rfl:a=o:=n
  cases j <;> cases t <;> first | exact False.elim e | skip
  . exact l b a
  . rename_i p q
    obtain rfl:p=q.map U:=e
    exact ks q b a
theorem dh [Rl U β] {f g:SortSt->StateT SortSt Sem β} (k:∀ st ps,Fol U st ps->Sim prog w A E s U cmp (f st) (g ps)):Sim prog w A E s U cmp (get >>= f) (get >>= g) :=
 cD uV λst ps a=>k st ps a
theorem qQ (f:∀ x y:Keyed,Sim prog w A E s U cmp (lt' (U x) (U y)) (lt' x y)) (a b:Array Keyed):Sim prog w A E s U cmp (rQ (a.map U) (b.map U)) (rQ a b):=by
 refine aA d8 λ_=>?_
 refine bN λy=>?_
 simp only[Array.size_map]
 refine bH (λ_=>aI (by (repeat' first | with_reducible exact eO | with_reducible apply eP | with_reducible apply dz | with_reducible apply eK | (with_reducible apply iy;simp only[Array.map_append,Array.map_push,Array.map_extract,Array.map_reverse,List.map_toArray,Hm,List.map_nil];done) | with_reducible apply eM | with_reducible exact kS))) λ_=>?_
 refine bH (λ_=>aI (by (repeat' first | with_reducible exact eO | with_reducible apply eP | with_reducible apply dz | with_reducible apply eK | (with_reducible apply iy;simp only[Array.map_append,Array.map_push,Array.map_extract,Array.map_reverse,List.map_toArray,Hm,List.map_nil];done) | with_reducible apply eM | with_reducible exact kS))) λ_=>?_
 refine dh λst ps g=>?_
 have e:=g.mg
 simp only[gallopOf] at e
 rw[e]
 repeat' first
  | exact aI (by (repeat' first | with_reducible exact eO | with_reducible apply eP | with_reducible apply dz | with_reducible apply eK | (with_reducible apply iy;simp only[Array.map_append,Array.map_push,Array.map_extract,Array.map_reverse,List.map_toArray,Hm,List.map_nil];done) | with_reducible apply eM | with_reducible exact kS))
  | exact dg
  | refine bH (λ_=>?_) (λ_=>?_)
  | refine aA nX (λ_=>?_)
  | refine aA d8 (λ_=>?_)
  | refine bN λu=>?_
  | (refine bB (fP f) ?_ (λu=>?_) <;> try dsimp only)
  | (refine bB (f _ _) ?_ (λu=>?_) <;> try dsimp only)
  | (refine wA (yG (by (repeat' first | with_reducible exact eO | with_reducible apply eP | with_reducible apply dz | with_reducible apply eK | (with_reducible apply iy;simp only[Array.map_append,Array.map_push,Array.map_extract,Array.map_reverse,List.map_toArray,Hm,List.map_nil];done) | with_reducible apply eM | with_reducible exact kS)) λi o d c=>?_) (λd c=>?_) (λr d c=>?_) <;> try dsimp only)
end
section
variable {prog:Program} {w:World} {A:Around} {E:Value->Shared->Prop} {s:Shared} {U:Keyed->Keyed} {cmp:Nat->Nat->Option Bool}
theorem yF [EqRl γ] {a b:Nat} {x y:Option (Array Keyed)×Nat×Nat×Array Keyed×γ} {f g:Nat -> Option (Array Keyed)×Nat×Nat×Array Keyed×γ -> StateT SortSt Sem (ForInStep (Option (Array Keyed)×Nat×Nat×Array Keyed×γ))} (r:Rl.rel U x y) (h:∀ i o m n d c,Sim prog w A E s U cmp (f i (o.map (Array.map U),m,n,d.map U,c)) (g i (o,m,n,d,c))):Sim prog w A E s U cmp (forIn [a:b] x f) (forIn [a:b] y g):=by
  refine fQ r λi x y r=>?_
  obtain ⟨B,t,z,C,e⟩:=x
  obtain ⟨H,u,I,j,G⟩:=y
  obtain ⟨k,l,D,v,F⟩:=r
  obtain rfl:t=u:=l
  obtain rfl:z=I:=D
  obtain rfl:C=j.map U:=v
  obtain rfl:e=G:=F
  cases B <;> cases H <;> first | exact False.elim k | skip
  . exact h i none _ _ j e
  . rename_i p q
    obtain rfl:p=q.map U:=k
    exact h i (some q) _ _ j e
theorem wz [EqRl γ] [Rl U β] {m p:StateT SortSt Sem (Option (Array Keyed)×Nat×Nat×Array Keyed×γ)} {f g:Option (Array Keyed)×Nat×Nat×Array Keyed×γ -> StateT SortSt Sem β} (h:Sim prog w A E s U cmp m p) (v:∀ m n d c,Sim prog w A E s U cmp (f (none,m,n,d.map U,c)) (g (none,m,n,d,c))) (ks:∀ r m n d c,Sim prog w A E s U cmp (f (some (r.map U),m,n,d.map U,c)) (g (some r,m,n,d,c))):Sim prog w A E s U cmp (m >>= f) (p >>= g):=by
  refine cD h λx y r=>?_
  obtain ⟨t,j,o,u,a⟩:=x
  obtain ⟨D,k,F,b,C⟩:=y
  obtain ⟨e,i,z,l,B⟩:=r
  obtain rfl:j=k:=i
  obtain rfl:o=F:=z
  obtain rfl:u=b.map U:=l
  obtain rfl:a=C:=B
  cases t <;> cases D <;> first | exact False.elim e | skip
  . exact v _ _ b a
  . rename_i p q
    obtain rfl:p=q.map U:=e
    exact ks q _ _ b a
theorem qR (f:∀ x y:Keyed,Sim prog w A E s U cmp (lt' (U x) (U y)) (lt' x y)) (a b:Array Keyed):Sim prog w A E s U cmp (rR (a.map U) (b.map U)) (rR a b):=by
 refine aA d8 λ_=>?_
 simp only[Array.size_map]
 refine bN λy=>?_
 refine bH (λ_=>aI (by (repeat' first | with_reducible exact eO | with_reducible apply eP | with_reducible apply dz | with_reducible apply eK | (with_reducible apply iy;simp only[Array.map_append,Array.map_push,Array.map_extract,Array.map_reverse,List.map_toArray,Hm,List.map_nil];done) | with_reducible apply eM | with_reducible exact kS))) λ_=>?_
 refine bH (λ_=>aI (by (repeat' first | with_reducible exact eO | with_reducible apply eP | with_reducible apply dz | with_reducible apply eK | (with_reducible apply iy;simp only[Array.map_append,Array.map_push,Array.map_extract,Array.map_reverse,List.map_toArray,Hm,List.map_nil];done) | with_reducible apply eM | with_reducible exact kS))) λ_=>?_
 refine dh λst ps g=>?_
 have e:=g.mg
 simp only[gallopOf] at e
 rw[e]
 repeat' first
  | exact aI (by (repeat' first | with_reducible exact eO | with_reducible apply eP | with_reducible apply dz | with_reducible apply eK | (with_reducible apply iy;simp only[Array.map_append,Array.map_push,Array.map_extract,Array.map_reverse,List.map_toArray,Hm,List.map_nil];done) | with_reducible apply eM | with_reducible exact kS))
  | exact dg
  | refine bH (λ_=>?_) (λ_=>?_)
  | refine aA nX (λ_=>?_)
  | refine aA d8 (λ_=>?_)
  | refine bN λu=>?_
  | (refine bB (fP f) ?_ (λu=>?_) <;> try dsimp only)
  | (refine bB (f _ _) ?_ (λu=>?_) <;> try dsimp only)
  | (refine wz (yF (by (repeat' first | with_reducible exact eO | with_reducible apply eP | with_reducible apply dz | with_reducible apply eK | (with_reducible apply iy;simp only[Array.map_append,Array.map_push,Array.map_extract,Array.map_reverse,List.map_toArray,Hm,List.map_nil];done) | with_reducible apply eM | with_reducible exact kS)) λi o m n d c=>?_) (λm n d c=>?_) (λr m n d c=>?_) <;> try dsimp only)
end
section
variable {prog:Program} {w:World} {A:Around} {E:Value->Shared->Prop} {s:Shared} {U:Keyed->Keyed} {cmp:Nat->Nat->Option Bool}
theorem oP (b:∀ a p j,G (a.map U) (U p,j)=(G a (p,j)).map U):∀ (l:List (Keyed×Nat)) (xs:Array Keyed),(l.map λx=>(U x.1,x.2)).foldl G (xs.map U)=(l.foldl G xs).map U
 | [],xs=>rfl
 | (p,j)::l,xs=>by
  rw[Hm,List.foldl_cons,List.foldl_cons,<- oP b l]
  dsimp only
  rw[b]
theorem uU {f:SortSt->Array Keyed->SortSt} (hf:∀ st X,f st X=setArr st (X.toList.zipIdx.foldl G (arrOf st))) (c:∀ a p j,G (a.map U) (U p,j)=(G a (p,j)).map U):Sim prog w A E s U cmp (modify λst=>f st (m.map U)) (modify λst=>f st m):=by
 refine d9 λst ps b=>?_
 rw[hf,hf]
 refine #[b.kind,b.kind',?_,b.pend,b.mg,b.fail,b.fail']
 show _=Array.map U (m.toList.zipIdx.foldl G (arrOf ps))
 rw[<- oP c,<- b.arr]
 show (m.map U).toList.zipIdx.foldl G (arrOf st)=_
 congr 1
 rw[Array.toList_map,List.zipIdx_map]
 rfl
theorem nY [Rl U β] {f g:Array Keyed->StateT SortSt Sem β} (h:Sim prog w A E s U cmp m p) (k:∀ d,Sim prog w A E s U cmp (f (d.map U)) (g d)):Sim prog w A E s U cmp (m >>= f) (p >>= g):=by
 refine cD h λx y (r:x=y.map U)=>?_
 rw[r]
 exact k y
theorem qS (e:∀ x y:Keyed,Sim prog w A E s U cmp (lt' (U x) (U y)) (lt' x y)) (i:Nat):Sim prog w A E s U cmp (mergeAt' i) (mergeAt' i):=by
 refine dh λst ps c=>?_
 have h1:=c.arr
 have h2:=c.pend
 simp only[arrOf,pendingOf] at h1 h2
 rw[h2]
 generalize (pendingOf ps)[i]?=a
 generalize (pendingOf ps)[i+1]?=b
 cases a with
 | none=>exact dg
 | some a =>
 cases b with
 | none=>exact dg
 | some b =>
 obtain ⟨sa,na,h⟩:=a
 obtain ⟨sb,nb,g⟩:=b
 refine aA (BJ #[c.kind,c.kind',c.arr,rfl,c.mg,c.fail,c.fail']) λ_=>?_
 rw[h1]
 refine bN λu=>?_
 refine bB (fP e) (aI rfl) λk=>?_
 refine bH (λ_=>aI rfl) λ_=>?_
 refine bN λu=>?_
 refine bB (fP e) (aI rfl) λk=>?_
 refine bH (λ_=>aI rfl) λ_=>?_
 simp only[<- Array.map_extract]
 refine bH (λ_=>?_) λ_=>?_
 .refine nY (qQ e _ _) λd=>aA (uU (λ_ _=>rfl) λ_ _ _=>Array.map_setIfInBounds.symm) λ_=>dh λst ps f=>aI ?_
  show (failedOf st).isNone=(failedOf ps).isNone
  rw[f.fail,f.fail']
 .refine nY (qR e _ _) λd=>aA (uU (λ_ _=>rfl) λ_ _ _=>Array.map_setIfInBounds.symm) λ_=>dh λst ps f=>aI ?_
  show (failedOf st).isNone=(failedOf ps).isNone
  rw[f.fail,f.fail']
theorem qP (F:Array (Nat×Nat×Nat)->Array (Nat×Nat×Nat)) (hf:∀ st,f st=setPending st (F (pendingOf st))):Sim prog w A E s U cmp (modify f) (modify f) :=
 d9 λst ps a=>by
  rw[hf,hf]
  exact #[a.kind,a.kind',a.arr,congrArg F a.pend,a.mg,a.fail,a.fail']
theorem yD (a:∀ x y:Keyed,Sim prog w A E s U cmp (lt' (U x) (U y)) (lt' x y)):Sim prog w A E s U cmp sortRuns' sortRuns':=by
 rw[sortRuns'_eq]
 refine dh λst ps b=>?_
 have hsz:(arrOf st).size=(arrOf ps).size:=by rw[b.arr,Array.size_map]
 dsimp only
 rw[hsz]
 generalize (arrOf ps).size=n
 repeat' first
  | exact aI rfl
  | refine bH (λ_=>?_) (λ_=>?_)
  | (refine bB (BK a) ?_ (λu=>?_) <;> try dsimp only)
  | (refine aA (BL a) (λu=>?_);try dsimp only)
  | (refine aA (qS a _) (λu=>?_);try dsimp only)
  | (refine aA d8 (λu=>?_);try dsimp only)
  | (refine aA (qP (λp=>p.push _) λ_=>rfl) (λu=>?_);try dsimp only)
  | (refine aA (qP (λp=>p.modify (p.size - 1) _) λ_=>rfl) (λu=>?_);try dsimp only)
  | (refine dh λst ps b=>?_;rw[b.pend];generalize pendingOf ps=p;try dsimp only)
  | (refine iW (iV λi x=>?_) (λd=>?_) (λc d=>?_) <;> try dsimp only)
  | (generalize Array.back? _=d;rcases d with _ | ⟨s1,e,x⟩ <;> dsimp only)
  | (generalize (if p.size > 1 then p[p.size - 2]? else none)=d;rcases d with _ | ⟨s1,e,x⟩ <;> dsimp only)
end
def oD (n:Nat):Array Keyed:=((List.range n).map λi=>((Value.ref i,Value.ref i):Keyed)).toArray
def mx (x:Keyed):Option Nat:=match x.1 with
 | .ref i=>some i
 | _=>none
def bA (ns:List (List Int)):Option (List Nat) :=
 match ev (bG ns) (sortRuns'.run (SortSt.mk' (aX true) (oD ns.length) (List.toArray []) 7 none)) none with
 | some ((_,st),_)=>(arrOf st).toList.mapM mx
 | none=>none
structure NRs (h:Heap) (bs:List Addr) (ns:List (List Int)):Prop where
 len:ns.length=bs.length
 at':∀ (i:Nat) (b:Addr) (n:List Int),bs[i]?=some b->ns[i]?=some n->IsNts h b n
theorem NRs.tail (r:NRs h (b::bs) (n::ns)):NRs h bs ns :=
 #[by simpa using r.len,λi b n e1 a=>r.at' (i+1) b n (by simpa using e1) (by simpa using a)]
theorem NRs.keep (r:NRs h bs ns) (k:∀ b∈bs,∀ o,h.get? b=some o->h'.get? b=some o):NRs h' bs ns :=
 #[r.len,λi b n e1 a=>(r.at' i b n e1 a).at (k b (He e1))]
theorem NRs.mem (r:NRs h bs ns):∀ b∈bs,∃ n∈ns,IsNts h b n:=λb c=>by
 obtain ⟨i,hi⟩:=List.getElem?_of_mem c
 have a:i < ns.length:=by rw[r.len];exact (Hc.mp hi).1
 exact #[ns[i],List.getElem_mem _,r.at' i b _ hi (G7 a)]
def kOk (ns:List (List Int)):Prop:=(∀ n∈ns,n≠[])\/ns.head?=some []
theorem tu:bA []=some []:=by kernel_rfl
theorem tj (n:List Int):bA [n]=some [0]:=by kernel_rfl
section
variable {prog:Program} {w:World} {A:Around} {E:Value->Shared->Prop} {s:Shared}
theorem AH (a:IsNts s.heap b []) (h:Q none s):wpAny (model prog w) A (firstOfTuple' (.ref b)) Q E s:=by
 obtain ⟨it,⟨o,e,c,k,d⟩,j⟩:=a
 refine GU (wpAny_typeOf (T:="tuple") #[o,e,c] ?_)
 rw[if_neg (by decide)]
 refine GU (listItems_at e d ?_)
 have:it[0]?=none:=by
  rw[<- Array.getElem?_toList]
  generalize it.toList=l at j
  cases j
  rfl
 rw[this]
 exact GV h
theorem ju:∀ (bs:List Addr) (ns:List (List Int)),NRs s.heap bs ns->(∀ os:List (Option Value),(ns.head?=some []->os.head?=some none)->Q os s) ->
  wpAny (model prog w) A ((bs.map Value.ref).mapM firstOfTuple') Q E s
 | [],[],_,q=>by
  simp only[List.map_nil,List.mapM_nil]
  exact GV (q [] λh=>by cases h)
 | [],_::_,r,_=>by have:=r.len;cases this
 | _::_,[],r,_=>by have:=r.len;cases this
 | b::bs,n::ns,r,q=>by
  rw[Hm,List.mapM_cons]
  have a:=r.at' 0 b n rfl rfl
  cases n with
  | nil=>exact GU (AH a (GU (ju bs ns r.tail λos _=>GV (q (none::os) λ_=>rfl))))
  | cons i n=>exact GU (oR a (by simp) λj t=>GU (ju bs ns r.tail λos _=>GV (q (some (.int j t)::os) λh=>by simp at h)))
theorem nQ:∀ (bs:List Addr) (ns:List (List Int)),NRs s.heap bs ns->Q (bs.map λ_=>.type "tuple") s->wpAny (model prog w) A ((bs.map Value.ref).mapM typeOf) Q E s
 | [],_,_,q=>by
  simp only[List.map_nil,List.mapM_nil]
  exact GV q
 | _::_,[],r,_=>by have:=r.len;cases this
 | b::bs,n::ns,r,q=>by
  rw[Hm,List.mapM_cons]
  obtain ⟨it,⟨o,e,c,k,d⟩,j⟩:=r.at' 0 b n rfl rfl
  exact GU (wpAny_typeOf (T:="tuple") #[o,e,c] (GU (nQ bs ns r.tail (GV q))))
theorem Aq (h2:bs≠[]) (r:NRs s.heap bs ns) (c:kOk ns) (h:∀ k,t5 k->Q k s):wpAny (model prog w) A (keyKind' (bs.map Value.ref).toArray) Q E s:=by
 rcases c with c | c
 .refine Ap h2 (λb e=>?_) (h _ (.inl rfl))
  obtain ⟨n,f,x⟩:=r.mem b e
  exact #[n,c n f,x]
 .rw[keyKind'_eq,List.mapM_toArray]
  refine GU ?_
  rw[map_eq_pure_bind]
  refine GU (ju bs ns r λos d=>GV ?_)
  have d:=d c
  obtain ⟨os,rfl⟩:∃ l,os=none::l:=by
   cases os with
   | nil=>cases d
   | cons x l=>cases d;exact #[l,rfl]
  rw[if_neg (by simp),if_neg (by simp),oneTypeOnly'_eq,List.mapM_toArray]
  refine GU (GU ?_)
  rw[map_eq_pure_bind]
  refine GU (nQ bs ns r (GV ?_))
  have h0:(List.map (λ_:Addr=>Value.type "tuple") bs).toArray[0]?=some (Value.type "tuple"):=by
   cases bs with
   | nil=>exact absurd rfl h2
   | cons b bs=>simp
  have a:((List.map (λ_:Addr=>Value.type "tuple") bs).toArray.all λx=>x == Value.type "tuple")=true:=by
   simp only[List.all_toArray,List.all_map,List.all_eq_true]
   intro _ _
   rfl
  rw[h0]
  dsimp only
  rw[if_pos a]
  exact GV (GV (h _ (.inr rfl)))
theorem wR (bs:List Addr):(bs.map Value.ref).toArray.zip (bs.map Value.ref).toArray=(oD bs.length).map (mS bs):=by
 apply Array.ext_getElem?
 intro i
 rw[List.zip_toArray,Array.getElem?_map]
 unfold oD
 simp only[List.getElem?_toArray,Hh]
 by_cases hi:i < bs.length
 .rw[List.getElem?_range hi]
  have e:bs[i]?=some bs[i]:=G7 hi
  have:((bs.map Value.ref).zip (bs.map Value.ref))[i]?=some (Value.ref bs[i],Value.ref bs[i]):=by
   simp[List.getElem?_zip_eq_some,e]
  rw[this]
  simp[mS,List.getD,e]
 .grind
theorem rF:∀ {l:List Keyed} {is:List Nat},l.mapM mx=some is->l.map (λx=>(mS bs x).2)=is.map λi=>Value.ref (bs.getD i 0)
 | [],is,h=>by cases h;rfl
 | x::l,is,h=>by
  rw[List.mapM_cons] at h
  obtain ⟨i,e1,h⟩:=Hx.mp h
  obtain ⟨a,b,h⟩:=Hx.mp h
  cases h
  rw[Hm,Hm,rF b]
  congr 1
  unfold mx at e1
  unfold mS
  cases c:x.1 <;> rw[c] at e1 <;> cases e1
  rfl
theorem wF (hu:A.units < cLine) (r:NRs s.heap bs ns) (j:t5 k) (c:bA ns=some is) (h:∀ b,(arrOf b).map (·.2)=(is.map λi=>Value.ref (bs.getD i 0)).toArray->failedOf b=none->Q () b) :
  wpS (model prog w) A E s sortRuns' Q (SortSt.mk' k ((bs.map Value.ref).toArray.zip (bs.map Value.ref).toArray) (List.toArray []) 7 none):=by
 unfold bA at c
 cases e:ev (bG ns) (sortRuns'.run (SortSt.mk' (aX true) (oD ns.length) (List.toArray []) 7 none)) none with
 | none=>rw[e] at c;cases c
 | some p =>
  obtain ⟨⟨u,ps⟩,q⟩:=p
  rw[e] at c
  have c:(arrOf ps).toList.mapM mx=some is:=c
  have g:∀ (i:Nat) (n:List Int),ns[i]?=some n->IsNts s.heap (bs.getD i 0) n:=λi n e=>by
   have hi:i < bs.length:=by rw[<- r.len];exact (Hc.mp e).1
   have d:bs[i]?=some bs[i]:=G7 hi
   rw[List.getD,d]
   exact r.at' i _ n d e
  obtain ⟨a,b,_,f,_,hw⟩:=yD (Ez (prog:=prog) (w:=w) (E:=E) hu g) (SortSt.mk' k ((bs.map Value.ref).toArray.zip (bs.map Value.ref).toArray) (List.toArray []) 7 none) (SortSt.mk' (aX true) (oD ns.length) (List.toArray []) 7 none) u ps q
   #[j,rfl,by rw[r.len];exact wR bs,rfl,rfl,rfl,rfl] e
  refine hw _ (h b ?_ f.fail)
  rw[f.arr,Array.map_map]
  apply Array.ext'
  rw[Array.toList_map]
  exact rF c
theorem yC {n:Nat} (hu:A.units < cLine) (p:s.heap.get? a=some (seqObj "list" (bs.map Value.ref).toArray n)) (r:NRs s.heap bs ns) (x:kOk ns) (j:bA ns=some is) (hsz:bs.length<=sizeLine) (t:is.length<=sizeLine) (h:P (.done (.ret .none)) { s with heap:=sortedHeap s.heap a (bs.map Value.ref) (is.map λi=>Value.ref (bs.getD i 0)).toArray }) :
  wpAny (model prog w) A (Builtin.«list.sort» #[[.ref a],[]]) P E s:=by
 rw[list_sort_plain]
 have D:a < s.heap.objs.size:=G8 p
 have hsz2:(bs.map Value.ref).toArray.size<=sizeLine:=by simpa using hsz
 have g:(is.map λi=>Value.ref (bs.getD i 0)).toArray.size<=sizeLine:=by simpa using t
 have v:∀ b∈bs,b≠a:=λb q z=>by
  obtain ⟨m,_,it,⟨o,e1,c,_⟩,_⟩:=r.mem b q
  rw[z,p] at e1
  cases e1
  have c:Value.type "list"=Value.type "tuple":=c
  injection c with c
  exact absurd c (by decide)
 refine GU (listItems_at p rfl ?_)
 refine GU (listUpdate_at p rfl ?_)
 obtain ⟨e1,l⟩:∃ e1,(s.heap.update a (Obj.mapSeq λ_=>(List.toArray []))).get? a=some (seqObj "list" (List.toArray []) e1):=#[_,get?_update_seq p (λ_=>(List.toArray []))]
 refine GU (seqEpoch_at l rfl ?_)
 refine GU (wpAny_newTuple ?_)
 refine GU (wpAny_newList ?_)
 refine GW ?_
 have f:(((s.heap.update a (Obj.mapSeq λ_=>(List.toArray []))).push (seqObj "tuple" (bs.map Value.ref).toArray 0)).push (seqObj "list" (List.toArray []) 0)).get? a=some (seqObj "list" (List.toArray []) e1) :=
  GZ _ (GZ _ l)
 have y:NRs (((s.heap.update a (Obj.mapSeq λ_=>(List.toArray []))).push (seqObj "tuple" (bs.map Value.ref).toArray 0)).push (seqObj "list" (List.toArray []) 0)) bs ns:=r.keep λb q o e =>
  GZ _ (GZ _ ((HB _ _ (Ne.symm (v b q))).trans e))
 show wpAny (model prog w) A _ P E { s with heap:=((s.heap.update a (Obj.mapSeq λ_=>(List.toArray []))).push (seqObj "tuple" (bs.map Value.ref).toArray 0)).push (seqObj "list" (List.toArray []) 0) }
 dsimp only
 by_cases h2:(bs.map Value.ref).toArray.size < 2
 .rw[if_pos h2,if_pos h2]
  refine GU (GV ?_)
  rw[StateT.run_pure]
  refine GU (GV ?_)
  dsimp only
  have out:((bs.map Value.ref).toArray.zip (bs.map Value.ref).toArray).map (·.2)=(is.map λi=>Value.ref (bs.getD i 0)).toArray:=by
   have C:=r.len
   match bs,ns,C,h2 with
   | [],[],_,_=>rw[tu] at j;cases j;simp
   | [b],[n],_,_=>rw[tj] at j;cases j;simp[List.zip_toArray]
   | _::_::_,_,_,h2=>simp at h2;lia
  refine GU (seqEpoch_at f rfl ?_)
  show wpAny _ _ (Builtin.List.listUpdate (.ref a) (λ_=>((bs.map Value.ref).toArray.zip (bs.map Value.ref).toArray).map (·.2)) >>= _) _ _ _
  rw[out]
  refine GU (listUpdate_at f rfl ?_ (hsz2:=Nat.le_succ_of_le g))
  simp only[bne_self_eq_false,Hz,if_false]
  exact GV h
 .rw[if_neg h2,if_neg h2]
  have u:bs≠[]:=λz=>by subst z;simp at h2
  refine GU (Aq u y x λk x=>?_)
  refine GU (wpAny_mono (wF (Q:=λ_ d=>(arrOf d).map (·.2)=(is.map λi=>Value.ref (bs.getD i 0)).toArray/\failedOf d=none) hu y x j λd a1 a2=>#[a1,a2]) ?_ λ_ _ e=>e)
  rintro ⟨⟨⟩,d⟩ s' ⟨rfl,B,hf⟩
  dsimp only
  refine GU (seqEpoch_at f rfl ?_)
  rw[B]
  refine GU (listUpdate_at f rfl ?_ (hsz2:=Nat.le_succ_of_le g))
  rw[hf]
  simp only[bne_self_eq_false,Hz,if_false]
  exact GV h
end
section
variable {prog:Program} {w:World} {A:Around} {E:Value->Shared->Prop} {s:Shared}
theorem tf (hu:A.units+2 < cLine) (g:s.heap.IsList l (bs.map Value.ref).toArray) (r:NRs s.heap bs ns) (j:kOk ns) (k:bA ns=some is) (hsz:bs.length<=sizeLine) (d:is.length<=sizeLine) (h:∀ h' p,s.heap.objs.size<=p->(∀ b o,s.heap.get? b=some o->h'.get? b=some o)->(∃ e,h'.get? p=some (seqObj "list" (is.map λi=>Value.ref (bs.getD i 0)).toArray e))->Q (.ref p) { s with heap:=h' }) :
  wpAny (model prog w) A (call (.builtin "sorted") [.ref l]) Q E s:=by
 refine Calls.call_function_entry kind_sorted plain_sorted entry_sorted (args_sorted1 _) ?_
 unfold Builtin.«sorted»
 refine GU (m:=checkCount "sorted" 1 1 _) (GV ?_)
 refine GU (collect_list g ?_ (by rw[Hb];exact hsz))
 refine GU (wpAny_newList ?_ (by rw[Hb];exact hsz))
 obtain ⟨h1,k1,f,e1⟩:∃ h1,(∀ b o,s.heap.get? b=some o->h1.get? b=some o)/\s.heap.objs.size<=h1.objs.size/\h1=(s.heap.push (seqObj "list" (List.toArray []) 0)).update s.heap.objs.size (Obj.mapSeq (·++(bs.map Value.ref).toArray)):=by
  refine #[_,λb o e=>?_,?_,rfl]
  .exact (HB _ _ (Nat.ne_of_gt (G8 e))).trans (GZ _ e)
  .rw[Heap.size_update,HC]
   exact Nat.le_succ _
 rw[<- e1]
 have a:(h1.push (seqObj "list" (bs.map Value.ref).toArray 0)).get? h1.objs.size=some (seqObj "list" (bs.map Value.ref).toArray 0):=Ha _ rfl
 have k2:∀ b o,s.heap.get? b=some o->(h1.push (seqObj "list" (bs.map Value.ref).toArray 0)).get? b=some o:=λb o e=>GZ _ (k1 b o e)
 show wpAny _ _ _ _ _ { s with heap:=h1.push (seqObj "list" (bs.map Value.ref).toArray 0) }
 refine GU (GW (wpAny_call_entry slot_list_sort #[_,a,rfl] entry_list_sort (yC (s:={ s with heap:=h1.push (seqObj "list" (bs.map Value.ref).toArray 0) }) ?_ a (r.keep λb _ o e=>k2 b o e) j k hsz d #[_,rfl,?_]) (args_list_sort _)))
 .exact hu
 refine GV #[_,rfl,h _ h1.objs.size f (λb o e=>?_) ?_]
 .have hb1:b < h1.objs.size:=G8 (k1 b o e)
  unfold sortedHeap
  refine (HB _ _ (Nat.ne_of_gt hb1)).trans (GZ _ (GZ _ ?_))
  exact (HB _ _ (Nat.ne_of_gt hb1)).trans (k2 b o e)
 .unfold sortedHeap
  obtain ⟨e1,c⟩:∃ e1,((h1.push (seqObj "list" (bs.map Value.ref).toArray 0)).update h1.objs.size (Obj.mapSeq λ_=>(List.toArray []))).get? h1.objs.size=some (seqObj "list" (List.toArray []) e1):=#[_,get?_update_seq a (λ_=>(List.toArray []))]
  exact #[_,get?_update_seq (GZ _ (GZ _ c)) (λ_=>(is.map λi=>Value.ref (bs.getD i 0)).toArray)]
end
section
variable {X:Cx}
def zp (K:FG):List V->Hp->VK->Prop:=λxs H Q=>∃ (l:Addr) (bs:List Addr) (ns:List (List Int)) (is:List Nat),xs=[.ref l]/\SqL K H l (bs.map V.ref)/\ns.length=bs.length/\(∀ (i:Nat) (b:Addr) (n:List Int),bs[i]?=some b->ns[i]?=some n->H b=some (.tup (n.map V.int))) /\
 kOk ns/\bA ns=some is/\ns.length<=sizeLine/\is.length<=sizeLine/\∀ p,H p=none->Q (.ref p) (upd H p (.lst (is.map λi=>V.ref (bs.getD i 0))))
theorem u8:∀ {us:List Value} {bs:List Addr},Vals (bs.map V.ref) us->us=bs.map Value.ref
 | _,[],h=>by cases h;rfl
 | _,b::bs,h=>by
  cases h with
  | cons r h =>
   cases (show _=Value.ref b from r)
   rw[Hm,u8 h]
theorem uB (hu:X.A.units+2 < cLine):CallR X (.builtin "sorted") (zp X.K):=by
 intro pins s Y H xs us Q I g h
 obtain ⟨l,bs,ns,is,rfl,y,v,m,C,w,hz,c,q⟩:=h
 obtain ⟨u,rfl,t⟩:=d6 g
 cases (show u=Value.ref l from t)
 obtain ⟨its,z,p,_⟩:=I.list y
 have B:=u8 z
 subst B
 refine tf hu (by simpa using p.isList) #[v,λi b n e1 j=>?_] C w (by lia) c λh' p f k #[e,he]=>?_
 .obtain ⟨its,r,p,_⟩:=I.tuple (SqT.of (m i b n e1 j))
  exact #[_,p,js r]
 .have x:(is.map λi=>V.ref (bs.getD i 0))=(is.map λi=>bs.getD i 0).map V.ref:=by rw[HH];rfl
  have d:(is.map λi=>Value.ref (bs.getD i 0))=(is.map λi=>bs.getD i 0).map Value.ref:=by rw[HH];rfl
  refine #[.ref p,_,I.laid (a:=p) (o:=.lst (is.map λi=>V.ref (bs.getD i 0))) (t':=s.toks) (λb o q=>k b o q) f #[by rw[Hb];exact c,is.map (λi=>Value.ref (bs.getD i 0)),e,?_,he],rfl,q p (I.hok.fresh f)]
  rw[x,d]
  exact jx _
end
end L2
end
section
namespace L2
open PySem PySem.W PySem.Spec PyProof.Rows
abbrev excO (a:Addr) (cls:Value):HO:=.ext λh=>∃ o,h.get? a=some o/\o.cls=cls
abbrev iN (ob:Obj) (a:Addr) (cls:Value):HO:=.frz ob (excO a cls)
structure ExcK (K:FG) (D:Addr):Prop where
 ga:findIn K (.ref D) "__getattribute__"=some (some (.builtin "BaseException.__getattribute__"))
 gt:findIn K (.ref D) "__getattr__"=some none
 cl:(clsIn K D).isSome=true
 ca:findIn K (.ref D) "__class__"=some (some (.builtin "object.__class__"))
 sp:specialIn K (.builtin "object.__class__") "__get__"=some (some (.builtin "getset_descriptor.__get__"))
 tk:takesIn K (.builtin "object.__class__")=some true
 ob:mroIn K D (.type "object")=some true
 be:mroIn K D (.type "BaseException")=some true
structure XName (K:FG) (c:String) (D:Addr):Prop where
 ns:nsIn K mainGlobals (Str.ofString c)=some (some (.ref D))
 ex:ExcK K D
theorem XName.inj {K:FG} (a:XName K c D) (b:XName K c D'):D=D':=by
 have:=a.ns.symm.trans b.ns
 cases this
 rfl
end L2
end
section
namespace L2
open PySem
section
variable {K:FG} {h:Heap} {mg:Str->Option Value}
theorem Aj {h:Heap} {i:Nat} {p:Obj} {q:Nat×Obj} (a:h.objs[i]?=some p) (e:sh (i,p)=some q):q.1=i /\ h.get? i=some q.2:=by
  obtain ⟨c,d,x,y⟩:=p
  unfold Heap.get?
  rw[a]
  cases x <;> first | (cases e; exact #[rfl,rfl]) | cases e
theorem ku:∀ {is:List Nat} {l:List Obj} {a:Nat} {o:Obj},(∀ (j i:Nat) (p:Obj),is[j]?=some i->l[j]?=some p->h.objs[i]?=some p)->((is.zip l).filterMap sh).lookup a=some o->h.get? a=some o
 | [],_,_,_,_,e=>by cases e
 | _::_,[],_,_,_,e=>by cases e
 | b::is,p::l,a,o,hj,e=>by
  have m:=hj 0 b p rfl rfl
  have g:∀ (j i:Nat) (p:Obj),is[j]?=some i->l[j]?=some p->h.objs[i]?=some p:=λj i p h1 h2=>hj (j+1) i p (by simpa using h1) (by simpa using h2)
  rw[List.zip_cons_cons,List.filterMap_cons] at e
  cases d:sh (b,p) with
  | none=>rw[d] at e;exact ku g e
  | some q =>
   rw[d] at e
   obtain ⟨h1,h2⟩:=Aj m d
   obtain ⟨f,k⟩:=q
   cases h1
   replace e:List.lookup a ((f,k)::(is.zip l).filterMap sh)=some o:=e
   rw[List.lookup_cons] at e
   cases c:a == f with
   | true=>rw[c] at e;cases eq_of_beq c;cases e;exact h2
   | false=>rw[c] at e;exact ku g e
theorem fragAt_in (h:Heap):(AF h).In h:=λ_ _ e=>ku (λj i p h1 h2=>by
 obtain ⟨a,rfl⟩:=Hc.mp h1
 simpa using h2) e
def stPos (s:Stmt):Pos:=match s with
 | .FunctionDef _ _ _ _ _ _ _ _ _ p=>p
 | _=>#[0,0,0,0]
theorem Gy (X:K.In h) (G:h.Ns mainGlobals mg) (e:sA K n=mP n st):Def K mg n st:=by
 unfold sA at e
 split at e
 .rename_i f hf
  split at e
  .rename_i d c fd sl a
   unfold mP at e
   obtain ⟨name,qual,params,body,scope,globals,closure,defaults,kw,doc,pm,an,cd,ct,bi⟩:=fd
   simp only[Option.some.injEq,Prod.mk.injEq] at e
   obtain ⟨rfl,rfl,rfl,rfl,rfl,rfl,rfl,rfl,rfl,b⟩:=e
   exact #[f,_,Gr (st:=st) a b (by unfold PySem.W.keepIn;simp only[a]),PySem.W.mg_of X G hf]
  .cases e
 .cases e
theorem my {α β:Type} {f g:α->β} {l:List α} (e:l.map f=l.map g) (i:Nat) {a:α} (h:l[i]?=some a):f a=g a:=List.map_inj_left.mp e a (He h)
theorem aJ {ds:List (Str×Stmt)} (X:K.In h) (G:h.Ns mainGlobals mg) (e:ds.map (λp=>sA K p.1)=ds.map (λp=>mP p.1 p.2)) (i:Nat) (hi:ds[i]?=some (n,st)):Def K mg n st:=Gy X G (my e i hi)
theorem b8 {l:List Str} (X:K.In h) (G:h.Ns mainGlobals mg) (e:l.map (PySem.W.nsIn K mainGlobals)=l.map (λ_=>some none)) (i:Nat) (hi:l[i]?=some n):mg n=none:=PySem.W.mg_none_of X G (my e i hi)
theorem p5 {l:List (Str×Int)} {v:Int} (X:K.In h) (G:h.Ns mainGlobals mg) (e:l.map (λp=>p6 K p.1)=l.map (λp=>some p.2)) (i:Nat) (hi:l[i]?=some (n,v)):∃ t,mg n=some (.int v t):=by
 have e:=my e i hi
 unfold p6 at e
 dsimp only at e
 split at e
 .rename_i b t a;cases e;exact #[t,PySem.W.mg_of X G a]
 .cases e
theorem walk_ofS {l:PySem.W.OpenLaw} {n k:Nat} {S:FG->Prop} {sp:FG->Sp} (I:l.most=some n) (j:n<=sizeLine) (t:d.params.defaults=[]) (J:Room k callerA) (B:∀ (w:World) (h:Heap),YP w h->∃ K:FG,K.In h/\S K) (F:∀ (w:World) (mg:Str->Option Value) (i:Addr) (h:Heap) (K:FG),S K->K.In h->h.Ns mainGlobals mg->mg d.name=some (.ref i) ->
   ∃ fd:FuncData,(∀ (s:Shared) (u:Value),BindsTo s fd #[[u],[]] [(x,u)]) /\
    ∀ base:Heap,K.In base->base.Ns mainGlobals mg->FnOk l.prog w K mg base CX k i fd [x] (sp K)) (r:∀ (K:FG) (H:Hp) (a:Addr) (ns:List Int),ns.length<=n->Dk H->SqL K H a (ns.map V.int)->sp K [.ref a] H (λv _=>v=.bl true) λ_ _ _=>False) (m:∀ (H:Hp) (s:Shared) (e:Value) (s':Shared),CX [] H s (λ_ _ _=>False) e s'->False) :
  PySem.W.WalkO q loose XP YP l.row.toRowW d [] (λf z=>PySem.call f z):=by
 refine Att.attach_call I t λw s₀ L mg mb i o pm cd doc a z ns G σ τ hd N p c hints hlen E=>?_
 obtain ⟨K,A,y⟩:=B w _ σ
 obtain ⟨fd,C,D⟩:=F w mg i _ K y A G.T.g p
 exact Al A G.T.g G.T.b G.T.builtins G.T.nolimit E c hints (HE hlen j) J D C (λH M y=>r K H a ns hlen M y) λH e s'=>m H L e s'
end
end L2
end
section
namespace L2
open PySem PySem.Spec PyProof.Rows
def NoCtx (h:Heap) (a:Addr):Prop:=∃ o b,h.get? a=some o/\o.data=.fields b/\b[2]?=some Value.none
theorem NoCtx.keep (x:NoCtx h a) (k:∀ o,h.get? a=some o->h'.get? a=some o):NoCtx h' a :=
 let #[o,b,e,r]:=x;#[o,b,k o e,r]
def cX (Φ:Heap->Prop) {α:Type}:Sem α->Prop
 | .pure _ | .raise _ | .unsupported _ | .finish _=>True
 | .rule _ k=>cX Φ (k ())
 | .at _ k=>cX Φ (k ())
 | .point _ k=>cX Φ (k ())
 | .load _ _ k=>∀ o,cX Φ (k o)
 | .loadIfAlive _ k=>∀ o,cX Φ (k o)
 | .update a _ f k=>(∀ h,Φ h->Φ (h.update a f))/\cX Φ (k ())
 | .alloc _ k=>∀ a,cX Φ (k a)
 | .fresh k=>∀ t,cX Φ (k t)
 | .ask k=>∀ x,cX Φ (k x)
 | .handled _ k=>∀ v,cX Φ (k v)
 | .stack k=>∀ l,cX Φ (k l)
 | _=>False
theorem Bq (push:∀ h o,Φ h->Φ (h.push o)) (t:Sem α):∀ {Q:α->Pos->Shared->Prop} {E:Value->Pos->Shared->Prop} {p:Pos} {s:Shared},cX Φ t->Φ s.heap->Sem.wp M Γ t Q E p s->Sem.wp M Γ t (λa p s'=>Q a p s'/\Φ s'.heap) (λe p s'=>E e p s'/\Φ s'.heap) p s:=by
 induction t with
 | pure a=>intro Q E p s _ f h;rw[Sem.wp] at h ⊢;exact #[h,f]
 | raise e=>intro Q E p s _ f h;rw[Sem.wp] at h ⊢;exact #[h,f]
 | unsupported w=>intro Q E p s _ f h;rw[Sem.wp] at h;exact h.elim
 | finish e=>intro Q E p s _ f h;rw[Sem.wp] at h;exact h.elim
 | rule _ k ih=>intro Q E p s c f h;rw[Sem.wp] at h ⊢;exact ih () c f h
 | «at» _ k ih=>intro Q E p s c f h;rw[Sem.wp] at h ⊢;exact ih () c f h
 | point _ k ih=>intro Q E p s c f h;rw[Sem.wp] at h ⊢;exact ih () c f h
 | load a _ k ih=>intro Q E p s c f h;rw[Sem.wp] at h ⊢;obtain ⟨o,e,h⟩:=h;exact #[o,e,ih o (c o) f h]
 | loadIfAlive a k ih=>intro Q E p s c f h;rw[Sem.wp] at h ⊢;exact ih _ (c _) f h
 | update a _ g k ih=>intro Q E p s c f h;rw[Sem.wp] at h ⊢;exact #[h.1,ih () c.2 (c.1 _ f) h.2]
 | alloc o k ih=>intro Q E p s c f h;rw[Sem.wp] at h ⊢;exact ih _ (c _) (push _ _ f) h
 | fresh k ih=>intro Q E p s c f h;rw[Sem.wp] at h ⊢;exact ih _ (c _) f h
 | ask k ih=>intro Q E p s c f h;rw[Sem.wp] at h ⊢;exact ih _ (c _) f h
 | handled _ k ih=>intro Q E p s c f h;rw[Sem.wp] at h ⊢;exact ih _ (c _) f h
 | stack k ih=>intro Q E p s c f h;rw[Sem.wp] at h ⊢;exact ih _ (c _) f h
 | _=>intro Q E p s c;exact False.elim c
theorem de (push:∀ h o,Φ h->Φ (h.push o)) (c:cX Φ t) (f:Φ s.heap) (h:wpAny M A t Q E s):wpAny M A t (λa s'=>Q a s'/\Φ s'.heap) (λe s'=>E e s'/\Φ s'.heap) s :=
 λΓ p i=>Bq push t c f (h Γ p i)
theorem aD (t:Sem α):cX Φ t->(∀ a,cX Φ (f a))->cX Φ (t.bind f):=by
 induction t with
 | pure a=>exact λ_ k=>k a
 | raise e=>exact λ_ _=>trivial
 | unsupported w=>exact λ_ _=>trivial
 | finish e=>exact λ_ _=>trivial
 | rule _ k ih=>exact λc q=>ih () c q
 | «at» _ k ih=>exact λc q=>ih () c q
 | point _ k ih=>exact λc q=>ih () c q
 | load a _ k ih=>exact λc q o=>ih o (c o) q
 | loadIfAlive a k ih=>exact λc q o=>ih o (c o) q
 | update a _ g k ih=>exact λc q=>#[c.1,ih () c.2 q]
 | alloc o k ih=>exact λc q a=>ih a (c a) q
 | fresh k ih=>exact λc q a=>ih a (c a) q
 | ask k ih=>exact λc q a=>ih a (c a) q
 | handled _ k ih=>exact λc q a=>ih a (c a) q
 | stack k ih=>exact λc q a=>ih a (c a) q
 | _=>exact λc _=>c.elim
def NoCtD (h:Heap) (a:Addr) (da:Option Addr):Prop:=∃ o b,h.get? a=some o/\o.data=.fields b/\b[2]?=some Value.none/\o.dict=da
theorem NoCtD.keep {h h':Heap} {a:Addr} {da:Option Addr} (x:NoCtD h a da) (k:∀ o,h.get? a=some o->h'.get? a=some o):NoCtD h' a da :=
 let #[o,b,e,r]:=x;#[o,b,k o e,r]
theorem di {da:Option Addr}:∀ (h:Heap) (o:Obj),NoCtD h a da->NoCtD (h.push o) a da:=λh o x=>x.keep λ_ e=>GZ _ e
theorem pJ {da:Option Addr} {i:Nat} (hi:i≠2):∀ h:Heap,NoCtD h a da->NoCtD (h.update b (Obj.mapFields (·.setIfInBounds i v))) a da:=λh x=>by
 by_cases e:b=a
 .subst e
  obtain ⟨o,f,d,hd,h2,h3⟩:=x
  have hd2:=Obj.data_mapFields hd (·.setIfInBounds i v)
  exact #[_,_,Hs _ d (Obj.isFreed_of_fields hd2),hd2,by rw[Array.getElem?_setIfInBounds_ne hi];exact h2,by obtain ⟨_,_,c,_⟩:=o;cases c <;> exact h3]
 .exact x.keep λo q=>(HB _ _ e).trans q
theorem rH {da:Option Addr} (hf:∀ o,(f o).data=o.data) (c:∀ o,(f o).dict=o.dict):∀ h:Heap,NoCtD h a da->NoCtD (h.update b f) a da:=λh x=>by
 by_cases e:b=a
 .subst e
  obtain ⟨o,g,d,hd,h2,h3⟩:=x
  exact #[f o,g,Hs _ d (Obj.isFreed_of_fields ((hf o).trans hd)),(hf o).trans hd,h2,(c o).trans h3]
 .exact x.keep λo q=>(HB _ _ e).trans q
section
variable {a:Addr} {da:Option Addr}
theorem nt (v:Value):cX (NoCtD · a da) (fieldsOf v):=by
 unfold fieldsOf
 cases v <;> try exact trivial
 exact λo=>by
  show cX _ (match o.data with | .fields vs=>_ | _=>_)
  split <;> exact trivial
theorem jn (v:Value) (i:Nat):cX (NoCtD · a da) (field v i):=by
 unfold field
 refine aD _ (nt v) λb=>?_
 split <;> exact trivial
theorem fg (v:Value) {i:Nat} (hi:i≠2) (x:Value):cX (NoCtD · a da) (setField v i x):=by
 unfold setField
 cases v <;> try exact trivial
 exact λo=>by
  show cX _ (match o.data with | .fields vs=>_ | _=>_)
  split
  .split
   .exact #[pJ hi,trivial]
   .exact trivial
  .exact trivial
theorem ir (e:Value) (f:Option Addr):cX (NoCtD · a da) (setFlight e f):=by
 unfold setFlight
 refine aD _ (jn e 1) λtb=>?_
 split
 .exact fg _ (by decide) _
 .exact trivial
theorem tD (f:Addr) (b:Bool):cX (NoCtD · a da) (entryPlaceOf f b):=by
 unfold entryPlaceOf
 refine aD _ (λ_=>trivial) λl=>?_
 split <;> exact trivial
theorem l6 (t:String) (b:List Value):cX (NoCtD · a da) (newFields t b):=by
 unfold newFields newObj
 dsimp only
 split
 .exact trivial
 .exact λ_=>trivial
theorem wE (env:Env) (b:Bool):∀ l:List Env,cX (NoCtD · a da) (keptBack env b l)
 | []=>by
  simp only[keptBack]
  split
  .exact trivial
  .exact aD _ (aD _ (λ_=>trivial) λ_=>trivial) λ_=>trivial
 | _::_=>trivial
theorem l5:∀ l:List Env,cX (NoCtD · a da) (readyFrames l)
 | []=>trivial
 | env::outer=>by
  unfold readyFrames
  split
  .refine aD _ (λ_=>trivial) λo=>?_
   split
   .exact trivial
   .refine aD _ ?_ λ_=>aD _ (wE _ _ _) λ_=>aD _ #[rH (λ_=>rfl) λ_=>rfl,trivial] λ_=>l5 outer
    unfold behindIsImport
    split
    .exact trivial
    .split
     .exact trivial
     .exact aD _ (jn _ _) λ_=>trivial
  .exact trivial
theorem pe (env:Env):cX (NoCtD · a da) (PySem.frameOf env):=by
 unfold PySem.frameOf
 refine aD _ (aD _ (λ_=>trivial) λ_=>trivial) λl=>?_
 refine aD _ ?_ λr=>?_
 .unfold frameObject
  split
  .exact trivial
  .exact aD _ (l5 _) λ_=>trivial
 .split <;> exact trivial
theorem n4 (e:Value) (env:Env):cX (NoCtD · a da) (noteFrame e env):=by
 unfold noteFrame
 repeat' first
  | exact trivial
  | exact fg _ (by decide) _
  | refine aD _ (jn _ _) (λ_=>?_)
  | refine aD _ (fg _ (by decide) _) (λ_=>?_)
  | refine aD _ (pe _) (λ_=>?_)
  | refine aD _ (tD _ _) (λ_=>?_)
  | refine aD _ (l6 _ _) (λ_=>?_)
  | split
theorem fR (e:Value) (env:Env):cX (NoCtD · a da) (leaving env e):=aD _ (n4 e env) λ_=>ir e none
end
section
variable {M:Model} {A:Around} {E:Value->Shared->Prop} {s:Shared} {base h:Heap} {env:Env} {outer l:List Env} {L e:Addr} {cls a0:Value} {args:List Value} {da:Option Addr} {Q:Unit->Shared->Prop}
theorem pX (b:A.frames=some (env::outer)) (hf:env.frame=some L) (f:base.StaysIn h) (i:h.FunFrames base (env::outer)) (g:Heap.MadeExcOf h s.heap e cls args)
  (j:∀ h' t,Heap.FlyingW base outer e cls (.ref t) h'->s.heap.UpToSlots h'->NoCtD h' e none->Q () { s with heap:=h' }):wpAny M A (leaving env (.ref e)) Q E s:=by
 have c:NoCtD s.heap e none:=by
  obtain ⟨t,he,_⟩:=g.there
  exact #[_,_,he,rfl,rfl,rfl]
 refine wpAny_mono (de di (fR _ _) c (wpAny_leaves_madeW (Q:=λ_ s2=>∃ h' t,s2={ s with heap:=h' }/\Heap.FlyingW base outer e cls (.ref t) h'/\s.heap.UpToSlots h') b hf f i g λh' t a _ _ d=>#[h',t,rfl,a,d])) (λ_ s2 q=>?_) λ_ _ z=>z.1
 obtain ⟨⟨h',t,rfl,a,d⟩,n⟩:=q
 exact j h' t a d n
theorem pW {b:Obj} {c:Array Value} (f:A.frames=some (env::outer)) (hf:env.frame=some L) (g:base.StaysIn s.heap) (j:s.heap.FunFrames base (env::outer)) (he:s.heap.get? e=some b) (h:base.get? e=none) (hd:b.data=.fields c) (h0:c[0]?=some a0) (h1:c[1]?=some .none) (h2:c[2]?=some .none)
  (k:∀ h',Heap.FlyingW base outer e b.cls a0 h'->s.heap.UpToSlots h'->NoCtD h' e b.dict->Q () { s with heap:=h' }):wpAny M A (leaving env (.ref e)) Q E s:=by
 refine wpAny_mono (de di (fR _ _) (#[b,c,he,hd,h2,rfl]:NoCtD s.heap e b.dict) (wpAny_leaving_firstW (Q:=λ_ s2=>∃ h',s2={ s with heap:=h' }/\Heap.FlyingW base outer e b.cls a0 h'/\s.heap.UpToSlots h') f j hf he g h hd h1 h0 λh' z=>?_)) (λ_ s2 q=>?_) λ_ _ z=>z.1
 .obtain ⟨k1,⟨_,_,k2⟩,k3,i⟩:=z
  exact #[h',rfl,#[k1,h,k2,k3],i]
 .obtain ⟨⟨h',rfl,a,d⟩,n⟩:=q
  exact k h' a d n
theorem uh (b:A.frames=some (env::outer)) (hf:env.frame=some L) (f:Heap.FlyingW base (env::outer) e cls a0 s.heap) (c:NoCtD s.heap e da)
  (g:∀ h',Heap.FlyingW base outer e cls a0 h'->s.heap.UpToSlots h'->NoCtD h' e da->Q () { s with heap:=h' }):wpAny M A (leaving env (.ref e)) Q E s:=by
 refine wpAny_mono (de di (fR _ _) c (wpAny_leaves_onW (Q:=λ_ s2=>∃ h',s2={ s with heap:=h' }/\Heap.FlyingW base outer e cls a0 h'/\s.heap.UpToSlots h') b hf f λh' a d=>#[h',rfl,a,d])) (λ_ s2 q=>?_) λ_ _ z=>z.1
 obtain ⟨⟨h',rfl,a,d⟩,n⟩:=q
 exact g h' a d n
theorem xj (b:A.frames=some (env::outer)) (hf:env.frame=some L) (f:Heap.FlyingW base (env::outer) e cls a0 s.heap) (c:NoCtD s.heap e da)
  (g:∀ h',Heap.HeldW base (env::outer) e cls a0 L h'->s.heap.UpToSlots h'->NoCtD h' e da->Q () { s with heap:=h' }):wpAny M A (noteFrame (.ref e) env) Q E s:=by
 refine wpAny_mono (de di (n4 _ _) c (wpAny_looks_onW (Q:=λ_ s2=>∃ h',s2={ s with heap:=h' }/\Heap.HeldW base (env::outer) e cls a0 L h'/\s.heap.UpToSlots h') b hf f λh' a d=>#[h',rfl,a,d])) (λ_ s2 q=>?_) λ_ _ z=>z.1
 obtain ⟨⟨h',rfl,a,d⟩,n⟩:=q
 exact g h' a d n
theorem Ge (f:Heap.HeldW base l e cls a0 L s.heap) (c:NoCtD s.heap e da) (b:∀ h',Heap.FlyingW base l e cls a0 h'->s.heap.UpToSlots h'->NoCtD h' e da->Q () { s with heap:=h' }):wpAny M A (setFlight (.ref e) none) Q E s:=by
 refine wpAny_mono (de di (ir _ _) c (wpAny_landsW (Q:=λ_ s2=>∃ h',s2={ s with heap:=h' }/\Heap.FlyingW base l e cls a0 h'/\s.heap.UpToSlots h') f λh' a d=>#[h',rfl,a,d])) (λ_ s2 q=>?_) λ_ _ z=>z.1
 obtain ⟨⟨h',rfl,a,d⟩,n⟩:=q
 exact b h' a d n
theorem pY (f:Heap.FlyingW base l e cls a0 s.heap) (c:NoCtD s.heap e da) (b:∀ h',Heap.FlyingW base l e cls a0 h'->s.heap.UpToSlots h'->NoCtD h' e da->Q () { s with heap:=h' }):wpAny M A (setFlight (.ref e) none) Q E s:=by
 refine wpAny_mono (de di (ir _ _) c (lands_againW (Q:=λ_ s2=>∃ h',s2={ s with heap:=h' }/\Heap.FlyingW base l e cls a0 h'/\s.heap.UpToSlots h') f λh' a d=>#[h',rfl,a,d])) (λ_ s2 q=>?_) λ_ _ z=>z.1
 obtain ⟨⟨h',rfl,a,d⟩,n⟩:=q
 exact b h' a d n
end
def NoC (ob:Obj):Prop:=∃ a,ob.data=.fields a/\a[2]?=some Value.none
def Hd (X:Cx):Prop:=∃ a ob u,X.A.handled=some (.ref a)/\X.H₀ a=some (.frz ob u)/\NoC ob
def Cov (fs:List Addr) (H':Hp) (h0 h' B:Heap):Prop:=∀ b o,h'.get? b=some o->b ∉ fs->(H' b≠none\/∃ o0,h0.get? b=some o0)->B.get? b=some o
structure Fly (P:Program) (w:World) (outer:List Env) (H:Hp) (s:Shared) (H':Hp) (a:Addr) (cls:Value) (da:Option Addr) (s':Shared):Prop where
 os:s'.os=s.os
 bare:AllBare s'.gens
 un:Un (frs outer) [] H H' s.heap s'.heap
 hok:HOk P w H' s'.heap
 free:H' a=none
 new:s.heap.get? a=none
 fl:∃ B a0,Heap.FlyingW B outer a cls a0 s'.heap/\Cov (frs outer) H' s.heap s'.heap B
 ctx:NoCtD s'.heap a da
def CXe (P:Program) (w:World):CXT:=λouter H s E e s'=>∃ a cls da H',e=.ref a/\Fly P w outer H s H' a cls da s'/\E cls da H'
section
variable {X:Cx} {pins:List (Addr×Obj)} {Y:St} {H:Hp} {s:Shared}
theorem Inv.noLoc (I:Inv X pins Y H s) (e:X.s₀.heap.get? b=some o):b≠X.env.locals:=Hk (Hq (G8 e) I.ok.above)
theorem HOk.at (ok:HOk P w H h) (e:H b≠none):∃ o,h.get? b=some o:=by
 cases q:H b with
 | none=>exact absurd q e
 | some u =>
  have:=ok b u q
  cases u with
  | lst xs=>obtain ⟨_,_,_,_,e⟩:=this;exact #[_,e]
  | tup xs=>obtain ⟨_,_,_,o,e,_⟩:=this;exact #[o,e]
  | dK kvs=>obtain ⟨_,_,_,_,o,_,_,e,_⟩:=this;exact #[o,e]
  | dT kvs=>obtain ⟨_,_,_,_,o,_,_,e,_⟩:=this;exact #[o,e]
  | set S n=>obtain ⟨o,_,_,_,e,_⟩:=this;exact #[o,e]
  | ins C dx fs=>obtain ⟨_,_,_,e,_⟩:=this;exact #[_,e]
  | own y=>exact this
  | xd fs=>obtain ⟨_,⟨o,_,_,e,_⟩,_⟩:=this;exact #[o,e]
  | rng lo hi=>obtain ⟨_,_,_,e⟩:=this;exact #[_,e]
  | frz ob u=>obtain ⟨e,_⟩:=this;exact #[_,e]
  | tbl ps=>exact #[_,this]
  | met f y=>exact #[_,this]
  | ext U=>obtain ⟨_,e,_⟩:=this;exact e
theorem pV (hex:X.ex=[]) (I:Inv X pins Y H s) (k1:∀ b o,s.heap.get? b=some o->b ∉ frs X.stack->(H b≠none\/∃ o0,X.s₀.heap.get? b=some o0)->h'.get? b=some o) (k2:∀ b o,s.heap.get? b=some o->(∀ j,o.data≠.fields j)->∃ sl,h'.get? b=some { o with slots:=sl }):Un (frs X.outer) [] X.H₀ H X.s₀.heap h'/\HOk X.prog X.w H h':=by
 have g:∀ b:Addr,b ∉ X.ex:=λb z=>by rw[hex] at z;cases z
 have out:∀ b o,X.s₀.heap.get? b=some o->b ∉ frs X.outer->b ∉ frs X.stack:=λb o e n z=>by
  rcases G6.mp (I.stkSub b z) with z | z
  .exact I.noLoc e z
  .exact n z
 have f:∀ b∈frs X.outer,∀ o,s.heap.get? b=some o->∀ j,o.data≠.fields j:=λb a o e=>by
  obtain ⟨_,o',m,d⟩:=I.funs.mem a
  rw[e] at m;cases m;exact d
 refine #[#[λb o e n a _=>?_,λb o e n a _=>?_,λb o e n _=>I.base.free b o e n (g b),λb o e _=>?_,I.base.tups,I.base.frzs,I.base.tbls],λb u e=>?_]
 .exact k1 b o (I.base.keep b o e n a (g b)) (out b o e a) (.inr #[o,e])
 .obtain ⟨sl,e1⟩:=I.base.slot b o e n a (g b)
  obtain ⟨h,i⟩:=k2 b _ e1 (f b a _ e1)
  exact #[h,i]
 .obtain ⟨o',e1⟩:=I.base.there b o e (g b)
  by_cases a:b∈frs X.outer
  .obtain ⟨sl,i⟩:=k2 b o' e1 (f b a o' e1)
   exact #[_,i]
  .exact #[o',k1 b o' e1 (out b o e a) (.inr #[o,e])]
 .refine (I.hok b u e).stay (λc v k z=>?_) (λ_ z=>z) λ_ _ z=>z
  have l:H c≠none:=by
   rcases k with rfl | k
   .rw[e];intro z;cases z
   .rw[k];intro z;cases z
  exact k1 c v z (λa=>l (I.stkFree c a)) (.inl l)
theorem mJ (hex:X.ex=[]) (I:Inv X pins Y H s) (k1:∀ b o,s.heap.get? b=some o->b ∉ frs X.stack->(H b≠none\/∃ o0,X.s₀.heap.get? b=some o0)->B.get? b=some o) (st:B.StaysIn h'):Cov (frs X.outer) H X.s₀.heap h' B:=λb o e n c=>by
 have g:∀ b:Addr,b ∉ X.ex:=λb z=>by rw[hex] at z;cases z
 have h1:∃ a,s.heap.get? b=some a/\b ∉ frs X.stack:=by
  rcases c with c | ⟨o0,d⟩
  .obtain ⟨a,e1⟩:=I.hok.at c
   exact #[a,e1,λh=>c (I.stkFree b h)]
  .obtain ⟨a,e1⟩:=I.base.there b o0 d (g b)
   refine #[a,e1,λz=>?_]
   rcases G6.mp (I.stkSub b z) with z | z
   .exact I.noLoc d z
   .exact n z
 obtain ⟨a,e1,i⟩:=h1
 have f:=k1 b a e1 i c
 rw[st b a f] at e
 cases e
 exact f
theorem Fly.inv {da:Option Addr} (I:Inv X pins Y H s) (f:Fly X.prog X.w X.stack H s H' a cls da s'):Inv X pins Y H' s' :=
 I.call' f.os f.un f.hok f.bare (λ_ z=>nomatch z)
theorem Inv.newAt (hex:X.ex=[]) (I:Inv X pins Y H s) (n:s.heap.get? a=none):X.s₀.heap.get? a=none/\H a=none:=by
 constructor
 .cases q:X.s₀.heap.get? a with
  | none=>rfl
  | some o =>
   obtain ⟨o',e⟩:=I.base.there a o q (by rw[hex];simp)
   rw[n] at e;cases e
 .cases q:H a with
  | none=>rfl
  | some u =>
   obtain ⟨o,e⟩:=I.hok.at (b:=a) (by rw[q];intro z;cases z)
   rw[n] at e;cases e
end
section
variable {P:Program} {w:World} {K:FG} {mg:Str->Option Value} {base:Heap} {N:List Str} {qual:Str} {scope:Scope} {f:Addr} {cd:Value} {A:Around} {outer:List Env} {s0:Shared} {H0:Hp} {E:XK} {pins:List (Addr×Obj)} {Y:St} {H:Hp} {s s':Shared}
theorem Bp (I:Inv (dN (CXe P w) P w K mg base N qual scope f cd A outer s0 H0 E) pins Y H s) (d:Heap.MadeExcOf s.heap s'.heap a cls vs) (j:s'.os=s.os) (p:s'.gens=s.gens) (m:E cls none H) :
  (dN (CXe P w) P w K mg base N qual scope f cd A outer s0 H0 E).xe (.ref a) s':=by
 have c:∀ env∈(PyProof.Rows.envOfC qual scope s0.heap.objs.size f cd::outer),∀ b,env.frame=some b->b∈frs (PyProof.Rows.envOfC qual scope s0.heap.objs.size f cd::outer):=λenv he b l=>List.mem_filterMap.mpr #[env,he,l]
 obtain ⟨k,g⟩:=I.newAt rfl d.new
 refine pX (base:=PySem.W.hideAll s.heap (frs (PyProof.Rows.envOfC qual scope s0.heap.objs.size f cd::outer))) (h:=s.heap) (L:=s0.heap.objs.size) I.ok.frames rfl (λb o q=>PySem.W.of_hideAll _ q) (PySem.W.funFrames_hide I.stack c) d λh' t f1 f4 r=>?_
 have k1:∀ b o,s.heap.get? b=some o->b ∉ frs (PyProof.Rows.envOfC qual scope s0.heap.objs.size f cd::outer)->(PySem.W.hideAll s.heap (frs (PyProof.Rows.envOfC qual scope s0.heap.objs.size f cd::outer))).get? b=some o:=λb o e n=>PySem.W.hideAll_get _ e n
 obtain ⟨u,ok⟩:=pV rfl I (h':=h') (λb o e n _=>f1.1 b o (k1 b o e n)) λb o e hd=>by
  obtain ⟨sl,i⟩:=f4 b o (d.keeps b o e) hd
  exact #[sl,i]
 refine #[a,cls,none,H,rfl,#[j.trans I.os,by show AllBare s'.gens;rw[p];exact I.bare,u,ok,g,k,#[_,_,f1,mJ rfl I (λb o e n _=>k1 b o e n) f1.1],r],m]
theorem x6 {a:Addr} {ob:Obj} {d:Array Value} {a0:Value} (I:Inv (dN (CXe P w) P w K mg base N qual scope f cd A outer s0 H0 E) pins Y H s) (he:s.heap.get? a=some ob) (hd:ob.data=.fields d) (h0:d[0]?=some a0) (h1:d[1]?=some .none) (h2:d[2]?=some .none) (h:s0.heap.get? a=none) (i:H a=none) (k:E ob.cls ob.dict H) :
  (dN (CXe P w) P w K mg base N qual scope f cd A outer s0 H0 E).xe (.ref a) s:=by
 have g:∀ env∈(PyProof.Rows.envOfC qual scope s0.heap.objs.size f cd::outer),∀ b,env.frame=some b->b∈a::frs (PyProof.Rows.envOfC qual scope s0.heap.objs.size f cd::outer):=λenv he b j=>GY _ (List.mem_filterMap.mpr #[env,he,j])
 have k1:∀ b o,s.heap.get? b=some o->b ∉ frs (PyProof.Rows.envOfC qual scope s0.heap.objs.size f cd::outer)->(H b≠none\/∃ o0,s0.heap.get? b=some o0)->(PySem.W.hideAll s.heap (a::frs (PyProof.Rows.envOfC qual scope s0.heap.objs.size f cd::outer))).get? b=some o:=λb o e n c=>PySem.W.hideAll_get _ e λz=>by
  rcases G6.mp z with z | z
  .subst z
   rcases c with c | ⟨_,c⟩
   .exact c i
   .rw[h] at c;cases c
  .exact n z
 refine pW (base:=PySem.W.hideAll s.heap (a::frs (PyProof.Rows.envOfC qual scope s0.heap.objs.size f cd::outer))) (L:=s0.heap.objs.size) I.ok.frames rfl (λb o q=>PySem.W.of_hideAll _ q) (PySem.W.funFrames_hide I.stack g) he (PySem.W.hideAll_none _ GX) hd h0 h1 h2 λh' f1 f4 l=>?_
 obtain ⟨u,ok⟩:=pV rfl I (h':=h') (λb o e n c=>f1.1 b o (k1 b o e n c)) f4
 exact #[a,ob.cls,ob.dict,H,rfl,#[I.os,I.bare,u,ok,i,h,#[_,_,f1,mJ rfl I k1 f1.1],l],k]
theorem DT (I:Inv (dN (CXe P w) P w K mg base N qual scope f cd A outer s0 H0 E) pins Y H s) (h:CXe P w (PyProof.Rows.envOfC qual scope s0.heap.objs.size f cd::outer) H s E1 e s') (l:∀ cls da H',E1 cls da H'->E cls da H') :
  (dN (CXe P w) P w K mg base N qual scope f cd A outer s0 H0 E).xe e s':=by
 obtain ⟨a,cls,da,H',rfl,F,i⟩:=h
 have d:=Fly.inv I F
 obtain ⟨B,a0,f1,g⟩:=F.fl
 have dj:s0.heap.get? a=none:=(I.newAt rfl F.new).1
 have k1:∀ b o,s'.heap.get? b=some o->b ∉ frs (PyProof.Rows.envOfC qual scope s0.heap.objs.size f cd::outer)->(H' b≠none\/∃ o0,s0.heap.get? b=some o0)->B.get? b=some o:=λb o e n c=>by
  refine g b o e n ?_
  rcases c with c | ⟨o0,j⟩
  .exact .inl c
  .exact .inr (I.base.there b o0 j (λz=>nomatch z))
 refine uh (L:=s0.heap.objs.size) I.ok.frames rfl f1 F.ctx λh' g1 g2 m=>?_
 obtain ⟨u,ok⟩:=pV rfl d (h':=h') (λb o e n c=>g1.1 b o (k1 b o e n c)) λb o e hd=>by
  obtain ⟨sl,k⟩:=g2 b o e hd
  exact #[sl,k]
 exact #[a,cls,da,H',rfl,#[d.os,d.bare,u,ok,F.free,dj,#[B,a0,g1,mJ rfl d k1 g1.1],m],l cls da H' i]
end
structure ECls (K:FG) (mg:Str->Option Value) (x:Str) (C:Addr):Prop where
 bound:mg x=some (.ref C)
 ok:PySem.W.excIn K C mroV "ValueError.__new__"=true
theorem xA {K:FG} (X:K.In h) (q:PySem.W.excIn K C bmB nid=true) :
  ∃ bm N nm d bs hdct sn sub ab col dd k0 k1 k2 k3 k5 mN,h.get? C=some (excClassObj nm d C N bs bm hdct sn sub ab col dd k0 k1 k2 k3 k5 nid)/\h.Ns N mN/\mN "__init__"=none/\OwnTail h bmB bm:=by
 unfold PySem.W.excIn at q
 split at q
 .rename_i dd cd sl o
  split at q
  .rename_i p bm k0 k1 k2 k3 n k5 hm m
   have i:=Bool.and_eq_true_iff.mp q
   have f:=Bool.and_eq_true_iff.mp i.1
   have e:=Bool.and_eq_true_iff.mp f.1
   have g:=Bool.and_eq_true_iff.mp e.1
   have j:=Bool.and_eq_true_iff.mp g.1
   have e1:p=C:=beq_iff_eq.mp j.1
   have k:n=nid:=beq_iff_eq.mp j.2
   subst e1 k
   have a:cd.hasDel=false:=by
    have:=g.2
    cases r:cd.hasDel
    .rfl
    .rw[r] at this;cases this
   have hok:=f.2
   have c:=beq_iff_eq.mp i.2
   have b:=e.2
   obtain ⟨nm,bs,mro,ns,d,hd,sn,sub,ab,col,del⟩:=cd
   dsimp only at hm a hok c b
   subst hm a
   obtain ⟨l⟩:=sl
   have s:l=[k0,k1,k2,k3,some (.builtin n),k5]:=m
   subst s
   exact #[bm,ns,nm,d,bs,hd,sn,sub,ab,col,dd,k0,k1,k2,k3,k5,_,X _ _ o,.of_isNs (PySem.W.isNs_of_in X hok),PySem.W.nsMap_none_of_in X hok c,PySem.W.tail_of_in X b]
  .cases q
 .cases q
section
variable {X:Cx} {x:Str} {C:Addr} {np cpos pos:Pos} {e:Expr} {ta:TA}
def yr (a:St->Hp->Prop) (ta:TA):TS:=λ_ Y H=>ta Y H λb H1=>b.length<=1000/\a Y H1
theorem zA (c:ECls X.K X.mg x C) (k:X.calm=true) (j:Gl X x) (hd:(x == ("__debug__":Str))=false) (m:PA X [e] ta) (f:St->Hp->Prop)
  (i:∀ (pins:List (Addr×Obj)) (Y:St) (H:Hp) (s s':Shared) (a:Addr) (g:List Value),Inv X pins Y H s->f Y H->Heap.MadeExcOf s.heap s'.heap a (.ref C) g->s'.os=s.os->s'.gens=s.gens->X.xe (.ref a) s')
  (he:starEach [e] X.env=[(false,eval e X.env)]):PS X (.Raise (some (.Call (.Name x np) [e] [] cpos)) none pos) (yr f ta):=by
 intro pins s Y H D I h
 have u:X.K.In s.heap:=I.kIn
 obtain ⟨bm,N,nm,t,bs,hdct,sn,sub,ab,col,dd,k0,k1,k2,k3,k5,mN,o,r,d,T⟩:=xA I.mod.kin c.ok
 have FB:=PySem.F.excBase_ValueError
 refine wpAny_Raise_call_subT (C:=C) (nm:=nm) (q:=t) (N:=N) (bs:=bs) (bm:=bm) (hdct:=hdct) (sn:=sn) (sub:=sub) (ab:=ab) (col:=col) (dd:=dd) (k0:=k0) (k1:=k1) (k2:=k2) (k3:=k3) (k5:=k5) FB (mN:=mN) (T.hasType FB.hasBase) (I.ok.hd k) (by rw[he];rfl) d (i9 I j c.bound #[rfl,?_] hd)
 have h1:=m cpos pins s Y H _ I h
 rw[he] at h1 ⊢
 refine Calls.evalArgs_plain (wpAny_mono h1 (λus s1 #[g,H1,b,p,l,n]=>#[rfl,?_,b.bk _ _ o,r.keeps b.bk,T.keeps b.bk,λh' a hm=>?_]) λ_ _ y=>y)
 .show us.length<=sizeLine
  rw[<- p.length]
  exact Nat.le_of_lt (wx l)
 .exact i pins Y H1 s1 { s1 with heap:=h' } a us b n hm rfl rfl
end
section
variable {P:Program} {w:World} {outer:List Env} {H H':Hp} {s s1:Shared} {a:Addr} {cls:Value} {da:Option Addr}
theorem Fly.move (F:Fly P w outer H s H' a cls da s1) (q:∀ b∈frs outer,H' b=none) (f1:Heap.FlyingW B outer a cls a0 s1.heap) (m:Cov (frs outer) H' s.heap s1.heap B) (f2:Heap.FlyingW B outer a cls a0 h2) (up:s1.heap.UpToSlots h2) (C:NoCtD h2 a da):Fly P w outer H s H' a cls da { s1 with heap:=h2 }/\Cov (frs outer) H' s.heap h2 B:=by
 have k1:∀ b o,s1.heap.get? b=some o->b ∉ frs outer->(H' b≠none\/∃ o0,s.heap.get? b=some o0)->h2.get? b=some o:=λb o e n g=>f2.1 b o (m b o e n g)
 have k:∀ b∈frs outer,∀ o,s1.heap.get? b=some o->∀ A,o.data≠.fields A:=λb f o e=>by
  obtain ⟨_,o',t,d⟩:=f1.2.2.1.mem f
  rw[e] at t;cases t;exact d
 have h:Cov (frs outer) H' s.heap h2 B:=λb o e n g=>by
  have h1:∃ p,s1.heap.get? b=some p:=by
   rcases g with g | ⟨o0,y⟩
   .exact F.hok.at g
   .exact F.un.there b o0 y (λz=>nomatch z)
  obtain ⟨p,e1⟩:=h1
  have i:=m b p e1 n g
  have x:=f2.1 b p i
  rw[x] at e
  cases e
  exact i
 refine #[#[F.os,F.bare,#[λb o e n f j=>?_,λb o e n f j=>?_,F.un.free,λb o e j=>?_,F.un.tups,F.un.frzs,F.un.tbls],λb u e=>?_,F.free,F.new,#[B,a0,f2,h],C],h]
 .exact k1 b o (F.un.keep b o e n f j) f (.inr #[o,e])
 .obtain ⟨sl,e1⟩:=F.un.slot b o e n f j
  obtain ⟨l,i⟩:=up b _ e1 (k b f _ e1)
  exact #[l,i]
 .obtain ⟨o',e1⟩:=F.un.there b o e j
  by_cases f:b∈frs outer
  .obtain ⟨l,i⟩:=up b o' e1 (k b f o' e1)
   exact #[_,i]
  .exact #[o',k1 b o' e1 f (.inr #[o,e])]
 .refine (F.hok b u e).stay (λc v g z=>?_) (λ_ z=>z) λ_ _ z=>z
  have r:H' c≠none:=by
   rcases g with rfl | g
   .rw[e];intro z;cases z
   .rw[g];intro z;cases z
  exact k1 c v z (λf=>r (q c f)) (.inl r)
end
abbrev Cx.caught0 (X:Cx) (a:Addr):Cx:={ X with A:=X.A.mark (some (.ref a)),calm:=false,xe:=λ_ _=>False }
abbrev Cx.caught (X:Cx) (a:Addr) (ob:Obj) (cls:Value):Cx:={ X with A:=X.A.mark (some (.ref a)),calm:=false,xe:=λ_ _=>False,H₀:=upd X.H₀ a (iN ob a cls) }
section
variable {X:Cx} {pins:List (Addr×Obj)} {Y:St} {H H':Hp} {s s1:Shared} {a:Addr} {cls:Value}
theorem Inv.caught0 (I:Inv X pins Y H s) (a:Addr):Inv (X.caught0 a) pins Y H s :=
 #[#[I.ok.mod,I.ok.kind,I.ok.glob,I.ok.blt,I.ok.above,I.ok.inj,I.ok.has,I.ok.cab,(λh=>by cases h),I.ok.frames,I.ok.stk,I.ok.exf,I.ok.bs,I.ok.bsz,I.ok.noex,I.ok.exfs,I.ok.funs,I.ok.frf],I.os,I.bare,I.base,I.loc,I.cell,I.free,I.freeC,I.pin,I.hok,I.len]
theorem Inv.trackX (I:Inv X pins Y H' s1) (J:Inv X pins Y H s) (new:s.heap.get? a=none) (w:H' a=none) (hex:X.ex=[]) (l:s1.heap.get? a=some ob) (f:ob.cls=cls):Inv X pins Y (upd H' a (iN ob a cls)) s1:=by
 obtain ⟨e1,B,A,d,y,M,E,G,F,j,h⟩:=id I
 have ne:∀ b o,s.heap.get? b=some o->b≠a:=λb o e z=>by rw[z,new] at e;cases e
 have i:∀ b o,X.s₀.heap.get? b=some o->b≠a:=λb o e=>by
  obtain ⟨o',N⟩:=J.base.there b o e (by rw[hex];simp)
  exact ne b o' N
 have g:∀ b u,H' b=some u->upd H' a (iN ob a cls) b=some u:=λb u e=>by rw[aq (aN e w)];exact e
 refine #[e1,B,A,#[d.keep,d.slot,λb o q n C=>?_,d.there,λb ys q=>g _ _ (d.tups b ys q),λb o u q=>g _ _ (d.frzs b o u q),λb ps q=>?_],y,M,?_,λx c q=>?_,λp t=>?_,?_,h]
 .rw[aq (i b o q)];exact d.free b o q n C
 .obtain ⟨more,L⟩:=d.tbls b ps q;exact #[more,g _ _ L]
 .obtain ⟨m,⟨o,_,_,r,_⟩,_⟩:=J.loc
  rw[aq (ne _ o r)];exact E
 .obtain ⟨v,o,r,_⟩:=J.cell x c q
  rw[aq (ne c o r)];exact G x c q
 .obtain ⟨a1,a2,a3⟩:=F p t
  exact #[a1,by rw[aq (ne p.1 p.2 (J.pin p t).1)];exact a2,a3]
 .exact j.track w #[l,#[ob,l,f],#[ob,l],λh1 h2 #[o,K,D] k=>#[o,k o K,D]]
theorem Inv.nameless (I:Inv X pins Y H s) {t':Nat} (B:h'.Ns X.env.locals m') (g:Heap.SameBut X.env.locals s.heap h'):Inv X pins (List.replicate X.N.length none) H { s with heap:=h',toks:=t' }:=by
 obtain ⟨e1,y,w,a,G,F,l,E,D,m,C⟩:=id I
 have f:∀ b o,X.s₀.heap.get? b=some o->b≠X.env.locals:=λb o e=>I.noLoc e
 refine #[e1,y,w,#[λb o e n k h=>?_,λb o e n k h=>?_,a.free,λb o e h=>?_,a.tups,a.frzs,a.tbls],#[m',B,λi x v h1 h2 h3=>?_],λx c e=>?_,l,E,λp A=>?_,λb u e=>?_,by rw[List.length_replicate]]
 .exact (g.2 b (f b o e)).trans (a.keep b o e n k h)
 .obtain ⟨sl,q⟩:=a.slot b o e n k h
  exact #[sl,(g.2 b (f b o e)).trans q]
 .obtain ⟨o',q⟩:=a.there b o e h
  exact #[o',(g.2 b (f b o e)).trans q]
 .rw[List.getElem?_replicate] at h2
  split at h2 <;> cases h2
 .obtain ⟨v,o,q,d⟩:=F x c e
  exact #[v,o,(g.2 c (I.cne x c e)).trans q,d]
 .obtain ⟨q,n,ne,r⟩:=D p A
  exact #[(g.2 p.1 ne).trans q,n,ne,r]
 .refine (m b u e).stay (λc v j z=>?_) (λ_ z=>z) λ_ _ z=>z
  have t:c≠X.env.locals:=λq=>by
   rcases j with rfl | j
   .rw[q,l] at e;cases e
   .rw[q,l] at j;cases j
  exact (g.2 c t).trans z
theorem Inv.namelessC (I:Inv X pins Y H s) {t':Nat} (hf:X.fn n=true) (l:X.env.cells.lookup n=some c) (J:h'.IsCell c none) (h:Heap.SameBut c s.heap h'):Inv X pins (List.replicate X.N.length none) H { s with heap:=h',toks:=t' }:=by
 obtain ⟨e1,F,E,f,C,P,K,B,τ,y,M⟩:=id I
 obtain ⟨v0,o0,L,D⟩:=I.cell n c l
 have A:=I.ok.cab n c hf l
 have g:∀ b o,X.s₀.heap.get? b=some o->b≠c:=λb o e=>Hk (Hq (G8 e) A)
 have w:X.env.locals≠c:=λz=>I.cne n c l z.symm
 refine #[e1,F,E,#[λb o e n t k=>?_,λb o e n t k=>?_,f.free,λb o e k=>?_,f.tups,f.frzs,f.tbls],?_,λx j e=>?_,K,B,λp G=>?_,λb u e=>?_,by rw[List.length_replicate]]
 .exact (h.2 b (g b o e)).trans (f.keep b o e n t k)
 .obtain ⟨sl,q⟩:=f.slot b o e n t k
  exact #[sl,(h.2 b (g b o e)).trans q]
 .obtain ⟨o',q⟩:=f.there b o e k
  exact #[o',(h.2 b (g b o e)).trans q]
 .obtain ⟨m,hm,_⟩:=C
  refine #[m,hm.sameBut h w,λi x v h1 h2 h3=>?_]
  rw[List.getElem?_replicate] at h2
  split at h2 <;> cases h2
 .by_cases z:j=c
  .rw[z];exact #[_,J]
  .obtain ⟨v,o,q,d⟩:=P x j e
   exact #[v,o,(h.2 j z).trans q,d]
 .obtain ⟨q,n,ne,r⟩:=τ p G
  have z:p.1≠c:=λz=>by
   rw[z,L] at q
   cases q
   exact r.2 v0 D
  exact #[(h.2 p.1 z).trans q,n,ne,r]
 .refine (y b u e).stay (λj v a z=>?_) (λ_ z=>z) λ_ _ z=>z
  have hz:j≠c:=λq=>by
   rcases a with rfl | a
   .rw[q,B n c l] at e;cases e
   .rw[q,B n c l] at a;cases a
  exact (h.2 j hz).trans z
theorem nC (e:env.scope.kind=.function) (a:env.kindOf n=some .cell) (b:env.cells.lookup n=some c) (d:s.heap.IsCell c v₀) (h:∀ h',h'.IsCell c none->Heap.SameBut c s.heap h'->Q () { s with heap:=h' }):wpAny M A (do bindName env n .none;unbindBehindTheSuite env n pos) Q E s:=by
 refine GU (wpAny_bindName (wpAny_storeName_cell e a b d λh1 c1 s1=>?_))
 unfold unbindBehindTheSuite
 refine wpAny_onRaise ?_
 unfold unbindName
 refine GU (wpAny_point (GU ?_))
 unfold deleteName
 simp only[a]
 refine GU (wpAny_cellOf b (GU (wpAny_cellGet c1 ?_)))
 simp only[Option.isSome_some,if_true]
 refine wpAny_cellSet c1 λh2 c2 s2=>?_
 exact wpAny_point (h h2 c2 (s1.trans s2))
theorem Inv.caught (I:Inv X pins Y H s) (f:X.s₀.heap.get? a=none) (d:H a=some (iN ob a cls)):Inv (X.caught a ob cls) pins Y H s:=by
 have ne:∀ b o,X.s₀.heap.get? b=some o->b≠a:=λb o e z=>by rw[z,f] at e;cases e
 have fr:∀ b∈X.fs,b≠a:=λb c=>by
  obtain ⟨_,o',g,_⟩:=I.ok.funs.mem c
  exact ne b o' g
 have u:=I.base
 refine #[#[I.ok.mod,I.ok.kind,I.ok.glob,I.ok.blt,I.ok.above,I.ok.inj,I.ok.has,I.ok.cab,(λh=>by cases h),I.ok.frames,I.ok.stk,I.ok.exf,λb o e=>#[(I.ok.bs b o e).1,by show upd X.H₀ a _ b=none;rw[aq (ne b o (I.ok.bs b o e).1)];exact (I.ok.bs b o e).2],I.ok.bsz,I.ok.noex,I.ok.exfs,I.ok.funs,λb c=>by show upd X.H₀ a _ b=none;rw[aq (fr b c)];exact I.ok.frf b c],I.os,I.bare,?_,I.loc,I.cell,I.free,I.freeC,I.pin,I.hok,I.len]
 show Un _ _ (upd X.H₀ a (iN ob a cls)) H _ _
 refine #[λb o e n=>u.keep b o e (by rwa [aq (ne b o e)] at n),λb o e n=>u.slot b o e (by rwa [aq (ne b o e)] at n),λb o e n=>u.free b o e (by rwa [aq (ne b o e)] at n),u.there,λb xs e=>?_,λb o w e=>?_,λb ps e=>?_]
 .by_cases z:b=a
  .subst z;rw[aE] at e;cases e
  .rw[aq z] at e;exact u.tups b xs e
 .by_cases z:b=a
  .subst z;rw[aE] at e;cases e;exact d
  .rw[aq z] at e;exact u.frzs b o w e
 .by_cases z:b=a
  .subst z;rw[aE] at e;cases e
  .rw[aq z] at e;exact u.tbls b ps e
theorem Inv.uncaught (I:Inv (X.caught a ob cls) pins Y H s) (ok:X.Ok) (d:X.s₀.heap.get? a=none) (c:∀ xs,X.H₀ a≠some (.tup xs)) (f:∀ o w,X.H₀ a≠some (.frz o w)) (g:∀ ps,X.H₀ a≠some (.tbl ps)):Inv X pins Y H s:=by
 have ne:∀ b o,X.s₀.heap.get? b=some o->b≠a:=λb o e z=>by rw[z,d] at e;cases e
 have u:Un X.fs X.ex (upd X.H₀ a (iN ob a cls)) H X.s₀.heap s.heap:=I.base
 refine #[ok,I.os,I.bare,?_,I.loc,I.cell,I.free,I.freeC,I.pin,I.hok,I.len]
 exact #[λb o e n=>u.keep b o e (by rwa [aq (ne b o e)]),λb o e n=>u.slot b o e (by rwa [aq (ne b o e)]),λb o e n=>u.free b o e (by rwa [aq (ne b o e)]),u.there,λb xs e=>u.tups b xs ((aq (λz:b=a=>c xs (by rw[<- z];exact e))).trans e),λb o w e=>u.frzs b o w ((aq (λz:b=a=>f o w (by rw[<- z];exact e))).trans e),λb ps e=>u.tbls b ps ((aq (λz:b=a=>g ps (by rw[<- z];exact e))).trans e)]
end
section
variable {X:Cx} {pins:List (Addr×Obj)} {Y:St} {H H':Hp} {s s1:Shared} {a CB:Addr} {cls:Value} {da:Option Addr} {D:Ends} {cx n:Str} {i:Nat} {cp hpos:Pos} {b0:Stmt} {suite:List Stmt}
theorem ut (I:Inv X pins Y H s) (F:Fly X.prog X.w X.stack H s H' a cls da s1) (k:X.stack=X.env::X.outer) (L:X.env.frame=some X.env.locals) (hex:X.ex=[]) (hN:X.N.Nodup)
  (hg:Gl X cx) (hd:(cx == ("__debug__":Str))=false) (hm:X.mg cx=some (.ref CB)) (hx:PySem.W.exmOne X.K cls (.ref CB)=some true) (hi:X.N[i]?=some n) (h:X.env.scope.names.lookup n=some .local\/(X.env.scope.names.lookup n=some .cell/\X.fn n=true))
  (hs:∀ s5 ob,ob.dict=da->Hd (X.caught a ob cls)->Inv (X.caught a ob cls) pins (Y.set i (some (.ref a))) (upd H' a (iN ob a cls)) s5->wpAny (model X.prog X.w) (X.A.mark (some (.ref a))) (execs (b0::suite) X.env) (λf S=>∃ v u Y6 j,f=.ret u/\Inv (X.caught a ob cls) pins Y6 j S/\RelV v u/\D.rt v j) (λ_ _=>False) s5) :
  wpAny (model X.prog X.w) X.A (noteFrame (.ref a) X.env) (λ_ s2=>wpAny (model X.prog X.w) X.A (setFlight (.ref a) none) (λ_ s3=>wpAny (model X.prog X.w) X.A (handleBy (.ref a) X.env [.ExceptHandler (some (.Name cx cp)) (some n) (b0::suite) hpos]) (SP X pins D) X.xe s3) X.xe s2) X.xe s1:=by
 have hA:X.A.frames=some (X.env::X.outer):=by rw[<- k];exact I.ok.frames
 have g:∀ b∈frs X.stack,H' b=none:=(Fly.inv I F).stkFree
 obtain ⟨B,a0,f1,P⟩:=F.fl
 refine xj (outer:=X.outer) hA L (by rw[<- k];exact f1) F.ctx λh2 held τ c2=>?_
 refine Ge held c2 λh3 l E T=>?_
 rw[<- k] at l
 obtain ⟨F3,m⟩:=F.move g f1 P l (τ.trans E) T
 have σ:=(Fly.inv I F3).caught0 a
 have M:PySem.W.Looks (model X.prog X.w) h3 (typeOf (.ref a)) cls:=by
  obtain ⟨ob,Q,p⟩:=l.there
  subst p
  exact (PySem.W.Looks.ld Q).andThen .now
 refine wpAny_handleBy_cons (codeAny_handlers_test (i9 (X:=X.caught0 a) σ hg hm ?_ hd)) (by intro q;cases q)
 refine (PySem.W.exm_one (K:=X.K) σ.kIn M hx).here ?_
 show codeAny _ _ _ _ _
 refine codeAny_handlers_suite_as (pY l T λh4 f4 G c4=>?_)
 obtain ⟨F4,φ⟩:=F3.move g l m f4 G c4
 have I4:=Fly.inv I F4
 obtain ⟨y,d⟩:=I.newAt hex F.new
 obtain ⟨ob,t,R⟩:=f4.there
 have nc:NoC ob/\ob.dict=da:=by
  obtain ⟨o,vs,ρ,q2,q3,q4⟩:=c4
  rw[t] at ρ
  cases ρ
  exact #[#[vs,q2,q3],q4]
 have I5:=(I4.trackX I F.new F.free hex t R).caught (ob:=ob) (cls:=cls) y aE
 have hD:Hd (X.caught a ob cls):=#[a,ob,excO a cls,rfl,aE,nc.1]
 refine ip (X:=X.caught a ob cls) (v:=V.ref a) I5 hN hi (h.imp id And.left) rfl (λs5 J5=>?_) (h.elim .inr λz=>.inl z.2)
 refine wpAny_mono (hs s5 ob nc.2 hD J5) (λf S h6=>?_) λ_ _ z=>z.elim
 obtain ⟨v,u,Y6,j,rfl,x,r,q⟩:=h6
 have un:∀ {Y7:St} {s7:Shared},Inv (X.caught a ob cls) pins Y7 j s7->Inv X pins Y7 j s7:=λJ=>J.uncaught I.ok y (λxs e=>by rw[I.base.tups a xs e] at d;cases d) (λo w e=>by rw[I.base.frzs a o w e] at d;cases d) λps e=>by obtain ⟨_,e⟩:=I.base.tbls a ps e;rw[e] at d;cases d
 rcases h with h | ⟨h,C⟩
 case inr =>
  obtain ⟨c,p⟩:=I.ok.has n (.inl h)
  obtain ⟨v0,z0⟩:=x.cell n c p
  exact nC I.ok.kind h p z0 λh7 c7 sb=>#[v,_,j,(un x).namelessC (t':=S.toks) C p c7 sb,r,q]
 obtain ⟨m6,n6,_⟩:=x.loc
 refine wpAny_nameGoes h n6 ?_ λh7 m7 n7 sb=>?_
 .have:=I.ok.kind
  rw[this];rfl
 .exact #[v,_,j,(x.uncaught I.ok y (λxs e=>by rw[I.base.tups a xs e] at d;cases d) (λo w e=>by rw[I.base.frzs a o w e] at d;cases d) λps e=>by obtain ⟨_,e⟩:=I.base.tbls a ps e;rw[e] at d;cases d).nameless n7 sb,r,q]
end
structure CalleeX (P:Program) (w:World) (K:FG) (mg:Str->Option Value) (base:Heap) (x:Str) (k:Nat) (ps:List Str) (sp:Sp):Prop where
 ex:∃ (f:Addr) (fd:FuncData),FnOk P w K mg base (CXe P w) k f fd ps sp/\mg x=some (.ref f)/\PySem.W.keepIn K (.ref f)=true/\Binds K fd ps []
section
variable {X:Cx} {x:Str} {p pos:Pos} {e:Expr} {es:List Expr} {t:TA} {k:Nat} {ps:List Str} {sp:Sp}
def tFnX (sp:Sp) (a:St->XK) (t:TA):TE:=λY H Q=>t Y H λb H1=>sp b H1 Q (a Y)
theorem FE (c:CalleeX X.prog X.w X.K X.mg X.base x k ps sp) (j:Room k X.A) (m:∀ (pins:List (Addr×Obj)) (Y:St) (H:Hp) (s:Shared) (e:Value) (s':Shared),Inv X pins Y H s->CXe X.prog X.w X.stack H s (EE Y) e s'->X.xe e s') (l:PA X (e::es) t) (v:Gl X x) (g:(x == ("__debug__":Str))=false) (he:starEach (e::es) X.env=(false,eval e X.env)::starEach es X.env) (d:(backTo pos (starEach es X.env)).any (·.1)=false):PE X (.Call (.Name x p) (e::es) [] pos) (tFnX sp EE t):=by
 obtain ⟨f,fd,F,hm,z,o⟩:=c.ex
 intro pins s Y H Q I h
 refine wpAny_Call_Name_kw (i9 I v hm ?_ g)
 refine PySem.W.callWith_K (h₀:=X.base) I.ok.mod.kin z (thn (l pos pins s Y H _ I h) λus s1 #[n,H1,b,r,q]=>#[b.kIn,?_]) he d
 have y:us.length=ps.length:=by rw[<- r.length];exact F.len _ _ _ _ q
 have i:=o s1 us b.kIn (by rw[List.append_nil];exact y)
 rw[List.append_nil] at i
 refine wpAny_call (codeAny_mono (F.run X.A X.stack s1 H1 #[us,[]] us n Q (EE Y) j b.env0 i r q) λr s' a=>?_)
 cases r with
 | error e=>exact m pins Y H1 s1 e s' b a
 | ok fl =>
  cases fl with
  | ret u=>exact b.after a
  | next=>exact False.elim a
  | brk=>exact False.elim a
  | cont=>exact False.elim a
end
theorem Def.calleeX {K:FG} {st:Stmt} {k:Nat} (D:Def K mg x st) (b:∀ (kV doc pm:Value) (an:Option Addr) (a ct:Value) (us:List Value),us.length=ps.length->bindArgs (PySem.W.fnOf x x (aK st) (aB st) (ad st) .none kV doc pm an a ct) #[us,[]]=pure (ps.zip us)) (h:∀ f fd,Fun K x x st f fd->FnOk P w K mg base (CXe P w) k f fd ps sp):CalleeX P w K mg base x k ps sp:=by
 obtain ⟨f,fd,d⟩:=D
 exact #[f,fd,h f fd d.fn,d.mg,d.fn.kp,d.fn.binds b]
theorem Fun.okX {K:FG} {st:Stmt} {k:Nat} (F:Fun K x qual st f fd) (S:FnScope N ps (ad st)) (len:∀ c H Q E,sp c H Q E->c.length=ps.length) (b:∀ (a:Value) (A:Around) (outer:List Env) (s:Shared) (H:Hp) (c:List V) (Q:VK) (E:XK),Room k (A.deeper (envOfC qual (ad st) s.heap.objs.size f a))->sp c H Q E ->
   ∃ t,PSs (dN (CXe P w) P w K mg base N qual (ad st) f a A outer s H E) (aB st) t/\t { nx:=λ_ H'=>Q .non H',rt:=Q } (gx N c) H):FnOk P w K mg base (CXe P w) (k+1) f fd ps sp:=by
 obtain ⟨l,j,kV,doc,pm,an,a,ct,h,rfl,i,d⟩:=F.ex
 exact DJ i d S len λA outer s H c Q E g e=>b a A outer s H c Q E g e
structure RoomN (k:Nat) (A:Around):Prop where
 dp:A.depth+3 * k+5 < recursionLimit
 un:A.units+16 * k+200 < cLine
 gd:A.guards=some []
theorem Room.mark {k:Nat} (r:Room k A) (v:Option Value):RoomN k (A.mark v):=#[r.dp,r.un,r.gd]
theorem RoomN.mono {j k:Nat} (r:RoomN k A) (h:j<=k):RoomN j A:=#[by have:=r.dp;omega,by have:=r.un;omega,r.gd]
theorem RoomN.deeper {k:Nat} (r:RoomN (k+1) A) (env:Env):RoomN k (A.deeper env) :=
 #[by have:=r.dp;show A.depth+1+3 * k+5 < _;omega,by have:=r.un;show A.units+3+16 * k+200 < _;omega,r.gd]
def HdA (A:Around) (H:Hp):Prop:=∃ a ob u,A.handled=some (.ref a)/\H a=some (.frz ob u)/\NoC ob
structure FnOkN (P:Program) (w:World) (K:FG) (mg:Str->Option Value) (base:Heap) (k:Nat) (f:Addr) (fd:FuncData) (ps:List Str) (sp:Sp):Prop where
 len:∀ vs H Q E,sp vs H Q E->vs.length=ps.length
 run:∀ (A:Around) (outer:List Env) (s:Shared) (H:Hp) (args:Args) (us:List Value) (vs:List V) (Q:VK),RoomN k A->HdA A H->Env0 P w K mg base A outer s H->BindsTo s fd args (ps.zip us)->Vals vs us->sp vs H Q E0 ->
  codeAny (model P w) A (.call (.ref f) args) (CR CX0 outer P w H s Q E0) s
abbrev Cx.loud (X:Cx):Cx:={ X with calm:=false }
theorem uk {K:FG} (S:FnScope N ps scope) (a:Env0 P w K mg base A outer s H) (b:vs.length=ps.length) (r:Vals vs us) (x:InCallC s s.heap.objs.size (bindL (envOfC qual scope s.heap.objs.size f cd).kindOf (ps.zip us) λ_=>none) (cellsFrom (s.heap.objs.size+1) scope.names []) (bindC (envOfC qual scope s.heap.objs.size f cd).kindOf (ps.zip us) λ_=>none) s1) :
  Inv ((dN CX0 P w K mg base N qual scope f cd A outer s H E0).loud.wish λ_ _=>False) [] (gx N vs) H s1:=by
 have e1:Env0 P w K mg base { A with handled:=none } outer s H:=#[a.frames,a.mod,a.bs,a.bsz,a.funs,a.frf,a.hok,a.bare]
 have I:=oN (CX:=CX0) (E:=E0) (qual:=qual) (f:=f) (cd:=cd) S rfl e1 b r x
 exact #[#[I.ok.mod,I.ok.kind,I.ok.glob,I.ok.blt,I.ok.above,I.ok.inj,I.ok.has,I.ok.cab,(λh=>by cases h),I.ok.frames,I.ok.stk,I.ok.exf,I.ok.bs,I.ok.bsz,I.ok.noex,I.ok.exfs,I.ok.funs,I.ok.frf],I.os,I.bare,I.base,I.loc,I.cell,I.free,I.freeC,I.pin,I.hok,I.len]
theorem Fun.okN {K:FG} {st:Stmt} {k:Nat} (F:Fun K x qual st f fd) (S:FnScope N ps (ad st)) (len:∀ c H Q E,sp c H Q E->c.length=ps.length) (d:∀ (a:Value) (A:Around) (outer:List Env) (s:Shared) (H:Hp) (c:List V) (Q:VK),RoomN k (A.deeper (envOfC qual (ad st) s.heap.objs.size f a))->Hd ((dN CX0 P w K mg base N qual (ad st) f a A outer s H E0).loud.wish λ_ _=>False)->sp c H Q E0 ->
   ∃ t,PSs ((dN CX0 P w K mg base N qual (ad st) f a A outer s H E0).loud.wish λ_ _=>False) (aB st) t/\t { nx:=λ_ H'=>Q .non H',rt:=Q } (gx N c) H):FnOkN P w K mg base (k+1) f fd ps sp:=by
 obtain ⟨T,φ,kV,doc,pm,an,a,ct,R,rfl,L,p⟩:=F.ex
 refine #[len,λA outer s H args us c Q z l j C r i=>?_]
 have τ:=len _ _ _ _ i
 have B:K.In s.heap:=j.mod.kin.keeps λb o e=>(j.bs b o e).1
 have lim:s.heap.NoLimit:=j.mod.nolimit.keeps λb o e=>(j.bs b o e).1
 have g:∀ y∈ps.zip us,(ad st).names.lookup y.1=some .local\/((ad st).names.lookup y.1=some .cell/\((cellsFrom (s.heap.objs.size+1) (ad st).names []).lookup y.1).isSome=true):=λ#[n,v] G=>by
  rcases S.par n (List.of_mem_zip G).1 with q | q
  .exact .inl q
  .exact .inr #[q,PySem.W.cellsFrom_some _ _ _ (.inl q)]
 refine codeAny_call_function (by have:=z.dp;omega) (B _ _ L) rfl S.co S.gen rfl (PySem.W.codeRec_of B p) (C _ _ _ _ ?_)
 refine wpAny_newFunctionEnv_cells S.kind g λenv he s1 x=>?_
 subst he
 refine #[lim.keeps x.toInCall.keep,codeAny_func ?_]
 obtain ⟨t,D,M⟩:=d a A outer s H c Q (z.deeper _) l i
 have I:=uk (qual:=qual) (f:=f) (cd:=a) S j τ r x
 refine wpAny_mono (D [] s1 (gx N c) H _ I M) (λfl s' h=>?_) λe s' h=>False.elim h
 have fin:∀ {Y':St} {H':Hp} {v:V} {u:Value},Inv ((dN CX0 P w K mg base N qual (ad st) f a A outer s H E0).loud.wish λ_ _=>False) [] Y' H' s'->RelV v u->Q v H'->CE outer P w H s Q u s' :=
  λ{Y' H' v u} J m q=>#[v,H',J.os,J.bare,J.base,J.hok,m,q]
 cases fl with
 | ret u =>
  obtain ⟨v,Y',H',J,m,q⟩:=h
  exact fin J m q
 | next =>
  obtain ⟨Y',H',J,q⟩:=h
  exact fin (v:=V.non) (u:=Value.none) J rfl q
 | brk =>
  obtain ⟨_,_,_,q⟩:=h
  exact False.elim q
 | cont =>
  obtain ⟨_,_,_,q⟩:=h
  exact False.elim q
structure CalleeN (P:Program) (w:World) (K:FG) (mg:Str->Option Value) (base:Heap) (x:Str) (k:Nat) (ps:List Str) (sp:Sp):Prop where
 ex:∃ (f:Addr) (fd:FuncData),FnOkN P w K mg base k f fd ps sp/\mg x=some (.ref f)/\PySem.W.keepIn K (.ref f)=true/\Binds K fd ps []
theorem Def.calleeN {K:FG} {st:Stmt} {k:Nat} (D:Def K mg x st) (b:∀ (kV doc pm:Value) (an:Option Addr) (a ct:Value) (us:List Value),us.length=ps.length->bindArgs (PySem.W.fnOf x x (aK st) (aB st) (ad st) .none kV doc pm an a ct) #[us,[]]=pure (ps.zip us)) (h:∀ f fd,Fun K x x st f fd->FnOkN P w K mg base k f fd ps sp):CalleeN P w K mg base x k ps sp:=by
 obtain ⟨f,fd,d⟩:=D
 exact #[f,fd,h f fd d.fn,d.mg,d.fn.kp,d.fn.binds b]
section
variable {X:Cx} {x:Str} {p pos:Pos} {e:Expr} {es:List Expr} {t:TA} {k:Nat} {ps:List Str} {sp:Sp}
theorem FF (c:CalleeN X.prog X.w X.K X.mg X.base x k ps sp) (y:RoomN k X.A) (n:Hd X) (z:PA X (e::es) t) (v:Gl X x) (i:(x == ("__debug__":Str))=false)
  (he:starEach (e::es) X.env=(false,eval e X.env)::starEach es X.env) (g:(backTo pos (starEach es X.env)).any (·.1)=false):PE X (.Call (.Name x p) (e::es) [] pos) (tFn sp t):=by
 obtain ⟨f,fd,F,hm,E,o⟩:=c.ex
 intro pins s Y H Q I h
 refine wpAny_Call_Name_kw (i9 I v hm ?_ i)
 refine PySem.W.callWith_K (h₀:=X.base) I.ok.mod.kin E (thn (z pos pins s Y H _ I h) λus s1 #[B,H1,d,r,q]=>#[d.kIn,?_]) he g
 have C:us.length=ps.length:=by rw[<- r.length];exact F.len _ _ _ _ q
 have j:=o s1 us d.kIn (by rw[List.append_nil];exact C)
 rw[List.append_nil] at j
 refine wpAny_call (codeAny_mono (F.run X.A X.stack s1 H1 #[us,[]] us B Q y (let #[a,ob,u,m,D,l]:=n;#[a,ob,u,m,d.base.frzs a ob u D,l]) d.env0 j r q) λr s' b=>?_)
 cases r with
 | error e=>exact False.elim b
 | ok fl =>
  cases fl with
  | ret u=>exact d.after b
  | next=>exact False.elim b
  | brk=>exact False.elim b
  | cont=>exact False.elim b
end
end L2
end
section
namespace L2
open PySem PySem.W PySem.Spec PySem.Calls PyProof.Rows Builtin.Getset_descriptor
structure ExcAt (h:Heap) (x D:Addr):Prop where
 ex:∃ ox,h.get? x=some ox/\ox.cls=.ref D
section
variable {prog:Program} {w:World} {A:Around} {E:Value->Shared->Prop} {s:Shared} {K:FG} {x D:Addr}
theorem ExcAt.ty (p:ExcAt h x D):Looks M h (typeOf (.ref x)) (.ref D):=by
 obtain ⟨b,e1,a⟩:=p.ex
 exact a ▸ (Looks.ld e1).andThen .now
theorem AJ (k:ExcK K D) (X:K.In h):Looks M h (Builtin.ObjectAttr.find (.ref x) (.ref D) "__class__") (.bind (.builtin "getset_descriptor.__get__") (.builtin "object.__class__")):=by
 have b:=looks_findIn (M:=M) X k.ca
 have c:Looks M h (Builtin.ObjectAttr.getOf (some (.builtin "object.__class__"))) (some (.builtin "getset_descriptor.__get__")):=looks_specialIn X k.sp
 have a:Looks M h (Builtin.ObjectAttr.dataDescriptor? (some (.builtin "object.__class__")) (some (.builtin "getset_descriptor.__get__"))) (some (.builtin "getset_descriptor.__get__",.builtin "object.__class__")):=(looks_takesIn X k.tk).andThen .now
 exact b.andThen (c.andThen (a.andThen (Looks.tag .now)))
theorem C8 (k:ExcK K D) (X:K.In s.heap) (p:ExcAt s.heap x D) (h:R (.ok (.ret (.ref D))) s):codeAny (model prog w) A (.call (.builtin "getset_descriptor.__get__") #[[.builtin "object.__class__",.ref x,tp],[]]) R s:=by
 obtain ⟨h0,d,a,t0,o0⟩:=s
 have b:=p.ty (M:=model prog w)
 have c:=looks_mroIn (M:=model prog w) X k.ob
 refine codeAny_call_builtin KF.slot_gs.plain KF.entry_gs (KF.slot_gs.check _ _ _ _ _ _ _ _ KF.type_class (KF.args_gs _ _ _) ?_)
 unfold Builtin.«getset_descriptor.__get__» descrGet
 rw[dga_obj]
 refine GU (GV ?_)
 unfold descrGetter descrCheckInstance descrNameAndClass isInstance
 simp only[KF.owner_class]
 repeat lk
 refine #[Code.quiet_builtin _ (by decide +kernel),codeAny_builtin KF.entry_class ?_]
 unfold Builtin.«object.__class__» shownTypeOf
 repeat lk
 exact h
theorem xx (k:ExcK K D) (X:K.In s.heap) (p:ExcAt s.heap x D) (h:Q (.done (.ret (.ref D))) s) :
  wpAny (model prog w) A (Builtin.«object.__getattribute__» #[[.ref x,.str "__class__" tk],[]]) Q E s:=by
 obtain ⟨h0,d,a,t0,o0⟩:=s
 have b:=p.ty (M:=model prog w)
 have c:=AJ (M:=model prog w) (x:=x) k X
 unfold Builtin.«object.__getattribute__» slotArgs
 repeat lk
 show wpAny _ _ (run (.call (.builtin "getset_descriptor.__get__") #[[.builtin "object.__class__",.ref x,.ref D],[]])) _ _ _
 refine wpAny_run (C8 k X p ?_)
 exact GV (GV h)
theorem xz (k:ExcK K D) (X:K.In s.heap) (p:ExcAt s.heap x D) (h:Q () s):wpAny (model prog w) A (checkBuiltinCall "BaseException.__getattribute__" #[[.ref x,v],[]]) Q E s:=by
 obtain ⟨h0,e,a,t0,o0⟩:=s
 have b:=p.ty (M:=model prog w)
 have c:=looks_mroIn (M:=model prog w) X k.be
 have b1:builtinKind "BaseException.__getattribute__"=some .slot:=by decide +kernel
 have b2:splitId "BaseException.__getattribute__"=some ("BaseException","__getattribute__"):=by decide +kernel
 have d:=F.args_bexc_ga (.ref x) v
 simp only[checkBuiltinCall,b1,b2]
 refine GU ?_
 unfold isInstance
 repeat lk
 exact h
theorem xy (k:ExcK K D) (X:K.In s.heap) (p:ExcAt s.heap x D) (h:Q (some (.ref D)) { s with toks:=s.toks+1 }):wpAny (model prog w) A (getAttr? (.ref x) "__class__") Q E s:=by
 obtain ⟨h0,f,e,t0,o0⟩:=s
 have a:=p.ty (M:=model prog w)
 have b:=looks_findIn (M:=model prog w) X k.ga
 have c:=looks_findIn (M:=model prog w) X k.gt
 have d:=F.excAttr_ValueError.ga.bind (.ref x)
 have ne:(onTheHeap (Value.ref D) && Value.builtin "BaseException.__getattribute__" == Value.builtin "object.__getattribute__")=false:=by
  rw[show (Value.builtin "BaseException.__getattribute__" == Value.builtin "object.__getattribute__")=false by decide +kernel];rfl
 unfold getAttr? getAttrBy? getAttrBy
 refine GU (wpAny_mkText (GU (wpAny_attempt (GW (GU (a.at (GU (b.at ?_))))))))
 simp only[ne,Hz,if_false]
 unfold getAttrByItsOwn hookBefore
 rw[show onTheHeap (Value.ref D)=true from rfl,if_pos rfl]
 refine GU (c.at (GU (wpAny_attempt (GW ?_))))
 unfold callGetattribute boundAndCalled
 rw[if_neg (by decide)]
 refine GU (wpAny_of_eq d ?_)
 refine wpAny_call (codeAny_call_builtin F.excAttr_ValueError.ga.plain F.entry_bexc_ga (xz k X p (xx k X p ?_)))
 exact handed_on rfl (GV h)
theorem ExcK.isT (k:ExcK K D) (X:K.In h):∃ o cd,h.get? D=some o/\o.data=.cls cd:=by
 obtain ⟨cd,a⟩:=Option.isSome_iff_exists.mp k.cl
 unfold clsIn at a
 split at a
 .rename_i b
  exact #[_,_,X _ _ b,rfl]
 .cases a
theorem Ao (k:ExcK K D):KitX K (.ref x) (.ref D) (λh=>ExcAt h x D) where
 ty:=λ_ _ _ p=>p.ty
 it:=λ_ _ X _=>by
  obtain ⟨o,cd,e1,a⟩:=k.isT X
  intro l r m s1 k1 b
  unfold isType loadHead
  obtain ⟨q,j,g,i⟩:=o
  dsimp only at a
  subst a
  exact GU (wpAny_loadPart (k1 _ _ e1) (GV b))
 ne:=λh d dd its n sl X c=>by
  obtain ⟨o,cd,e1,a⟩:=k.isT X
  cases f:(Value.ref D == Value.ref d) with
  | false=>rfl
  | true =>
   have e:D=d:=Value.ref.inj (beq_iff_eq.mp f)
   rw[e,c] at e1
   cases e1
   cases a
 ca:=λX p b=>xy k X p b
end
end L2
end
section
namespace L2
open PySem PySem.W PySem.Spec PySem.Calls PyProof.Rows
abbrev excA (C t:Addr) (da:Option Addr):Obj:={ cls:=.ref C,dict:=da,data:=.fields (List.toArray [.ref t,.none,.none,.none,.bool false,.none]) }
end L2
end
section
namespace L2
open PySem PySem.W PySem.Spec PySem.Calls PyProof.Rows Builtin.Getset_descriptor
end L2
end
section
namespace L2
open PySem PySem.Spec PyProof.Rows
section
variable {X:Cx}
theorem oU:∀ {bs:List Bool} {its:List Value},Vals (bs.map V.bl) its->its.countP (eqU (.bl k))=bs.count k
 | [],its,r=>by cases r;rfl
 | b::bs,its,r=>by
  cases r with
  | cons h t =>
   rw[List.countP_cons,List.count_cons,oU t,qe h rfl]
   rfl
theorem wX:MtR X "list.count" (λx j H Q=>∃ (a:Addr) (bs:List Bool) (k:Bool),x=.ref a/\j=[.bl k]/\SqL X.K H a (bs.map V.bl)/\Q (.int (bs.count k:Nat)) H):=by
 intro pins s Y H x j v us Q I l t h
 obtain ⟨a,bs,k,rfl,rfl,p,q⟩:=h
 cases l
 obtain ⟨u,rfl,m⟩:=d6 t
 obtain ⟨its,r,⟨o,n,e,f,hd,g⟩,hz⟩:=I.list p
 have i:s.heap.get? a=some { cls:=.type "list",dict:=none,data:=.seq its.toArray n,slots:=o.slots }:=by
  rw[e]
  obtain ⟨c,d,dt,sl⟩:=o
  dsimp only at f hd g
  subst f hd g
  rfl
 refine call_meets F.slot_list_count #[_,i,rfl] F.entry_list_count (F.args_list_count_2 _ _) (SeqAt.list_countAt a its.toArray n none o.slots u (eqU (.bl k))) #[i,λz b=>mD m rfl r (by simp[ic]) z (by simpa using b),?_]
 rw[show its.toArray.toList=its from rfl,oU r]
 exact #[.int _,H,I.tok _,#[_,rfl],q]
theorem uC:CallR X (.builtin "repr") (λxs H Q=>∃ t:Str,xs=[.str t]/\(reprText t).length<=sizeLine/\Q (.str (reprText t)) H):=by
 intro pins s Y H xs us Q I r h
 obtain ⟨t,rfl,a,q⟩:=h
 obtain ⟨u,rfl,b⟩:=d6 r
 obtain ⟨tk,rfl⟩:=b
 exact PySem.P.repr_of_str #[.str _,H,I.tok _,#[_,rfl],q] a
end
end L2
end
section
namespace L3
open PySem L2
theorem nsE {α:Type} {p:α} {P:Prop} (e:(none:Option α)=some p):P:=nomatch e
inductive D where
 | non | bl (b:Bool) | int (i:Int) | str (x:Str)
 | tup (xs:List D) | lst (xs:List D) | fls (xs:List D) | dk (kvs:List (Key×D)) | dt (kvs:List (List Key×D))
 | exc (c:String) (fs:List (String×D))
def jV:D->Bool
 | .lst _=>true
 | .dk _=>true
 | .dt _=>true
 | _=>false
def FzL (K:FG) (H:Hp) (a:Addr) (b:List V):Prop:=(∃ o,H a=some (.frz o (.lst b)))\/∃ (o:Obj) (its:Array Value) (n:Nat),K.lookup a=some o/\o.cls=.type "list"/\o.dict=none/\o.data=.seq its n/\its.size<=sizeLine/\Vals b its.toList
theorem FzL.sq (h:FzL K H a vs):SqL K H a vs:=h.elim (λ#[o,e]=>.inl (.inr #[o,e])) .inr
inductive Reps (R:D->V->List Addr->Prop):List D->List V->List Addr->Prop where
 | nil:Reps R [] [] []
 | cons {d v L ds vs L'}:R d v L->Reps R ds vs L'->Reps R (d::ds) (v::vs) (L++L')
inductive Rep (K:FG) (H:Hp):D->V->List Addr->Prop where
 | non:Rep K H .non .non []
 | bl (b:Bool):Rep K H (.bl b) (.bl b) []
 | int (i:Int):Rep K H (.int i) (.int i) []
 | str (x:Str):Rep K H (.str x) (.str x) []
 | tup {xs a vs L}:H a=some (.tup vs)->Reps (Rep K H) xs vs L->Rep K H (.tup xs) (.ref a) L
 | lst {xs a vs L}:H a=some (.lst vs)->Reps (Rep K H) xs vs L->Rep K H (.lst xs) (.ref a) (a::L)
 | lstF {xs a vs L}:FzL K H a vs->Reps (Rep K H) xs vs L->Rep K H (.fls xs) (.ref a) L
 | dK {kvs a ps L}:H a=some (.dK ps)->kvs.map (·.1)=ps.map (·.1)->Reps (Rep K H) (kvs.map (·.2)) (ps.map (·.2)) L->Rep K H (.dk kvs) (.ref a) (a::L)
 | dT {kvs a ps L}:H a=some (.dT ps)->kvs.map (·.1)=ps.map (·.1)->Reps (Rep K H) (kvs.map (·.2)) (ps.map (·.2)) L->Rep K H (.dt kvs) (.ref a) (a::L)
 | exc {c a D ob}:XName K c D->H a=some (iN ob a (.ref D))->Rep K H (.exc c []) (.ref a) []
 | excV {c a D ob n x v d od u}:XName K c D->H a=some (iN ob a (.ref D))->ob.dict=some d->H d=some (iN od d od.cls)->PySem.W.lookIn (Str.ofString n) od=some (some u)->RelV v u->PySem.W.notCls ob=true->Rep K H x v []->Rep K H (.exc c [(n,x)]) (.ref a) []
def PayX (K:FG) (H:Hp) (da:Option Addr):List (String×D)->Prop
 | []=>True
 | [(n,x)]=>∃ v d a u,da=some d/\H d=some (iN a d a.cls)/\PySem.W.lookIn (Str.ofString n) a=some (some u)/\RelV v u/\Rep K H x v []
 | _=>False
def RepV (K:FG) (H:Hp) (d:D) (v:V) (L:List Addr):Prop:=match d with
 | .non=>v=.non/\L=[]
 | .bl b=>v=.bl b/\L=[]
 | .int i=>v=.int i/\L=[]
 | .str x=>v=.str x/\L=[]
 | .tup xs=>∃ a e,v=.ref a/\H a=some (.tup e)/\Reps (Rep K H) xs e L
 | .lst xs=>∃ a e L',v=.ref a/\L=a::L'/\H a=some (.lst e)/\Reps (Rep K H) xs e L'
 | .fls xs=>∃ a e,v=.ref a/\FzL K H a e/\Reps (Rep K H) xs e L
 | .dk kvs=>∃ a ps L',v=.ref a/\L=a::L'/\H a=some (.dK ps)/\kvs.map (·.1)=ps.map (·.1)/\Reps (Rep K H) (kvs.map (·.2)) (ps.map (·.2)) L'
 | .dt kvs=>∃ a ps L',v=.ref a/\L=a::L'/\H a=some (.dT ps)/\kvs.map (·.1)=ps.map (·.1)/\Reps (Rep K H) (kvs.map (·.2)) (ps.map (·.2)) L'
 | .exc c fs=>L=[]/\∃ a D ob,v=.ref a/\XName K c D/\H a=some (iN ob a (.ref D))/\PayX K H ob.dict fs/\(fs≠[]->PySem.W.notCls ob=true)
theorem Rep.view (r:Rep K H d v L):RepV K H d v L:=by
 cases r with
 | non=>exact #[rfl,rfl]
 | bl b=>exact #[rfl,rfl]
 | int i=>exact #[rfl,rfl]
 | str x=>exact #[rfl,rfl]
 | tup h r=>exact #[_,_,rfl,h,r]
 | lst h r=>exact #[_,_,_,rfl,rfl,h,r]
 | lstF h r=>exact #[_,_,rfl,h,r]
 | dK h k r=>exact #[_,_,_,rfl,rfl,h,k,r]
 | dT h k r=>exact #[_,_,_,rfl,rfl,h,k,r]
 | exc n h=>exact #[rfl,_,_,_,rfl,n,h,trivial,λz=>absurd rfl z]
 | excV n h1 h2 h3 h4 h5 h7 h6=>exact #[rfl,_,_,_,rfl,n,h1,#[_,_,_,_,h2,h3,h4,h5,h6],λ_=>h7]
def MutAt (H:Hp) (b:Addr):Prop:=(∃ xs,H b=some (.lst xs))\/(∃ ps,H b=some (.dK ps))\/∃ ps,H b=some (.dT ps)
theorem MutAt.ex (m:MutAt H b):∃ o,H b=some o:=by
 rcases m with ⟨_,h⟩ | ⟨_,h⟩ | ⟨_,h⟩ <;> exact #[_,h]
theorem MutAt.notup (m:MutAt H b) (h:H b=some (.tup vs)):False:=by
 rcases m with ⟨_,e⟩ | ⟨_,e⟩ | ⟨_,e⟩ <;> rw[e] at h <;> cases h
theorem MutAt.nofrz (m:MutAt H b) (h:H b=some (.frz o u)):False:=by
 rcases m with ⟨_,e⟩ | ⟨_,e⟩ | ⟨_,e⟩ <;> rw[e] at h <;> cases h
theorem FzL.keep {M:Addr->Prop} (h:FzL K H a vs) (k:∀ b o,H b=some o->¬ M b->H' b=some o) (hm:∀ b,M b->MutAt H b):FzL K H' a vs:=h.elim (λ#[o,e]=>.inl #[o,k a _ e λz=>(hm a z).nofrz e]) .inr
section
variable {K:FG} {H H':Hp} {d:D} {v:V} {L:List Addr}
theorem Rep.inH (r:Rep K H d v L):∀ b∈L,MutAt H b:=by
 refine Rep.rec (motive_1:=λ_ _ L _=>∀ b∈L,MutAt H b) (motive_2:=λ_ _ L _=>∀ b∈L,MutAt H b) ?_ ?_ ?_ ?_ ?_ ?_ ?_ ?_ ?_ ?_ ?_ ?_ ?_ r
 .intro b a;cases a
 .intro _ b a;cases a
 .intro _ b a;cases a
 .intro _ b a;cases a
 .intro _ _ _ _ _ _ c;exact c
 .intro _ _ _ _ h _ c b a
  rcases G6.mp a with e | a
  .rw[e];exact .inl #[_,h]
  .exact c b a
 .intro _ _ _ _ _ _ c;exact c
 .intro _ _ _ _ h _ _ c b a
  rcases G6.mp a with e | a
  .rw[e];exact .inr (.inl #[_,h])
  .exact c b a
 .intro _ _ _ _ h _ _ c b a
  rcases G6.mp a with e | a
  .rw[e];exact .inr (.inr #[_,h])
  .exact c b a
 .intro _ _ _ _ _ _ b a;cases a
 .intros;rename_i a;cases a
 .intro b a;cases a
 .intro _ _ _ _ _ _ _ _ f g b a
  rcases G9.mp a with h | h
  .exact f b h
  .exact g b h
theorem Reps.inH (r:Reps (Rep K H) ds vs L):∀ b∈L,MutAt H b:=by
 induction r with
 | nil=>intro b a;cases a
 | cons r _ ih =>
  intro b a
  rcases G9.mp a with h | h
  .exact r.inH b h
  .exact ih b h
theorem Rep.keep {M:Addr->Prop} (k:∀ b o,H b=some o->¬ M b->H' b=some o) (hm:∀ b,M b->MutAt H b) (r:Rep K H d v L):(∀ b∈L,¬ M b)->Rep K H' d v L:=by
 refine Rep.rec (motive_1:=λd v L _=>(∀ b∈L,¬ M b)->Rep K H' d v L) (motive_2:=λds j L _=>(∀ b∈L,¬ M b)->Reps (Rep K H') ds j L) ?_ ?_ ?_ ?_ ?_ ?_ ?_ ?_ ?_ ?_ ?_ ?_ ?_ r
 .intro _;exact .non
 .intro b _;exact .bl b
 .intro b _;exact .int b
 .intro b _;exact .str b
 .intro xs a j L h _ g f
  exact .tup (k a _ h λz=>(hm a z).notup h) (g f)
 .intro xs a j L h _ g f
  exact .lst (k a _ h (f a GX)) (g λb i=>f b (GY _ i))
 .intro xs a j L h _ g f
  exact .lstF (h.keep k hm) (g f)
 .intro kvs a ps L h e _ g f
  exact .dK (k a _ h (f a GX)) e (g λb i=>f b (GY _ i))
 .intro kvs a ps L h e _ g f
  exact .dT (k a _ h (f a GX)) e (g λb i=>f b (GY _ i))
 .intro c a D ob n h _
  exact .exc n (k a _ h λz=>(hm a z).nofrz h)
 .intro c a D ob n x v d A u e1 m q l p y s _ g _
  exact .excV e1 (k a _ m λz=>(hm a z).nofrz m) q (k d _ l λz=>(hm d z).nofrz l) p y s (g λ_ h=>nomatch h)
 .intro _;exact .nil
 .intro d v L ds j L' _ _ t w f
  exact .cons (t λb i=>f b (G4 _ i)) (w λb i=>f b (G5 _ i))
theorem Rep.excP {c:String} {fs:List (String×D)} {a C:Addr} {ob:Obj} (n:XName K c C) (h:H a=some (iN ob a (.ref C))) (p:PayX K H ob.dict fs) (b:PySem.W.notCls ob=true):Rep K H (.exc c fs) (.ref a) [] :=
 match fs,p with
 | [],_=>.exc n h
 | [(_,_)],#[_,_,_,_,e1,e2,e3,e4,e5]=>.excV n h e1 e2 e3 e4 b e5
theorem Rep.same (r:Rep K H d v L) (s:Same H H'):Rep K H' d v L:=r.keep (M:=λ_=>False) (λb o h _=>s b o h) (λ_ z=>z.elim) λ_ _ z=>z
theorem Reps.keep {M:Addr->Prop} (k:∀ b o,H b=some o->¬ M b->H' b=some o) (hm:∀ b,M b->MutAt H b) (r:Reps (Rep K H) ds vs L):(∀ b∈L,¬ M b)->Reps (Rep K H') ds vs L:=by
 induction r with
 | nil=>intro _;exact .nil
 | cons r _ ih=>intro c;exact .cons (r.keep k hm λb a=>c b (G4 _ a)) (ih λb a=>c b (G5 _ a))
theorem PayX.same {da:Option Addr} {fs:List (String×D)} (p:PayX K H da fs) (s:Same H H'):PayX K H' da fs :=
 match fs,p with
 | [],_=>trivial
 | [(_,_)],#[_,_,_,_,e1,e2,e3,e4,e5]=>#[_,_,_,_,e1,s _ _ e2,e3,e4,e5.same s]
theorem Reps.same (r:Reps (Rep K H) ds vs L) (s:Same H H'):Reps (Rep K H') ds vs L:=r.keep (M:=λ_=>False) (λb o h _=>s b o h) (λ_ z=>z.elim) λ_ _ z=>z
end
inductive Fl where
 | u | l | z
 deriving DecidableEq
structure It3 where
 d:D
 v:V
 L:List Addr
 f:Fl
abbrev Sto:=List (Option (D×Fl))
structure Gm where
 H0:Hp
 bw:Addr->Prop
 pr:Nat->Bool
 Y0:St
 orig:Hp
 src:Addr->Prop
 lv:Nat->Option V
def OwnOk (G:Gm) (x:It3):Prop:=jV x.d=true/\∃ a L',x.v=.ref a/\x.L=a::L'/\a ∉ L'/\(x.f=.u->G.H0 a=none\/G.bw a)
structure ItOk (K:FG) (G:Gm) (H:Hp) (x:It3):Prop where
 rep:Rep K H x.d x.v x.L
 own:x.f≠.z->OwnOk G x
 src:∀ c∈x.L,G.H0 c=none\/G.src c
structure Fx (G:Gm) (H:Hp) (T:List It3) (g:Nat->Option It3):Prop where
 frT:∀ x∈T,x.f≠.z->∀ a,x.v=.ref a->G.orig a=none
 frS:∀ i x,g i=some x->G.pr i=false->x.f≠.z->∀ a,x.v=.ref a->G.orig a=none
 bin:∀ b,G.bw b->∃ o,H b=some o
 ob:∀ b o,G.orig b=some o->∃ o',H b=some o'
 lvS:∀ i x,g i=some x->x.f=.l->G.lv i=some x.v
def NoRoot (x y:It3):Prop:=x.f≠.z->∀ a,x.v=.ref a->a ∉ y.L
def Apart3 (x y:It3):Prop:=NoRoot x y/\NoRoot y x
structure Wf (K:FG) (G:Gm) (H:Hp) (Y:St) (Z:Sto) (T:List It3) (g:Nat->Option It3):Prop where
 len:Y.length=Z.length
 sl:∀ i,(g i).map (λx=>(x.d,x.f))=(Z[i]?).join
 sv:∀ i x,g i=some x->Y[i]?=some (some x.v)
 okS:∀ i x,g i=some x->ItOk K G H x
 okT:∀ x∈T,ItOk K G H x
 ss:∀ i j x y,i≠j->g i=some x->g j=some y->NoRoot x y
 st:∀ i x,g i=some x->∀ y∈T,Apart3 x y
 tt:T.Pairwise Apart3
 base:∀ b o,G.H0 b=some o->¬ G.bw b->H b=some o
 pro:∀ i,G.pr i=true->Y[i]?=G.Y0[i]?
 fx:Fx G H T g
structure Le (K:FG) (G:Gm) (W:D->Sto->Prop) (G0:Gm) (W0:D->Sto->Prop):Prop where
 pr:G.pr=G0.pr
 ex:∀ (H:Hp) (Y:St) (Z:Sto) (T:List It3) (g:Nat->Option It3) (e:D),Wf K G H Y Z T g->W e Z->∃ Z0 T0 g0,Wf K G0 H Y Z0 T0 g0/\W0 e Z0
theorem Le.refl (K:FG) (G:Gm) (W:D->Sto->Prop):Le K G W G W:=#[rfl,λ_ _ Z T g _ w h=>#[Z,T,g,w,h]]
theorem Le.trans (a:Le K G W G1 W1) (b:Le K G1 W1 G2 W2):Le K G W G2 W2:=⟨a.pr.trans b.pr,λH Y Z T g e w h=>by
 obtain ⟨Z1,c,g1,d,h1⟩:=a.ex H Y Z T g e w h
 exact b.ex H Y Z1 c g1 e d h1⟩
section
variable {K:FG} {G:Gm} {H H':Hp} {Y:St} {Z:Sto} {T T':List It3} {g:Nat->Option It3} {x y z:It3}
theorem ItOk.keep {M:Addr->Prop} (h:ItOk K G H x) (k:∀ b o,H b=some o->¬ M b->H' b=some o) (hm:∀ b,M b->MutAt H b) (a:∀ b∈x.L,¬ M b):ItOk K G H' x:=#[h.rep.keep k hm a,h.own,h.src]
theorem ItOk.same (h:ItOk K G H x) (s:Same H H'):ItOk K G H' x:=#[h.rep.same s,h.own,h.src]
theorem Fx.more (f:Fx G H T g) (s:∀ b o,H b=some o->∃ o',H' b=some o'):Fx G H' T g:=#[f.frT,f.frS,λb h=>let #[o,e]:=f.bin b h;s b o e,λb o h=>let #[o',e]:=f.ob b o h;s b o' e,f.lvS]
theorem Fx.sub (f:Fx G H T g) (h:∀ x∈T',x∈T):Fx G H T' g:=#[λx a=>f.frT x (h x a),f.frS,f.bin,f.ob,f.lvS]
theorem Wf.grow (w:Wf K G H Y Z T g) (s:Same H H'):Wf K G H' Y Z T g :=
 #[w.len,w.sl,w.sv,λi x e=>(w.okS i x e).same s,λx a=>(w.okT x a).same s,w.ss,w.st,w.tt,λb o e n=>s b o (w.base b o e n),w.pro,w.fx.more λb o h=>#[o,s b o h]]
theorem Wf.sub (w:Wf K G H Y Z T g) (h:T'.Sublist T):Wf K G H Y Z T' g :=
 #[w.len,w.sl,w.sv,w.okS,λx a=>w.okT x (h.subset a),w.ss,λi x e y b=>w.st i x e y (h.subset b),w.tt.sublist h,w.base,w.pro,w.fx.sub λx a=>h.subset a]
def Itm (T:List It3) (g:Nat->Option It3) (y:It3):Prop:=(∃ i,g i=some y)\/y∈T
def dX (T:List It3) (g:Nat->Option It3) (c:Addr):Prop:=(∀ i z,g i=some z->z.f≠.z->z.v≠.ref c)/\∀ z∈T,z.f≠.z->z.v≠.ref c
theorem Wf.itm (w:Wf K G H Y Z T g) (h:Itm T g y):ItOk K G H y:=by
 rcases h with ⟨i,e⟩ | h
 .exact w.okS i y e
 .exact w.okT y h
theorem pG {α:Type} {R:α->α->Prop} {l:List α} (p:l.Pairwise R) (h:∀ a b,R a b->R b a):∀ a∈l,∀ b∈l,a≠b->R a b:=by
 induction p with
 | nil=>intro a d;cases d
 | @cons c l hc _ ih =>
  intro a d b e n
  rcases G6.mp d with g | d
  .rcases G6.mp e with f | e
   .exact absurd (g.trans f.symm) n
   .rw[g];exact hc b e
  .rcases G6.mp e with f | e
   .rw[f];exact h _ _ (hc a d)
   .exact ih a d b e n
theorem Apart3.symm (h:Apart3 x y):Apart3 y x:=#[h.2,h.1]
theorem Wf.kid (w:Wf K G H Y Z T g) (h:Itm T g y) (d:c∈y.L) (l:y.f≠.z->y.v≠.ref c):dX T g c:=by
 refine #[λi z e hz a=>?_,λz hm hz a=>?_]
 .rcases h with ⟨j,b⟩ | k
  .by_cases m:i=j
   .subst m
    rw[e] at b
    cases b
    exact l hz a
   .exact w.ss i j z y m e b hz c a d
  .exact (w.st i z e y k).1 hz c a d
 .rcases h with ⟨j,b⟩ | k
  .exact (w.st j y b z hm).2 hz c a d
  .by_cases e:z=y
   .subst e;exact l hz a
   .exact (pG w.tt (λ_ _=>Apart3.symm) z hm y k e).1 hz c a d
structure New (K:FG) (H H':Hp) (Ks:Addr->Prop) (x:It3):Prop where
 same:Same H H'
 rep:Rep K H' x.d x.v x.L
 sub:∀ c∈x.L,H c=none\/Ks c
 own:x.f≠.z->jV x.d=true/\∃ a L',x.v=.ref a/\x.L=a::L'/\a ∉ L'/\H a=none
theorem Wf.h0none (w:Wf K G H Y Z T g) (h:H a=none):G.H0 a=none:=by
 cases e:G.H0 a with
 | none=>rfl
 | some o =>
  by_cases b:G.bw a
  .obtain ⟨o,e⟩:=w.fx.bin a b
   rw[h] at e;cases e
  .have:=w.base a o e b
   rw[h] at this;cases this
theorem Wf.ornone (w:Wf K G H Y Z T g) (h:H a=none):G.orig a=none:=by
 cases e:G.orig a with
 | none=>rfl
 | some o =>
  obtain ⟨o,e⟩:=w.fx.ob a o e
  rw[h] at e;cases e
theorem Wf.push (w:Wf K G H Y Z T g) (n:New K H H' Ks x) (q:∀ c,Ks c->dX T g c/\(G.H0 c=none\/G.src c)):Wf K G H' Y Z (x::T) g:=by
 have d:=w.grow n.same
 have a1:∀ y:It3,ItOk K G H y->(∀ c,Ks c->y.f≠.z->y.v≠.ref c)->Apart3 y x:=λy p b=>by
  refine #[λhf a e hm=>?_,λhf a e hm=>?_]
  .obtain ⟨_,u,L',e1,j,_,_⟩:=p.own hf
   rw[e] at e1
   cases e1
   rcases n.sub a hm with h | h
   .obtain ⟨o,k⟩:=(p.rep.inH a (by rw[j];exact GX)).ex
    rw[h] at k;cases k
   .exact b a h hf e
  .obtain ⟨_,u,L',e1,j,_,h⟩:=n.own hf
   rw[e] at e1
   cases e1
   obtain ⟨o,k⟩:=(p.rep.inH a hm).ex
   rw[h] at k;cases k
 refine #[d.len,d.sl,d.sv,d.okS,?_,d.ss,?_,?_,d.base,d.pro,#[λy b hf a t=>?_,d.fx.frS,d.fx.bin,d.fx.ob,d.fx.lvS]]
 .intro y b
  rcases G6.mp b with rfl | b
  .refine #[n.rep,λhf=>?_,λc l=>?_]
   .obtain ⟨r,a,L',e1,j,s,m⟩:=n.own hf
    exact #[r,a,L',e1,j,s,λ_=>.inl (w.h0none m)]
   .rcases n.sub c l with h | h
    .exact .inl (w.h0none h)
    .exact (q c h).2
  .exact d.okT y b
 .intro i z e y b
  rcases G6.mp b with rfl | b
  .exact a1 z (w.okS i z e) λc l=>(q c l).1.1 i z e
  .exact d.st i z e y b
 .refine List.pairwise_cons.mpr #[λy b=>(a1 y (w.okT y b) λc l=>(q c l).1.2 y b).symm,d.tt]
 .rcases G6.mp b with h | b
  .subst h
   obtain ⟨r,u,L',e1,j,s,m⟩:=n.own hf
   rw[t] at e1
   cases e1
   exact w.ornone m
  .exact d.fx.frT y b hf a t
def cY (ys:List It3) (c:Addr):Prop:=∃ y∈ys,c∈y.L/\(y.f≠.z->y.v≠.ref c)
theorem Wf.kids (w:Wf K G H Y Z T g) (a:∀ y∈ys,Itm T g y) (h:cY ys c):dX T g c/\(G.H0 c=none\/G.src c):=by
 obtain ⟨y,m,b,d⟩:=h
 exact #[w.kid (a y m) b d,(w.itm (a y m)).src c b]
structure Arg (K:FG) (H:Hp) (p:It3):Prop where
 rep:Rep K H p.d p.v p.L
 own:p.f≠.z->jV p.d=true/\∃ a L',p.v=.ref a/\p.L=a::L'/\a ∉ L'
theorem ItOk.arg (h:ItOk K G H x):Arg K H x:=⟨h.rep,λhf=>by
 obtain ⟨m,a,L',v1,v2,b,_⟩:=h.own hf
 exact ⟨m,a,L',v1,v2,b⟩⟩
end
inductive R3 where
 | pl (i:Nat) | val (d:D) (f:Fl)
abbrev M3 (α:Type):=Sto->Option (Except D α×Sto)
abbrev EM:=M3 R3
noncomputable def af {α β:Type} (m:M3 α) (k:α->M3 β):M3 β:=λZ=>match m Z with
 | none=>none
 | some (.error e,Z')=>some (.error e,Z')
 | some (.ok a,Z')=>k a Z'
noncomputable def aT {α:Type} (a:α):M3 α:=λZ=>some (.ok a,Z)
noncomputable def bc {α:Type} (o:Option α):M3 α:=λZ=>o.map λa=>(.ok a,Z)
noncomputable def der (r:R3):M3 D:=λZ=>match r with
 | .pl i=>((Z[i]?).join).map λp=>(.ok p.1,Z)
 | .val d _=>some (.ok d,Z)
inductive Ar (Y:St):R3->V->List It3->Prop where
 | pl {i:Nat} {v:V}:Y[i]?=some (some v)->Ar Y (.pl i) v []
 | val (x:It3):Ar Y (.val x.d x.f) x.v [x]
def Got (K:FG) (G:Gm) (Y:St) (Z:Sto) (T:List It3) (r:R3) (v:V) (H:Hp):Prop:=∃ Ts g,Wf K G H Y Z (Ts++T) g/\Ar Y r v Ts
def tE (K:FG) (G0:Gm) (W0:D->Sto->Prop) (m:EM):TE:=λY H Q=>∃ G W,Le K G W G0 W0/\∃ Z T g r Z',Wf K G H Y Z T g/\m Z=some (r,Z')/\match r with
 | .ok r=>∀ v H',Got K G Y Z' T r v H'->Q v H'
 | .error e=>W e Z'
def tT (K:FG) (G0:Gm) (W0:D->Sto->Prop) (m:M3 Bool):TT:=λY H Q=>∃ G W,Le K G W G0 W0/\∃ Z T g r Z',Wf K G H Y Z T g/\m Z=some (r,Z')/\match r with
 | .ok b=>∀ H' g',Wf K G H' Y Z' T g'->Q b H'
 | .error e=>W e Z'
inductive Ars (Y:St):List R3->List V->List It3->Prop where
 | nil:Ars Y [] [] []
 | cons {r v Ts rs vs Us}:Ar Y r v Ts->Ars Y rs vs Us->Ars Y (r::rs) (v::vs) (Us++Ts)
def tA (K:FG) (G0:Gm) (W0:D->Sto->Prop) (m:M3 (List R3)):TA:=λY H Q=>∃ G W,Le K G W G0 W0/\∃ Z T g r Z',Wf K G H Y Z T g/\m Z=some (r,Z')/\match r with
 | .ok rs=>∀ a H' Ts g',Wf K G H' Y Z' (Ts++T) g'->Ars Y rs a Ts->Q a H'
 | .error e=>W e Z'
inductive Flw where
 | nx | br | ct | rt (d:D) (f:Fl)
abbrev SM:=M3 Flw
def tS (K:FG) (G0:Gm) (W0:D->Sto->Prop) (m:SM):TS:=λE Y H=>∃ G W,Le K G W G0 W0/\∃ Z T g r Z',Wf K G H Y Z T g/\m Z=some (r,Z')/\match r with
 | .ok .nx=>∀ Y' H' g',Wf K G H' Y' Z' T g'->E.nx Y' H'
 | .ok .br=>∀ Y' H' g',Wf K G H' Y' Z' T g'->E.bk Y' H'
 | .ok .ct=>∀ Y' H' g',Wf K G H' Y' Z' T g'->E.ct Y' H'
 | .ok (.rt d f)=>∀ x Y' H' g',Wf K G H' Y' Z' (x::T) g'->x.d=d->x.f=f->E.rt x.v H'
 | .error e=>W e Z'
section
variable {K:FG} {G G0:Gm} {W W0:D->Sto->Prop} {H H':Hp} {Y:St} {Z Z':Sto} {T T':List It3} {g:Nat->Option It3} {x y z:It3} {α β:Type}
theorem aQ (e:af (der r) k Z=some (o,Z')):∃ d,der r Z=some (.ok d,Z)/\k d Z=some (o,Z'):=by
 cases r with
 | pl i =>
  have a:der (.pl i) Z=((Z[i]?).join).map λp=>(.ok p.1,Z):=rfl
  unfold af at e
  rw[a] at e ⊢
  cases h:(Z[i]?).join with
  | none=>rw[h] at e;exact nsE e
  | some p=>rw[h] at e;exact #[p.1,rfl,e]
 | val d f=>exact #[d,rfl,e]
theorem bJ (e:bc o Z=some (r,Z')):∃ a,o=some a/\r=.ok a/\Z'=Z:=by
 unfold bc at e
 cases o with
 | none=>exact nsE e
 | some a=>cases e;exact #[a,rfl,rfl,rfl]
theorem Wf.slot (w:Wf K G H Y Z T g) {i:Nat} (e:(Z[i]?).join=some (d,f)):∃ y,g i=some y/\y.d=d/\y.f=f/\Y[i]?=some (some y.v):=by
 have h:=w.sl i
 rw[e] at h
 cases q:g i with
 | none=>rw[q] at h;exact nsE h
 | some y =>
  rw[q] at h
  cases h
  exact #[y,rfl,rfl,rfl,w.sv i y q]
theorem Ar.item (w:Wf K G H Y Z T g) (a:Ar Y r v Ts) (l:∀ x∈Ts,x∈T) (e:der r Z=some (.ok d,Z)):∃ y,Itm T g y/\y.d=d/\y.v=v:=by
 cases a with
 | @pl i v h =>
  have j:der (.pl i) Z=((Z[i]?).join).map λp=>(.ok p.1,Z):=rfl
  rw[j] at e
  cases q:(Z[i]?).join with
  | none=>rw[q] at e;exact nsE e
  | some p =>
   rw[q] at e
   obtain ⟨y,e1,k,m,b⟩:=w.slot (d:=p.1) (f:=p.2) q
   have c:p.1=d:=by cases e;rfl
   rw[h] at b
   refine #[y,.inl #[i,e1],k.trans c,?_]
   cases b;rfl
 | val x=>cases e;exact #[x,.inr (l x (by simp)),rfl,rfl]
theorem Wf.done (w:Wf K G H Y Z (Us++T) g) (a:∀ y∈ys,Itm (Us++T) g y) (n:New K H H' (cY ys) x):Got K G Y Z T (.val x.d x.f) x.v H' :=
 #[[x],g,(w.push n λc h=>w.kids a h).sub (by simpa using List.Sublist.cons_cons x (Hf Us T)),.val x]
theorem tE.seq (le:Le K G W G0 W0) (w:Wf K G H Y Z T g) (e:af ma k Z=some (r,Z')) (he:∀ x,r=.error x->W x Z') (h:∀ ra Z1,k ra Z1=some (r,Z')->∀ v H1,Got K G Y Z1 T ra v H1->P v H1):tE K G0 W0 ma Y H P:=by
 unfold af at e
 cases q:ma Z with
 | none=>rw[q] at e;exact nsE e
 | some p =>
  obtain ⟨o,Z1⟩:=p
  rw[q] at e
  cases o with
  | error x=>cases e;exact #[G,W,le,Z,T,g,.error x,Z',w,q,he x rfl]
  | ok ra=>exact #[G,W,le,Z,T,g,.ok ra,Z1,w,q,h ra Z1 e]
theorem tT.seq (le:Le K G W G0 W0) (w:Wf K G H Y Z T g) (e:af ma k Z=some (r,Z')) (he:∀ x,r=.error x->W x Z') (h:∀ b Z1,k b Z1=some (r,Z')->∀ H1 g1,Wf K G H1 Y Z1 T g1->P b H1):tT K G0 W0 ma Y H P:=by
 unfold af at e
 cases q:ma Z with
 | none=>rw[q] at e;exact nsE e
 | some p =>
  obtain ⟨o,Z1⟩:=p
  rw[q] at e
  cases o with
  | error x=>cases e;exact #[G,W,le,Z,T,g,.error x,Z',w,q,he x rfl]
  | ok ra=>exact #[G,W,le,Z,T,g,.ok ra,Z1,w,q,h ra Z1 e]
theorem tA.seq (le:Le K G W G0 W0) (w:Wf K G H Y Z T g) (e:af ma k Z=some (r,Z')) (he:∀ x,r=.error x->W x Z') (h:∀ rs Z1,k rs Z1=some (r,Z')->∀ a H1 Ts g1,Wf K G H1 Y Z1 (Ts++T) g1->Ars Y rs a Ts->P a H1):tA K G0 W0 ma Y H P:=by
 unfold af at e
 cases q:ma Z with
 | none=>rw[q] at e;exact nsE e
 | some p =>
  obtain ⟨o,Z1⟩:=p
  rw[q] at e
  cases o with
  | error x=>cases e;exact #[G,W,le,Z,T,g,.error x,Z',w,q,he x rfl]
  | ok ra=>exact #[G,W,le,Z,T,g,.ok ra,Z1,w,q,h ra Z1 e]
def EndE (K:FG) (G:Gm) (W:D->Sto->Prop) (Y:St) (T:List It3) (Z':Sto) (Q:VK):Except D R3->Prop
 | .ok r=>∀ v H',Got K G Y Z' T r v H'->Q v H'
 | .error e=>W e Z'
theorem EndE.err (h:EndE K G W Y T Z' Q r):∀ x,r=.error x->W x Z':=by
 intro x e;subst e;exact h
theorem tE.open (h:tE K G0 W0 m Y H Q):∃ G W,Le K G W G0 W0/\∃ Z T g r Z',Wf K G H Y Z T g/\m Z=some (r,Z')/\EndE K G W Y T Z' Q r:=by
 obtain ⟨G,W,le,Z,T,g,r,Z',w,e,q⟩:=h
 refine #[G,W,le,Z,T,g,r,Z',w,e,?_]
 cases r with
 | ok r=>exact q
 | error x=>exact q
theorem tE.use (h:tE K G0 W0 m Y H Q) {P:Prop} (k:∀ G W,Le K G W G0 W0->∀ Z T g r Z',Wf K G H Y Z T g->m Z=some (r,Z')->EndE K G W Y T Z' Q r->P):P:=by
 obtain ⟨G,W,le,Z,T,g,r,Z',w,e,q⟩:=h.open
 exact k G W le Z T g r Z' w e q
theorem tE.mk (le:Le K G W G0 W0) (w:Wf K G H Y Z T g) (e:m Z=some (r,Z')) (h:EndE K G W Y T Z' Q r):tE K G0 W0 m Y H Q:=by
 refine #[G,W,le,Z,T,g,r,Z',w,e,?_]
 cases r with
 | ok r=>exact h
 | error x=>exact h
def ac (i:Nat):EM:=λZ=>((Z[i]?).join).map λ_=>(.ok (.pl i),Z)
theorem Eo {i:Nat} (h:tE K G0 W0 (ac i) Y H Q):ww i Y H Q:=by
 refine h.use λG W le Z T g r Z' w e q=>?_
 unfold ac at e
 cases h:(Z[i]?).join with
 | none=>rw[h] at e;exact nsE e
 | some p =>
  rw[h] at e
  cases e
  obtain ⟨y,_,_,_,a⟩:=w.slot (d:=p.1) (f:=p.2) h
  exact #[y.v,a,q y.v H #[[],g,w,.pl a]]
def mC (d:D):EM:=aT (.val d .z)
theorem Wf.const (w:Wf K G H Y Z T g) (r:Rep K H d v []):Got K G Y Z T (.val d .z) v H :=
 Wf.done (Us:=[]) (ys:=[]) (x:=#[d,v,[],.z]) w (λ_ h=>(by cases h)) #[Same.refl _,r,λ_ h=>(by cases h),λh=>absurd rfl h]
theorem il (r:∀ H,Rep K H d v []) (h:tE K G0 W0 (mC d) Y H Q):tC v Y H Q:=by
 refine h.use λG W le Z T g o Z' w e q=>?_
 cases e
 exact q v H (w.const (r H))
def aj (f:D->D->Option (D×Fl)) (ma mb:EM):EM:=af ma λra=>af mb λrb=>af (der ra) λda=>af (der rb) λdb=>bc ((f da db).map λp=>R3.val p.1 p.2)
def OpD (K:FG) (r:R2) (f:D->D->Option (D×Fl)):Prop:=∀ (a b:It3) (H:Hp) (Q:VK) (p:D×Fl),Arg K H a->Arg K H b->f a.d b.d=some p ->
 (∀ w H',New K H H' (cY [a,b]) w->w.d=p.1->w.f=p.2->Q w.v H')->r a.v b.v H Q
theorem oS (w:Wf K G H Y Z (Us++T) g) (b:∀ y∈ys,Itm (Us++T) g y) (q:EndE K G W Y T Z Q (.ok (.val d f))) :
  ∀ a H',New K H H' (cY ys) a->a.d=d->a.f=f->Q a.v H':=by
 intro a H' n e1 c
 subst e1 c
 exact q a.v H' (w.done b n)
theorem lW (z:OpD K r f) (h:tE K G0 W0 (aj f ma mb) Y H Q):tOp r (tE K G0 W0 ma) (tE K G0 W0 mb) Y H Q:=by
 refine h.use λG W le Z T g o Z' w e q=>?_
 refine tE.seq le w e q.err λra Z1 e1 F H1 #[Ts,g1,D,a1]=>?_
 refine tE.seq le D e1 q.err λrb Z2 v E H2 #[Us,g2,a,a2]=>?_
 obtain ⟨da,C,u⟩:=aQ v
 obtain ⟨db,B,t⟩:=aQ u
 obtain ⟨p,b,rfl,rfl⟩:=bJ t
 obtain ⟨m,j,f1,f2⟩:=a1.item a (λx c=>G5 _ (G4 _ c)) C
 obtain ⟨n,l,A,f4⟩:=a2.item a (λx c=>G4 _ c) B
 subst f1 f2 A f4
 cases k:f m.d n.d with
 | none=>rw[k] at b;exact nsE b
 | some s =>
  rw[k] at b
  cases b
  rw[<- List.append_assoc] at a j l
  refine z m n H2 Q s (a.itm j).arg (a.itm l).arg k (oS a (λy i=>?_) q)
  rcases G6.mp i with h | i
  .rw[h];exact j
  .rw[Hy.mp i];exact l
def mUn (f:D->Option (D×Fl)) (ma:EM):EM:=af ma λra=>af (der ra) λda=>bc ((f da).map λp=>R3.val p.1 p.2)
def UnD (K:FG) (r:V->Hp->VK->Prop) (f:D->Option (D×Fl)):Prop:=∀ (a:It3) (H:Hp) (Q:VK) (p:D×Fl),Arg K H a->f a.d=some p ->
 (∀ w H',New K H H' (cY [a]) w->w.d=p.1->w.f=p.2->Q w.v H')->r a.v H Q
theorem yt (l:UnD K r f) (h:tE K G0 W0 (mUn f ma) Y H Q):tUn r (tE K G0 W0 ma) Y H Q:=by
 refine h.use λG W le Z T g o Z' w e q=>?_
 refine tE.seq le w e q.err λra Z1 e1 u H1 #[Ts,g1,c,a1]=>?_
 obtain ⟨da,t,k⟩:=aQ e1
 obtain ⟨p,a,rfl,rfl⟩:=bJ k
 obtain ⟨i,j,f1,f2⟩:=a1.item c (λx m=>G4 _ m) t
 subst f1 f2
 cases b:f i.d with
 | none=>rw[b] at a;exact nsE a
 | some s =>
  rw[b] at a
  cases a
  exact l i H1 Q s (c.itm j).arg b (oS c (λy n=>by rw[Hy.mp n];exact j) q)
def ah:M3 (List R3):=aT []
def aa (m:EM) (ms:M3 (List R3)):M3 (List R3):=af m λr=>af ms λrs=>aT (r::rs)
def EndA (K:FG) (G:Gm) (W:D->Sto->Prop) (Y:St) (T:List It3) (Z':Sto) (Q:List V->Hp->Prop):Except D (List R3)->Prop
 | .ok rs=>∀ a H' Ts g',Wf K G H' Y Z' (Ts++T) g'->Ars Y rs a Ts->Q a H'
 | .error e=>W e Z'
theorem EndA.err (h:EndA K G W Y T Z' Q r):∀ x,r=.error x->W x Z':=by
 intro x e;subst e;exact h
theorem tA.open (h:tA K G0 W0 m Y H Q):∃ G W,Le K G W G0 W0/\∃ Z T g r Z',Wf K G H Y Z T g/\m Z=some (r,Z')/\EndA K G W Y T Z' Q r:=by
 obtain ⟨G,W,le,Z,T,g,r,Z',w,e,q⟩:=h
 refine #[G,W,le,Z,T,g,r,Z',w,e,?_]
 cases r with
 | ok r=>exact q
 | error x=>exact q
theorem tA.use (h:tA K G0 W0 m Y H Q) {P:Prop} (k:∀ G W,Le K G W G0 W0->∀ Z T g r Z',Wf K G H Y Z T g->m Z=some (r,Z')->EndA K G W Y T Z' Q r->P):P:=by
 obtain ⟨G,W,le,Z,T,g,r,Z',w,e,q⟩:=h.open
 exact k G W le Z T g r Z' w e q
theorem Ew (h:tA K G0 W0 ah Y H Q):El Y H Q:=by
 refine h.use λG W le Z T g r Z' w e q=>?_
 cases e
 exact q [] H [] g w .nil
theorem BG (h:tA K G0 W0 (aa m ms) Y H Q):yw (tE K G0 W0 m) (tA K G0 W0 ms) Y H Q:=by
 refine h.use λG W le Z T g r Z' w e q=>?_
 refine tE.seq le w e q.err λra Z1 e1 d H1 #[Ts,g1,f,a1]=>?_
 refine tA.seq le f e1 q.err λrs Z2 a b H2 Us g2 c a2=>?_
 cases a
 refine q (d::b) H2 (Us++Ts) g2 ?_ (.cons a1 a2)
 rw[List.append_assoc]
 exact c
def c8:List R3->M3 (List D)
 | []=>aT []
 | r::rs=>af (der r) λd=>af (c8 rs) λds=>aT (d::ds)
theorem vR:∀ {rs:List R3} {Z Z':Sto} {o:Except D (List D)},c8 rs Z=some (o,Z')->∃ ds,o=.ok ds/\Z'=Z
 | [],Z,Z',o,e=>by cases e;exact #[[],rfl,rfl]
 | r::rs,Z,Z',o,e=>by
  obtain ⟨d,e1,a⟩:=aQ (k:=λd=>af (c8 rs) λds=>aT (d::ds)) e
  unfold af at a
  cases q:c8 rs Z with
  | none=>rw[q] at a;exact nsE a
  | some p =>
   obtain ⟨o',Z1⟩:=p
   obtain ⟨ds,rfl,rfl⟩:=vR q
   rw[q] at a
   cases a
   exact #[d::ds,rfl,rfl]
theorem bD (e:af (c8 rs) k Z=some (o,Z')):∃ ds,c8 rs Z=some (.ok ds,Z)/\k ds Z=some (o,Z'):=by
 unfold af at e
 cases q:c8 rs Z with
 | none=>rw[q] at e;exact nsE e
 | some p =>
  obtain ⟨o',Z1⟩:=p
  obtain ⟨ds,rfl,rfl⟩:=vR q
  rw[q] at e
  exact #[ds,rfl,e]
theorem Ars.items:∀ {rs:List R3} {c:List V} {Ts:List It3} {ds:List D} ,Wf K G H Y Z T g->Ars Y rs c Ts->(∀ x∈Ts,x∈T)->c8 rs Z=some (.ok ds,Z)->∃ ys:List It3,(∀ y∈ys,Itm T g y)/\ys.map (·.d)=ds/\ys.map (·.v)=c
 | [],_,_,ds,w,.nil,_,e=>by cases e;exact #[[],λ_ h=>(by cases h),rfl,rfl]
 | r::rs,_,_,ds,w,.cons a as,hs,e=>by
  obtain ⟨d,e1,j⟩:=aQ (k:=λd=>af (c8 rs) λds=>aT (d::ds)) e
  obtain ⟨l,i,f⟩:=bD j
  cases f
  obtain ⟨y,o,f1,f2⟩:=a.item w (λx b=>hs x (G5 _ b)) e1
  obtain ⟨ys,m,n,f4⟩:=Ars.items w as (λx b=>hs x (G4 _ b)) i
  refine #[y::ys,λz hz=>?_,by simp[f1,n],by simp[f2,f4]]
  rcases G6.mp hz with h | hz
  .rw[h];exact o
  .exact m z hz
def av (f:List D->Option (D×Fl)) (ms:M3 (List R3)):EM:=af ms λrs=>af (c8 rs) λds=>bc ((f ds).map λp=>R3.val p.1 p.2)
def c6 (K:FG) (r:List V->Hp->VK->Prop) (f:List D->Option (D×Fl)):Prop:=∀ (ys:List It3) (H:Hp) (Q:VK) (p:D×Fl),(∀ y∈ys,Arg K H y)->f (ys.map (·.d))=some p ->
 (∀ w H',New K H H' (cY ys) w->w.d=p.1->w.f=p.2->Q w.v H')->r (ys.map (·.v)) H Q
theorem jB (k:c6 K r f) (h:tE K G0 W0 (av f ms) Y H Q):tCB r (tA K G0 W0 ms) Y H Q:=by
 refine h.use λG W le Z T g o Z' w e q=>?_
 refine tA.seq le w e q.err λrs Z1 e1 t H1 Ts g1 c a1=>?_
 obtain ⟨ds,n,j⟩:=bD e1
 obtain ⟨p,a,rfl,rfl⟩:=bJ j
 obtain ⟨ys,i,f1,f2⟩:=a1.items c (λx l=>G4 _ l) n
 subst f1 f2
 cases b:f (ys.map (·.d)) with
 | none=>rw[b] at a;exact nsE a
 | some s =>
  rw[b] at a
  cases a
  exact k ys H1 Q s (λy m=>(c.itm (i y m)).arg) b (oS c i q)
def asB:D->Option Bool
 | .bl b=>some b
 | _=>none
def jq (ma mb:EM):EM:=af ma λra=>af (der ra) λd=>af (bc (asB d)) λb=>if b then mb else aT (.val (.bl false) .z)
def mOr (ma mb:EM):EM:=af ma λra=>af (der ra) λd=>af (bc (asB d)) λb=>if b then aT (.val (.bl true) .z) else mb
def sf (ma:EM):EM:=af ma λra=>af (der ra) λd=>af (bc (asB d)) λb=>aT (.val (.bl (!b)) .z)
theorem ky (e:af (bc o) k Z=some (r,Z')):∃ a,o=some a/\k a Z=some (r,Z'):=by
 unfold af bc at e
 cases o with
 | none=>exact nsE e
 | some a=>exact #[a,rfl,e]
theorem A9 (e:asB d=some b):d=.bl b:=by
 cases d <;> first | exact nsE e | cases e
 rfl
theorem Rep.bl_eq (r:Rep K H (.bl b) v L):v=.bl b/\L=[]:=by cases r;exact #[rfl,rfl]
theorem Ar.bool (w:Wf K G H Y Z (Ts++T) g) (a:Ar Y ra v Ts) (e:der ra Z=some (.ok d,Z)) (f:asB d=some b):v=.bl b:=by
 obtain ⟨y,c,f1,f2⟩:=a.item w (λx h=>G4 _ h) e
 have r:=(w.itm c).rep
 rw[f1,A9 f] at r
 rw[<- f2]
 exact r.bl_eq.1
theorem Eu (h:tE K G0 W0 (jq ma mb) Y H Q):Dr (tE K G0 W0 ma) (tE K G0 W0 mb) Y H Q:=by
 refine h.use λG W le Z T g o Z' w e q=>?_
 refine tE.seq le w e q.err λra Z1 e1 l H1 #[Ts,g1,f,a1]=>?_
 obtain ⟨d,k,i⟩:=aQ e1
 obtain ⟨b,j,a⟩:=ky i
 refine #[b,a1.bool f k j,?_]
 have c:=f.sub (Hf Ts T)
 cases b with
 | true=>exact tE.mk le c a q
 | false=>cases a;exact q _ _ (c.const (.bl false))
theorem Er (h:tE K G0 W0 (sf ma) Y H Q):Dn (tE K G0 W0 ma) Y H Q:=by
 refine h.use λG W le Z T g o Z' w e q=>?_
 refine tE.seq le w e q.err λra Z1 e1 l H1 #[Ts,g1,a,a1]=>?_
 obtain ⟨d,k,f⟩:=aQ e1
 obtain ⟨b,i,c⟩:=ky f
 refine #[b,a1.bool a k i,?_]
 have j:=a.sub (Hf Ts T)
 cases c;exact q _ _ (j.const (.bl (!b)))
def EndT (K:FG) (G:Gm) (W:D->Sto->Prop) (Y:St) (T:List It3) (Z':Sto) (Q:Bool->Hp->Prop):Except D Bool->Prop
 | .ok b=>∀ H' g',Wf K G H' Y Z' T g'->Q b H'
 | .error e=>W e Z'
theorem EndT.err (h:EndT K G W Y T Z' Q r):∀ x,r=.error x->W x Z':=by
 intro x e;subst e;exact h
theorem tT.open (h:tT K G0 W0 m Y H Q):∃ G W,Le K G W G0 W0/\∃ Z T g r Z',Wf K G H Y Z T g/\m Z=some (r,Z')/\EndT K G W Y T Z' Q r:=by
 obtain ⟨G,W,le,Z,T,g,r,Z',w,e,q⟩:=h
 refine #[G,W,le,Z,T,g,r,Z',w,e,?_]
 cases r with
 | ok r=>exact q
 | error x=>exact q
theorem tT.use (h:tT K G0 W0 m Y H Q) {P:Prop} (k:∀ G W,Le K G W G0 W0->∀ Z T g r Z',Wf K G H Y Z T g->m Z=some (r,Z')->EndT K G W Y T Z' Q r->P):P:=by
 obtain ⟨G,W,le,Z,T,g,r,Z',w,e,q⟩:=h.open
 exact k G W le Z T g r Z' w e q
theorem tT.mk (le:Le K G W G0 W0) (w:Wf K G H Y Z T g) (e:m Z=some (r,Z')) (h:EndT K G W Y T Z' Q r):tT K G0 W0 m Y H Q:=by
 refine #[G,W,le,Z,T,g,r,Z',w,e,?_]
 cases r with
 | ok r=>exact h
 | error x=>exact h
def cB (m:EM):M3 Bool:=af m λr=>af (der r) λd=>bc (asB d)
theorem Eb (h:tT K G0 W0 (cB m) Y H Q):tB (tE K G0 W0 m) Y H Q:=by
 refine h.use λG W le Z T g o Z' w e q=>?_
 refine tE.seq le w e q.err λra Z1 e1 j H1 #[Ts,g1,a,a1]=>?_
 obtain ⟨d,i,c⟩:=aQ e1
 obtain ⟨b,f,rfl,rfl⟩:=bJ c
 exact #[b,a1.bool a i f,q _ _ (a.sub (Hf Ts T))]
def Df (a b:M3 Bool):M3 Bool:=af a λc=>if c then b else aT false
def cOr (a b:M3 Bool):M3 Bool:=af a λc=>if c then aT true else b
def fJ (a:M3 Bool):M3 Bool:=af a λc=>aT (!c)
theorem tT_or (h:tT K G0 W0 (cOr a b) Y H Q):tOr (tT K G0 W0 a) (tT K G0 W0 b) Y H Q:=by
 refine h.use λG W le Z T g o Z' w e q=>?_
 refine tT.seq le w e q.err λc Z1 e1 H1 g1 d=>?_
 cases c with
 | false=>exact tT.mk le d e1 q
 | true=>cases e1;exact q _ _ d
theorem Ea (h:tT K G0 W0 (fJ a) Y H Q):tNot (tT K G0 W0 a) Y H Q:=by
 refine h.use λG W le Z T g o Z' w e q=>?_
 refine tT.seq le w e q.err λc Z1 e1 H1 g1 b=>?_
 cases e1;exact q _ _ b
def mIf (c:M3 Bool) (ma mb:EM):EM:=af c λb=>if b then ma else mb
theorem tE_if (h:tE K G0 W0 (mIf c ma mb) Y H Q):tIf (tT K G0 W0 c) (tE K G0 W0 ma) (tE K G0 W0 mb) Y H Q:=by
 refine h.use λG W le Z T g o Z' w e q=>?_
 refine tT.seq le w e q.err λc Z1 e1 H1 g1 a=>?_
 cases c with
 | true=>exact tE.mk le a e1 q
 | false=>exact tE.mk le a e1 q
end
def dm (x:It3):It3:={ x with f:=.z }
theorem cU:NoRoot (dm x) y:=λh=>absurd rfl h
def lowAt (i:Nat) (Z:Sto):Sto:=match (Z[i]?).join with
 | some (d,.u)=>Z.set i #v[d]
 | some (d,.l)=>Z.set i #v[d]
 | _=>Z
noncomputable def frz (is:List Nat) (Z:Sto):Sto:=is.foldl (λZ i=>lowAt i Z) Z
def xu (is:List Nat):M3 Unit:=λZ=>some (.ok (),frz is Z)
def pls:List R3->List Nat
 | []=>[]
 | .pl i::rs=>i::pls rs
 | .val _ _::rs=>pls rs
section
variable {K:FG} {G G0:Gm} {W W0:D->Sto->Prop} {H H':Hp} {Y:St} {Z Z':Sto} {T T':List It3} {g:Nat->Option It3} {x y z:It3} {α β:Type}
theorem ItOk.low (h:ItOk K G H x):ItOk K G H (dm x):=#[h.rep,λq=>absurd rfl q,h.src]
theorem cW {i j:Nat} (hi:i < Z.length):((Z.set i o)[j]?).join=if j=i then o else (Z[j]?).join:=by grind
theorem gi {i:Nat} (h:(Z[i]?).join=some p):i < Z.length:=by grind
theorem Wf.lowSlot (w:Wf K G H Y Z T g) {i:Nat} (e:(Z[i]?).join=some (d,f)):Wf K G H Y (Z.set i #v[d]) T (λj=>if j=i then (g i).map dm else g j):=by
 have hi:=gi e
 obtain ⟨y,u,B,C,ev⟩:=w.slot e
 have val:∀ j x,(if j=i then (g i).map dm else g j)=some x->∃ x0,g j=some x0/\(x=x0\/x=dm x0)/\(j=i->x=dm x0):=λj x h=>by
  grind
 have s:∀ {a b:It3},NoRoot a b->∀ p l,(p=a\/p=dm a)->(l=b\/l=dm b)->NoRoot p l:=λh p l h1 h2=>by
  rcases h1 with rfl | rfl
  .rcases h2 with rfl | rfl
   .exact h
   .exact h
  .exact cU
 refine #[by rw[List.length_set];exact w.len,λj=>?_,λj x h=>?_,λj x h=>?_,w.okT,λj k a b n h1 h2=>?_,λj a h b o=>?_,w.tt,w.base,w.pro,#[w.fx.frT,λj x h A hf a v=>?_,w.fx.bin,w.fx.ob,λj x h t=>?_]]
 .rw[cW hi]
  by_cases q:j=i
  .subst q
   rw[if_pos rfl,if_pos rfl,u]
   show some ((dm y).d,Fl.z)=_
   rw[<- B];rfl
  .rw[if_neg q,if_neg q];exact w.sl j
 .obtain ⟨x0,h0,c,_⟩:=val j x h
  have:=w.sv j x0 h0
  rcases c with rfl | rfl <;> exact this
 .obtain ⟨x0,h0,c,_⟩:=val j x h
  rcases c with rfl | rfl
  .exact w.okS j x h0
  .exact (w.okS j x0 h0).low
 .obtain ⟨a0,h0,m,_⟩:=val j a h1
  obtain ⟨b0,r,o,_⟩:=val k b h2
  exact s (w.ss j k a0 b0 n h0 r) a b m o
 .obtain ⟨a0,h0,m,_⟩:=val j a h
  exact #[s (w.st j a0 h0 b o).1 a b m (.inl rfl),s (w.st j a0 h0 b o).2 b a (.inl rfl) m]
 .obtain ⟨x0,h0,c,_⟩:=val j x h
  rcases c with rfl | rfl
  .exact w.fx.frS j x h0 A hf a v
  .exact absurd rfl hf
 .obtain ⟨x0,h0,c,_⟩:=val j x h
  rcases c with rfl | rfl
  .exact w.fx.lvS j x h0 t
  .cases t
def Kin (x y:It3):Prop:=y.d=x.d/\y.v=x.v/\y.L=x.L/\(y.f=x.f\/y.f=.z)
theorem Kin.refl (x:It3):Kin x x:=#[rfl,rfl,rfl,.inl rfl]
theorem Kin.trans (a:Kin x y) (b:Kin y z):Kin x z:=⟨b.1.trans a.1,b.2.1.trans a.2.1,b.2.2.1.trans a.2.2.1,by
 rcases b.2.2.2 with h | h
 .rcases a.2.2.2 with h' | h'
  .exact .inl (h.trans h')
  .exact .inr (h.trans h')
 .exact .inr h⟩
theorem Wf.lowAt {i:Nat} (w:Wf K G H Y Z T g):∃ g',Wf K G H Y (lowAt i Z) T g'/\(∀ j y,g j=some y->∃ a,g' j=some a/\Kin y a/\(j=i->a.f=.z)):=by
 have keep:∀ d,(Z[i]?).join=#v[d]->∃ g',Wf K G H Y Z T g'/\(∀ j y,g j=some y->∃ a,g' j=some a/\Kin y a/\(j=i->a.f=.z)):=λd e=>⟨g,w,λj y h=>⟨y,h,Kin.refl y,λq=>by
  subst q
  obtain ⟨a,h',_,hf,_⟩:=w.slot e
  rw[h] at h';cases h';exact hf⟩⟩
 have low:∀ d f,(Z[i]?).join=some (d,f)->∃ g',Wf K G H Y (Z.set i #v[d]) T g'/\(∀ j y,g j=some y->∃ a,g' j=some a/\Kin y a/\(j=i->a.f=.z)):=λd f e=>⟨_,w.lowSlot e,λj y h=>by
  by_cases q:j=i
  .subst q;exact #[dm y,by rw[if_pos rfl,h];rfl,#[rfl,rfl,rfl,.inr rfl],λ_=>rfl]
  .exact ⟨y,by rw[if_neg q];exact h,Kin.refl y,λz=>absurd z q⟩⟩
 unfold L3.lowAt
 cases e:(Z[i]?).join with
 | none =>
  refine #[g,w,λj y h=>#[y,h,Kin.refl y,λq=>?_]]
  subst q
  have:=w.sl j
  rw[h,e] at this;cases this
 | some p =>
  obtain ⟨d,f⟩:=p
  cases f with
  | u=>exact low d _ e
  | l=>exact low d _ e
  | z=>exact keep d e
theorem Wf.frz:∀ {is:List Nat} {Z:Sto} {g:Nat->Option It3},Wf K G H Y Z T g->∃ g',Wf K G H Y (frz is Z) T g'/\(∀ j y,g j=some y->∃ a,g' j=some a/\Kin y a/\(j∈is->a.f=.z))
 | [],Z,g,w=>#[g,w,λj y h=>#[y,h,Kin.refl y,λq=>by cases q]]
 | i::is,Z,g,w=>by
  obtain ⟨g1,m,h1⟩:=w.lowAt (i:=i)
  obtain ⟨g2,e,h2⟩:=Wf.frz (is:=is) m
  refine #[g2,e,λj y h=>?_]
  obtain ⟨l,e1,k1,c⟩:=h1 j y h
  obtain ⟨k,d,k2,b⟩:=h2 j l e1
  refine #[k,d,k1.trans k2,λhm=>?_]
  rcases G6.mp hm with q | q
  .rcases k2.2.2.2 with h | h
   .exact h.trans (c q)
   .exact h
  .exact b q
theorem Wf.lowT (w:Wf K G H Y Z (Ts++T) g):Wf K G H Y Z (Ts.map dm++T) g:=by
 have sp:∀ {a b:It3},Apart3 a b->Apart3 (dm a) (dm b):=λh=>#[cU,cU]
 refine #[w.len,w.sl,w.sv,w.okS,λx c=>?_,w.ss,λi x e y k=>?_,?_,w.base,w.pro,#[λx c hf a d=>?_,w.fx.frS,w.fx.bin,w.fx.ob,w.fx.lvS]]
 .rcases G9.mp c with h | h
  .obtain ⟨x0,h0,rfl⟩:=Hg.mp h
   exact (w.okT x0 (G4 _ h0)).low
  .exact w.okT x (G5 _ h)
 .rcases G9.mp k with h | h
  .obtain ⟨y0,h0,rfl⟩:=Hg.mp h
   exact #[(w.st i x e y0 (G4 _ h0)).1,cU]
  .exact w.st i x e y (G5 _ h)
 .have h:=List.pairwise_append.mp w.tt
  refine List.pairwise_append.mpr #[?_,h.2.1,λa f b j=>?_]
  .grind
  .obtain ⟨a0,h0,rfl⟩:=Hg.mp f
   exact #[cU,(h.2.2 a0 h0 b j).2]
 .rcases G9.mp c with h | h
  .obtain ⟨x0,h0,rfl⟩:=Hg.mp h
   exact absurd rfl hf
  .exact w.fx.frT x (G5 _ h) hf a d
theorem lM:∀ {rs:List R3} {i:Nat},R3.pl i∈rs->i∈pls rs
 | [],_,h=>by cases h
 | .pl j::rs,i,h=>by
  rcases G6.mp h with e | h
  .cases e;exact GX
  .exact GY _ (lM h)
 | .val _ _::rs,i,h=>by
  rcases G6.mp h with e | h
  .cases e
  .exact lM (rs:=rs) h
theorem Ars.given:∀ {rs:List R3} {m:List V} {Ts:List It3} {ds:List D} {S:List It3} {g':Nat->Option It3} {is:List Nat},Wf K G H Y Z T g->(∀ j y,g j=some y->∃ b,g' j=some b/\Kin y b/\(j∈is->b.f=.z))->(∀ i,R3.pl i∈rs->i∈is) ->
  Ars Y rs m Ts->(∀ x∈Ts,x∈T)->(∀ x∈Ts,dm x∈S)->c8 rs Z=some (.ok ds,Z)->∃ ys:List It3,(∀ y∈ys,Itm S g' y/\y.f=.z)/\ys.map (·.d)=ds/\ys.map (·.v)=m
 | [],_,_,ds,S,g',is,w,hg,hi,.nil,_,_,e=>by cases e;exact #[[],λ_ h=>(by cases h),rfl,rfl]
 | r::rs,_,_,ds,S,g',is,w,hg,hi,.cons (v:=v0) a as,hs,hS,e=>by
  obtain ⟨d,e1,t⟩:=aQ (k:=λd=>af (c8 rs) λds=>aT (d::ds)) e
  obtain ⟨u,s,o⟩:=bD t
  cases o
  obtain ⟨ys,F,I,f4⟩:=Ars.given w hg (λi h=>hi i (GY _ h)) as (λx c=>hs x (G4 _ c)) (λx c=>hS x (G4 _ c)) s
  have one:∃ y,(Itm S g' y/\y.f=.z)/\y.d=d/\y.v=v0:=by
   cases a with
   | @pl i v h =>
    have E:der (.pl i) Z=((Z[i]?).join).map λp=>(.ok p.1,Z):=rfl
    rw[E] at e1
    cases q:(Z[i]?).join with
    | none=>rw[q] at e1;exact nsE e1
    | some p =>
     rw[q] at e1
     obtain ⟨y,C,A,J,l⟩:=w.slot (d:=p.1) (f:=p.2) q
     obtain ⟨b,h1,h2,h3⟩:=hg i y C
     have n:p.1=d:=by cases e1;rfl
     rw[h] at l
     refine #[b,#[.inl #[i,h1],h3 (hi i GX)],h2.1.trans (A.trans n),?_]
     rw[h2.2.1];cases l;rfl
   | val x=>cases e1;exact #[dm x,#[.inr (hS x (by simp)),rfl],rfl,rfl]
  obtain ⟨y,B,f1,f2⟩:=one
  refine #[y::ys,λz hz=>?_,by simp[f1,I],by simp[f2,f4]]
  rcases G6.mp hz with h | hz
  .rw[h];exact B
  .exact F z hz
def c9 (ys:List It3) (c:Addr):Prop:=∃ y∈ys,c∈y.L
def gives (rs:List R3):M3 (List D):=af (c8 rs) λds=>af (xu (pls rs)) λ_=>aT ds
theorem Ars.gives (w:Wf K G H Y Z (Ts++T) g) (a:Ars Y rs vs Ts) (e:af (gives rs) k Z=some (r,Z')) :
  ∃ ds Z1 g1,k ds Z1=some (r,Z')/\Z1=frz (pls rs) Z/\Wf K G H Y Z1 (Ts.map dm++T) g1/\(∀ j y,g j=some y->∃ c,g1 j=some c/\Kin y c)/\∃ ys:List It3,(∀ y∈ys,Itm (Ts.map dm++T) g1 y/\y.f=.z)/\ys.map (·.d)=ds/\ys.map (·.v)=vs:=by
 unfold L3.gives at e
 have m:af (c8 rs) (λds=>af (xu (pls rs)) λ_=>k ds) Z=some (r,Z'):=by
  rw[<- e]
  unfold af
  cases q:c8 rs Z with
  | none=>rfl
  | some p =>
   obtain ⟨o,Z2⟩:=p
   cases o with
   | error x=>rfl
   | ok ds=>rfl
 obtain ⟨ds,n,e1⟩:=bD m
 obtain ⟨g1,s,h1⟩:=Wf.frz (is:=pls rs) w
 refine #[ds,L3.frz (pls rs) Z,g1,e1,rfl,s.lowT,λj y h=>let #[c,a,b,_]:=h1 j y h;#[c,a,b],?_]
 exact Ars.given w h1 (λi h=>lM h) a (λx l=>G4 _ l) (λx l=>G4 _ (Hg.mpr #[x,l,rfl])) n
theorem Wf.alls (w:Wf K G H Y Z T g) (a:∀ y∈ys,Itm T g y/\y.f=.z) (h:c9 ys c):dX T g c/\(G.H0 c=none\/G.src c):=by
 obtain ⟨y,m,b⟩:=h
 exact #[w.kid (a y m).1 b λhf=>absurd (a y m).2 hf,(w.itm (a y m).1).src c b]
theorem Wf.doneA (w:Wf K G H Y Z (Us++T) g) (a:∀ y∈ys,Itm (Us++T) g y/\y.f=.z) (n:New K H H' (c9 ys) x):Got K G Y Z T (.val x.d x.f) x.v H' :=
 #[[x],g,(w.push n λc h=>w.alls a h).sub (by simpa using List.Sublist.cons_cons x (Hf Us T)),.val x]
theorem lJ:∀ {ys:List It3},(∀ y∈ys,Rep K H y.d y.v y.L)->Reps (Rep K H) (ys.map (·.d)) (ys.map (·.v)) (ys.map (·.L)).flatten
 | [],_=>.nil
 | y::ys,h=>.cons (h y GX) (lJ λz hz=>h z (GY _ hz))
theorem fE (h:c∈(ys.map (·.L)).flatten):c9 ys c:=by
 obtain ⟨l,b,a⟩:=List.mem_flatten.mp h
 obtain ⟨y,d,rfl⟩:=Hg.mp b
 exact #[y,d,a]
noncomputable def se (mk:List D->D) (f:Fl) (ms:M3 (List R3)):EM:=af ms λrs=>af (gives rs) λds=>bc (if ds.length<=16777216 then some (.val (mk ds) f) else none)
abbrev jd:M3 (List R3)->EM:=se .tup .z
abbrev fF:M3 (List R3)->EM:=se .lst .u
theorem bf (h:H p=none):Same H (upd H p o):=λb u e=>by
 rw[aq (aN e h)];exact e
theorem Ep (hz:(16777216:Nat)=sizeLine) (h:tE K G0 W0 (jd ms) Y H Q):tTup (tA K G0 W0 ms) Y H Q:=by
 refine h.use λG W le Z T g o Z' w e q=>?_
 refine tA.seq le w e q.err λrs Z1 e1 r H1 Ts g1 n a1=>?_
 obtain ⟨ds,Z2,g2,k,_,j,_,ys,i,f1,f2⟩:=a1.gives n e1
 obtain ⟨v,a,rfl,rfl⟩:=bJ k
 subst f1 f2
 split at a
 .rename_i m
  cases a
  refine #[by rw[Hb] at m ⊢;lia,λp f=>?_]
  refine q _ _ (Wf.doneA (x:=#[.tup (ys.map (·.d)),.ref p,(ys.map (·.L)).flatten,.z]) j i #[bf f,.tup aE ((lJ λy b=>(j.itm (i y b).1).rep).same (bf f)),λc l=>.inr (fE l),λhf=>absurd rfl hf])
 .exact nsE a
theorem Et (hz:(16777216:Nat)=sizeLine) (h:tE K G0 W0 (fF ms) Y H Q):tLst (tA K G0 W0 ms) Y H Q:=by
 refine h.use λG W le Z T g o Z' w e q=>?_
 refine tA.seq le w e q.err λrs Z1 e1 s H1 Ts g1 r a1=>?_
 obtain ⟨ds,Z2,g2,m,_,k,_,ys,i,f1,f2⟩:=a1.gives r e1
 obtain ⟨v,f,rfl,rfl⟩:=bJ m
 subst f1 f2
 split at f
 .rename_i n
  cases f
  refine #[by rw[Hb] at n ⊢;lia,λp b=>?_]
  have np:p ∉ (ys.map (·.L)).flatten:=λa=>by
   obtain ⟨y,hm,a⟩:=fE a
   obtain ⟨o,l⟩:=((k.itm (i y hm).1).rep.inH p a).ex
   rw[b] at l;exact nsE l
  refine q _ _ (Wf.doneA (x:=#[.lst (ys.map (·.d)),.ref p,p::(ys.map (·.L)).flatten,.u]) k i #[bf b,.lst aE ((lJ λy j=>(k.itm (i y j).1).rep).same (bf b)),λc a=>?_,λ_=>#[rfl,p,_,rfl,rfl,np,b]])
  rcases G6.mp a with e | a
  .rw[e];exact .inl b
  .exact .inr (fE a)
 .exact nsE f
end
section
variable {K:FG} {G G0:Gm} {W W0:D->Sto->Prop} {H H':Hp} {Y:St} {Z Z':Sto} {T T':List It3} {g:Nat->Option It3} {x y z:It3} {α β:Type}
def EndS (K:FG) (G:Gm) (W:D->Sto->Prop) (T:List It3) (Z':Sto) (E:Ends):Except D Flw->Prop
 | .ok .nx=>∀ Y' H' g',Wf K G H' Y' Z' T g'->E.nx Y' H'
 | .ok .br=>∀ Y' H' g',Wf K G H' Y' Z' T g'->E.bk Y' H'
 | .ok .ct=>∀ Y' H' g',Wf K G H' Y' Z' T g'->E.ct Y' H'
 | .ok (.rt d f)=>∀ x Y' H' g',Wf K G H' Y' Z' (x::T) g'->x.d=d->x.f=f->E.rt x.v H'
 | .error e=>W e Z'
theorem EndS.err (h:EndS K G W T Z' E r):∀ x,r=.error x->W x Z':=by
 intro x e;subst e;exact h
theorem tS.open (h:tS K G0 W0 m E Y H):∃ G W,Le K G W G0 W0/\∃ Z T g r Z',Wf K G H Y Z T g/\m Z=some (r,Z')/\EndS K G W T Z' E r:=by
 obtain ⟨G,W,le,Z,T,g,r,Z',w,e,q⟩:=h
 refine #[G,W,le,Z,T,g,r,Z',w,e,?_]
 cases r with
 | ok r=>cases r <;> exact q
 | error x=>exact q
theorem tS.use (h:tS K G0 W0 m E Y H) {P:Prop} (k:∀ G W,Le K G W G0 W0->∀ Z T g r Z',Wf K G H Y Z T g->m Z=some (r,Z')->EndS K G W T Z' E r->P):P:=by
 obtain ⟨G,W,le,Z,T,g,r,Z',w,e,q⟩:=h.open
 exact k G W le Z T g r Z' w e q
theorem tS.mk (le:Le K G W G0 W0) (w:Wf K G H Y Z T g) (e:m Z=some (r,Z')) (h:EndS K G W T Z' E r):tS K G0 W0 m E Y H:=by
 refine #[G,W,le,Z,T,g,r,Z',w,e,?_]
 cases r with
 | ok r=>cases r <;> exact h
 | error x=>exact h
def dI:SM:=aT .nx
noncomputable def aC (a b:SM):SM:=af a λf=>match f with
 | .nx=>b
 | o=>aT o
theorem Eh (h:tS K G0 W0 dI E Y H):Do E Y H:=by
 refine h.use λG W le Z T g r Z' w e q=>?_
 cases e
 exact q _ _ _ w
theorem Ee (h:tS K G0 W0 (aC a b) E Y H):tSeq (tS K G0 W0 a) (tS K G0 W0 b) E Y H:=by
 refine h.use λG W le Z T g r Z' w e q=>?_
 unfold aC af at e
 cases p:a Z with
 | none=>rw[p] at e;exact nsE e
 | some p' =>
  obtain ⟨o,Z1⟩:=p'
  rw[p] at e
  cases o with
  | error x=>cases e;exact tS.mk le w p q
  | ok f =>
   cases f with
   | nx=>exact tS.mk le (r:=.ok .nx) w p λY' H' g' c=>tS.mk le c e q
   | br=>cases e;exact tS.mk le w p q
   | ct=>cases e;exact tS.mk le w p q
   | rt d f=>cases e;exact tS.mk le w p q
def cH (m:EM):SM:=af m λ_=>aT .nx
theorem Bw (h:tS K G0 W0 (cH m) E Y H):Dp (tE K G0 W0 m) E Y H:=by
 refine h.use λG W le Z T g r Z' w e q=>?_
 refine tE.seq le w e q.err λra Z1 e1 v H1 #[Ts,g1,a,a1]=>?_
 cases e1
 exact q _ _ _ (a.sub (Hf Ts T))
def sIf (c:M3 Bool) (a b:SM):SM:=af c λt=>if t then a else b
theorem tS_if (h:tS K G0 W0 (sIf c a b) E Y H):tIfS (tT K G0 W0 c) (tS K G0 W0 a) (tS K G0 W0 b) E Y H:=by
 refine h.use λG W le Z T g r Z' w e q=>?_
 refine tT.seq le w e q.err λt Z1 e1 H1 g1 d=>?_
 cases t with
 | true=>exact tS.mk le d e1 q
 | false=>exact tS.mk le d e1 q
def nol:Fl->Fl
 | .u=>.u
 | _=>.z
theorem FX (f:Fl):nol f≠.l:=by cases f <;> intro h <;> cases h
theorem FW (f:Fl):nol f=f\/nol f=.z:=by cases f <;> first | exact .inl rfl | exact .inr rfl
noncomputable def dO (r:R3):M3 (D×Fl):=match r with
 | .val d f=>aT (d,nol f)
 | .pl i=>λZ=>((Z[i]?).join).map λp=>(.ok (p.1,.z),lowAt i Z)
theorem qL {i:Nat}:dO (.pl i) Z=((Z[i]?).join).map λp=>(.ok (p.1,.z),lowAt i Z):=rfl
theorem Ar.val_inv (a:Ar Y (.val d f) v Ts):∃ x,Ts=[x]/\x.d=d/\x.f=f/\x.v=v:=by
 generalize h:R3.val d f=r at a
 cases a with
 | pl _=>cases h
 | val x=>cases h;exact #[x,rfl,rfl,rfl,rfl]
theorem Ar.take (w:Wf K G H Y Z (Ts++T) g) (a:Ar Y r v Ts) (e:af (dO r) k Z=some (o,Z')) :
  ∃ p Z1 g1 x,k p Z1=some (o,Z')/\Wf K G H Y Z1 (x::T) g1/\x.d=p.1/\(p.2=x.f\/p.2=.z)/\p.2≠.l/\x.v=v:=by
 cases a with
 | val x=>exact #[(x.d,nol x.f),Z,g,x,e,w,rfl,FW _,FX _,rfl]
 | @pl i v h =>
  unfold af at e
  rw[qL] at e
  cases q:(Z[i]?).join with
  | none=>rw[q] at e;exact nsE e
  | some p =>
   rw[q] at e
   obtain ⟨y,I,E,J,B⟩:=w.slot (d:=p.1) (f:=p.2) q
   obtain ⟨g1,b,h1⟩:=w.lowAt (i:=i)
   obtain ⟨c,n,t,C⟩:=h1 i y I
   have hz:=C rfl
   refine #[(p.1,.z),_,g1,c,e,?_,t.1.trans E,.inr rfl,(by intro h;cases h),?_]
   .have s:∀ u:It3,NoRoot c u:=λu hf=>absurd hz hf
    refine #[b.len,b.sl,b.sv,b.okS,λu hu=>?_,b.ss,λj u m F hu=>?_,?_,b.base,b.pro,#[λu hu hf a D=>?_,b.fx.frS,b.fx.bin,b.fx.ob,b.fx.lvS]]
    .rcases G6.mp hu with h | hu
     .rw[h];exact b.okS i c n
     .exact b.okT u hu
    .rcases G6.mp hu with h | hu
     .rw[h]
      refine #[?_,s _]
      by_cases A:j=i
      .subst A
       rw[n] at m;cases m
       exact s _
      .exact b.ss j i u c A m n
     .exact b.st j u m F hu
    .exact List.pairwise_cons.mpr #[λu hu=>#[s _,(b.st i c n u hu).2],b.tt]
    .rcases G6.mp hu with h | hu
     .rw[h] at hf;exact absurd hz hf
     .exact b.fx.frT u hu hf a D
   .rw[t.2.1]
    rw[h] at B;cases B;rfl
theorem Wf.store {i:Nat} (w:Wf K G H Y Z (x::T) g) (hi:i < Z.length) (I:G.pr i=false) (hf:f=x.f\/f=.z) (r:f≠.l) :
  Wf K G H (Y.set i (some x.v)) (Z.set i (some (x.d,f))) T (λj=>if j=i then some { x with f:=f } else g j):=by
 have B:i < Y.length:=by rw[w.len];exact hi
 have y:=List.pairwise_cons.mp w.tt
 have A:=w.okT x GX
 have nx:∀ u:It3,NoRoot x u->NoRoot { x with f:=f } u:=λu h q=>by
  rcases hf with e | e
  .exact h (by rw[<- e];exact q)
  .exact absurd e q
 have val:∀ j u,(if j=i then some { x with f:=f } else g j)=some u->(j=i/\u={ x with f:=f })\/(j≠i/\g j=some u):=λj u h=>by
  by_cases q:j=i
  .rw[if_pos q] at h;cases h;exact .inl #[q,rfl]
  .rw[if_neg q] at h;exact .inr #[q,h]
 refine #[by rw[List.length_set,List.length_set];exact w.len,λj=>?_,λj u h=>?_,λj u h=>?_,λu hu=>w.okT u (GY _ hu),λj k a b n h1 h2=>?_,λj a h b s=>?_,y.2,w.base,λj C=>?_,#[λu hu=>w.fx.frT u (GY _ hu),λj u h t c a p=>?_,w.fx.bin,w.fx.ob,λj u h F=>?_]]
 .rw[cW hi]
  by_cases q:j=i
  .rw[if_pos q,if_pos q];rfl
  .rw[if_neg q,if_neg q];exact w.sl j
 .rcases val j u h with ⟨rfl,rfl⟩ | ⟨n,h⟩
  .rw[List.getElem?_set_self B]
  .rw[List.getElem?_set_ne (λz=>n z.symm)];exact w.sv j u h
 .rcases val j u h with ⟨rfl,rfl⟩ | ⟨n,h⟩
  .refine #[A.rep,λq=>?_,A.src]
   rcases hf with e | e
   .subst e
    exact A.own q
   .exact absurd e q
  .exact w.okS j u h
 .rcases val j a h1 with ⟨L,p⟩ | ⟨M,o⟩
  .rcases val k b h2 with ⟨D,E⟩ | ⟨J,m⟩
   .exact absurd (L.trans D.symm) n
   .rw[p];exact nx b (w.st k b m x GX).2
  .rcases val k b h2 with ⟨D,E⟩ | ⟨J,m⟩
   .rw[E];exact (w.st j a o x GX).1
   .exact w.ss j k a b n o m
 .rcases val j a h with ⟨rfl,rfl⟩ | ⟨n,h⟩
  .exact #[nx b (y.1 b s).1,(y.1 b s).2]
  .exact w.st j a h b (GY _ s)
 .have n:j≠i:=λz=>by subst z;rw[I] at C;cases C
  rw[List.getElem?_set_ne (λz=>n z.symm)];exact w.pro j C
 .rcases val j u h with ⟨_,rfl⟩ | ⟨n,h⟩
  .rcases hf with e | e
   .exact w.fx.frT x GX (by rw[<- e];exact c) a p
   .exact absurd e c
  .exact w.fx.frS j u h t c a p
 .rcases val j u h with ⟨_,rfl⟩ | ⟨n,h⟩
  .exact absurd F r
  .exact w.fx.lvS j u h F
def aZ (i:Nat) (m:EM):SM:=af m λr=>af (dO r) λp=>λZ=>if i < Z.length then some (.ok .nx,Z.set i (some p)) else none
theorem Ed {i:Nat} (c:G0.pr i=false) (h:tS K G0 W0 (aZ i m) E Y H):yx (tE K G0 W0 m) (vN i) E Y H:=by
 refine h.use λG W le Z T g r Z' w e q=>?_
 refine tE.seq le w e q.err λra Z1 e1 v H1 #[Ts,g1,j,a1]=>?_
 obtain ⟨p,Z2,g2,x,a,d,f1,f2,f4,b⟩:=a1.take j e1
 split at a
 .rename_i hi
  cases a
  have:=d.store (f:=p.2) hi (by rw[le.pr];exact c) f2 f4
  rw[f1,b] at this
  exact q _ _ _ this
 .exact nsE a
def aR (np:Nat) (m:EM):SM:=af m λr=>match r with
 | .val d f=>aT (.rt d f)
 | .pl i=>λZ=>match (Z[i]?).join with
  | some (d,.u)=>if i < np then some (.ok (.rt d .z),lowAt i Z) else some (.ok (.rt d .u),Z.set i none)
  | some (d,_)=>some (.ok (.rt d .z),lowAt i Z)
  | none=>none
def uY:SM:=aT (.rt .non .z)
theorem Wf.move {i:Nat} (w:Wf K G H Y Z T g) (f:G.pr i=false) (e:g i=some y):Wf K G H Y (Z.set i none) (y::T) (λj=>if j=i then none else g j):=by
 have hi:i < Z.length:=by
  have:=w.sl i
  rw[e] at this
  exact gi this.symm
 have val:∀ j u,(if j=i then none else g j)=some u->j≠i/\g j=some u:=λj u h=>by
  grind
 refine #[by rw[List.length_set];exact w.len,λj=>?_,λj u h=>w.sv j u (val j u h).2,λj u h=>w.okS j u (val j u h).2,λu hu=>?_,λj k a b n h1 h2=>w.ss j k a b n (val j a h1).2 (val k b h2).2,λj a h b c=>?_,?_,w.base,w.pro,#[λu hu hf a d=>?_,λj u h=>w.fx.frS j u (val j u h).2,w.fx.bin,w.fx.ob,λj u h=>w.fx.lvS j u (val j u h).2]]
 .rw[cW hi]
  by_cases q:j=i
  .rw[if_pos q,if_pos q];rfl
  .rw[if_neg q,if_neg q];exact w.sl j
 .rcases G6.mp hu with h | hu
  .rw[h];exact w.okS i y e
  .exact w.okT u hu
 .obtain ⟨n,h⟩:=val j a h
  rcases G6.mp c with h' | c
  .rw[h'];exact #[w.ss j i a y n h e,w.ss i j y a (Ne.symm n) e h]
  .exact w.st j a h b c
 .exact List.pairwise_cons.mpr #[λu hu=>w.st i y e u hu,w.tt]
 .rcases G6.mp hu with h | hu
  .subst h;exact w.fx.frS i u e f hf a d
  .exact w.fx.frT u hu hf a d
theorem Ef {np:Nat} (n:∀ i,np<=i->G0.pr i=false) (h:tS K G0 W0 (aR np m) E Y H):tRet (tE K G0 W0 m) E Y H:=by
 refine h.use λG W le Z T g r Z' w e q=>?_
 refine tE.seq le w e q.err λra Z1 e1 v H1 #[Ts,g1,k,a1]=>?_
 have low:∀ {i:Nat} {d:D} {f:Fl},(Z1[i]?).join=some (d,f)->some ((.ok (.rt d .z),lowAt i Z1):Except D Flw×Sto)=some (r,Z')->Ar Y (.pl i) v Ts->E.rt v H1:=λ{i d f} b B a=>by
  cases B
  have A:af (dO (.pl i)) (λp=>aT (Flw.rt p.1 p.2)) Z1=some (.ok (.rt d .z),L3.lowAt i Z1):=by
   unfold af
   rw[qL,b]
   rfl
  obtain ⟨p,Z2,g2,x,j,o,f1,f2,_,L⟩:=a.take k A
  have c:Flw.rt p.1 p.2=Flw.rt d .z/\Z2=L3.lowAt i Z1:=by
   unfold aT at j
   injection j with j
   injection j with c s
   injection c with c
   exact #[c,s]
  obtain ⟨c,s⟩:=c
  injection c with e7 e8
  subst s
  rw[<- L]
  have C:=Wf.lowT (Ts:=[x]) o
  exact q (dm x) Y H1 g2 C (f1.trans e7) rfl
 cases a1 with
 | val x=>cases e1;exact q x Y H1 g1 k rfl rfl
 | @pl i v h =>
  dsimp only at e1
  cases b:(Z1[i]?).join with
  | none=>rw[b] at e1;exact nsE e1
  | some p =>
   obtain ⟨d,f⟩:=p
   rw[b] at e1
   cases f with
   | u =>
    dsimp only at e1
    split at e1
    .exact low b e1 (.pl h)
    .cases e1
     obtain ⟨y,J,F,I,t⟩:=k.slot b
     have o:=Wf.move k (by rw[le.pr];exact n i (by lia)) J
     have:=q y Y H1 _ o F I
     rw[h] at t
     cases t
     exact this
   | l=>exact low b e1 (.pl h)
   | z=>exact low b e1 (.pl h)
def b6 (c:M3 Bool) (b:SM):Nat->SM
 | 0=>λ_=>none
 | n+1=>af c λt=>if t then af b (λf=>match f with
   | .nx=>b6 c b n
   | .ct=>b6 c b n
   | .br=>aT .nx
   | .rt d f=>aT (.rt d f)) else aT .nx
def iw (c:M3 Bool) (b:SM):SM:=λZ=>open Classical in if h:∃ n r,b6 c b n Z=some r then some (Classical.choose (Classical.choose_spec h)) else none
theorem ik:∀ {n:Nat} {Z:Sto} {r:Except D Flw×Sto},b6 c b n Z=some r->b6 c b (n+1) Z=some r
 | 0,Z,r,e=>by cases e
 | n+1,Z,r,e=>by
  unfold b6 at e ⊢
  unfold af at e ⊢
  cases h:c Z with
  | none=>rw[h] at e;exact nsE e
  | some p =>
   obtain ⟨o,Z1⟩:=p
   rw[h] at e
   cases o with
   | error x=>exact e
   | ok t =>
    cases t with
    | false=>exact e
    | true =>
     simp only[if_true] at e ⊢
     cases h2:b Z1 with
     | none=>rw[h2] at e;exact nsE e
     | some p2 =>
      obtain ⟨a,Z2⟩:=p2
      rw[h2] at e
      cases a with
      | error x=>exact e
      | ok f =>
       cases f with
       | nx=>exact ik (n:=n) e
       | ct=>exact ik (n:=n) e
       | br=>exact e
       | rt d f=>exact e
theorem kb {n m:Nat} (h:n<=m) (e:b6 c b n Z=some r):b6 c b m Z=some r:=by
 induction h with
 | refl=>exact e
 | step _ ih=>exact ik ih
theorem qX (e:iw c b Z=some r):∃ n,b6 c b n Z=some r:=by
 unfold iw at e
 split at e
 .grind
 .exact nsE e
theorem yp (h:tS K G0 W0 (iw c b) E Y H):yo (tT K G0 W0 c) (tS K G0 W0 b) E Y H:=by
 refine h.use λG W le Z T g r Z' w e q=>?_
 obtain ⟨n,e⟩:=qX e
 refine #[λm Y H=>∃ Z g,Wf K G H Y Z T g/\b6 c b m Z=some (r,Z'),#[n,Z,g,w,e],?_]
 rintro m Y1 H1 ⟨Z1,g1,k,e1⟩
 cases m with
 | zero=>exact nsE e1
 | succ m =>
  unfold b6 at e1
  refine tT.seq le k e1 q.err λt Z2 a H2 g2 i=>?_
  cases t with
  | false=>cases a;exact q _ _ _ i
  | true =>
   refine #[λY H=>∃ Z g,Wf K G H Y Z T g/\b6 c b m Z=some (r,Z'),λY' H' h=>#[m,Nat.lt_succ_self m,h],?_]
   simp only[if_true] at a
   unfold af at a
   cases p:b Z2 with
   | none=>rw[p] at a;exact nsE a
   | some p2 =>
    obtain ⟨o,Z3⟩:=p2
    rw[p] at a
    cases o with
    | error x=>cases a;exact tS.mk le i p q
    | ok f =>
     cases f with
     | nx=>exact tS.mk le (r:=.ok .nx) i p λY' H' g' j=>#[Z3,g',j,a]
     | ct=>exact tS.mk le (r:=.ok .ct) i p λY' H' g' j=>#[Z3,g',j,a]
     | br=>cases a;exact tS.mk le (r:=.ok .br) i p q
     | rt d f=>cases a;exact tS.mk le (r:=.ok (.rt d f)) i p q
end
abbrev Fn:=List (D×Fl)->Option (Except D (D×Fl)×List (D×Fl))
def prs (Z:Sto):List R3->Option (List (D×Fl))
 | []=>some []
 | .pl i::rs=>match (Z[i]?).join,prs Z rs with
  | some p,some ps=>some (p::ps)
  | _,_=>none
 | .val d f::rs=>match prs Z rs with
  | some ps=>some ((d,f)::ps)
  | _=>none
def eE (rs:List R3):List Nat:=(pls rs).filter λi=>decide (2<=(pls rs).count i)
def back:List R3->List (D×Fl)->List (D×Fl)->Sto->Sto
 | .pl i::rs,p::ps,q::qs,Z=>back rs ps qs (if p.2=.z then Z else Z.set i (some (q.1,if q.2=.z then .z else p.2)))
 | .val _ _::rs,_::ps,_::qs,Z=>back rs ps qs Z
 | _,_,_,Z=>Z
def ib (F:Fn) (ms:M3 (List R3)):EM:=af ms λrs=>λZ=>match prs (frz (eE rs) Z) rs with
 | none=>none
 | some ps=>match F ps with
  | none=>none
  | some (.ok p,qs)=>if qs.length=ps.length then some (.ok (.val p.1 p.2),back rs ps qs (frz (eE rs) Z)) else none
  | some (.error e,qs)=>if qs.length=ps.length then some (.error e,back rs ps qs (frz (eE rs) Z)) else none
section
variable {K:FG} {G G0:Gm} {W W0:D->Sto->Prop} {H H':Hp} {Y:St} {Z Z':Sto} {T T':List It3} {g:Nat->Option It3} {x y z:It3} {α β:Type}
structure Back1 (K:FG) (H H':Hp) (ps:List It3) (p q:It3):Prop where
 z:p.f=.z->q=p
 v:q.v=p.v
 f:q.f=p.f\/q.f=.z
 arg:Arg K H' q
 src:∀ c∈q.L,H c=none\/c9 ps c
 there:p.f=.u->∀ b,p.v=.ref b->∃ o,H' b=some o
structure BehindX (K:FG) (H H':Hp) (ps qs:List It3):Prop where
 frame:∀ b o,H b=some o->(∀ p∈ps,p.f=.u->p.v≠.ref b)->H' b=some o
 back:Paired (Back1 K H H' ps) ps qs
 apart:qs.Pairwise Apart3
structure Behind (K:FG) (H H':Hp) (ps qs:List It3) (x:It3):Prop extends BehindX K H H' ps qs where
 rep:Rep K H' x.d x.v x.L
 own:x.f≠.z->jV x.d=true/\∃ a L',x.v=.ref a/\x.L=a::L'/\a ∉ L'/\H a=none
 src:∀ c∈x.L,H c=none\/c9 ps c
 apx:∀ q∈qs,Apart3 x q
def spF (XA:D->Value->Option Addr->Hp->Prop) (K:FG) (F:Fn):Sp:=λa H Q E=>∃ (ps:List It3) (o:Except D (D×Fl)) (fs:List (D×Fl)),a=ps.map (·.v)/\(∀ p∈ps,Arg K H p)/\ps.Pairwise Apart3/\F (ps.map λp=>(p.d,p.f))=some (o,fs)/\match o with
 | .ok p=>∀ x qs H',Behind K H H' ps qs x->x.d=p.1->x.f=p.2->qs.map (λq=>(q.d,q.f))=fs->Q x.v H'
 | .error e=>∀ qs H' cls da,BehindX K H H' ps qs->qs.map (λq=>(q.d,q.f))=fs->XA e cls da H'->E cls da H'
theorem Ars.args:∀ {rs:List R3} {F:List V} {Ts T:List It3} {c:List (D×Fl)},Ars Y rs F Ts->Wf K G H Y Z (Ts++T) g->(∀ i,2<=(pls rs).count i->∀ y,g i=some y->y.f=.z)->prs Z rs=some c ->
  ∃ ps:List It3,ps.map (λp=>(p.d,p.f))=c/\ps.map (·.v)=F/\ps.Pairwise Apart3/\(∀ p∈ps,(∃ i,R3.pl i∈rs/\g i=some p)\/p∈Ts)/\Paired (λr p=>match r with | .pl i=>g i=some p | .val _ _=>p∈Ts) rs ps
 | [],_,_,T,c,.nil,w,_,e=>by cases e;exact #[[],rfl,rfl,.nil,λ_ h=>(by cases h),.nil]
 | r::rs,_,_,T,c,.cons (v:=v0) (Ts:=T0) (Us:=φ0) a as,w,hd,e=>by
  have E:Wf K G H Y Z (φ0++(T0++T)) g:=by rw[<- List.append_assoc];exact w
  have o:∀ i,2<=(pls rs).count i->∀ y,g i=some y->y.f=.z:=λi s=>hd i (by
   cases r with
   | pl j=>show 2<=(j::pls rs).count i;rw[List.count_cons];lia
   | val _ _=>exact s)
  cases a with
  | @pl i v h =>
   unfold prs at e
   cases q:(Z[i]?).join with
   | none=>rw[q] at e;exact nsE e
   | some p0 =>
    cases l:prs Z rs with
    | none=>rw[q,l] at e;exact nsE e
    | some pfs' =>
     rw[q,l] at e
     cases e
     obtain ⟨ps,f1,f2,B,f4,t⟩:=Ars.args as E o l
     obtain ⟨y,m,I,L,C⟩:=w.slot (d:=p0.1) (f:=p0.2) q
     have J:y.v=v0:=by rw[h] at C;cases C;rfl
     refine #[y::ps,by rw[Hm,f1,I,L],by rw[Hm,f2,J],List.pairwise_cons.mpr #[λp b=>?_,B],λp b=>?_,.cons m ?_]
     .rcases f4 p b with ⟨j,n,k⟩ | b
      .by_cases u:i=j
       .subst u
        have s:2<=(pls (R3.pl i::rs)).count i:=by
         show 2<=(i::pls rs).count i
         rw[List.count_cons_self]
         have:=List.count_pos_iff.mpr (lM n)
         lia
        have hz:=hd i s y m
        have A:=hd i s p k
        exact #[λq=>absurd hz q,λq=>absurd A q]
       .exact #[w.ss i j y p u m k,w.ss j i p y (Ne.symm u) k m]
      .exact w.st i y m p (G4 _ (G4 _ b))
     .rcases G6.mp b with h' | b
      .rw[h'];exact .inl #[i,GX,m]
      .rcases f4 p b with ⟨j,n,k⟩ | b
       .exact .inl #[j,GY _ n,k]
       .exact .inr (G4 _ b)
     .exact Paired.mapP t λr p h=>by
       cases r with
       | pl j=>exact h
       | val _ _=>exact G4 _ h
  | val x =>
   unfold prs at e
   cases l:prs Z rs with
   | none=>rw[l] at e;exact nsE e
   | some pfs' =>
    rw[l] at e
    cases e
    obtain ⟨ps,f1,f2,B,f4,t⟩:=Ars.args as E o l
    refine #[x::ps,by rw[Hm,f1],by rw[Hm,f2],List.pairwise_cons.mpr #[λp b=>?_,B],λp b=>?_,.cons (G5 _ GX) ?_]
    .rcases f4 p b with ⟨j,n,k⟩ | b
     .exact (w.st j p k x (G4 _ (G5 _ GX))).symm
     .have t1:=(List.pairwise_append.mp w.tt).1
      exact ((List.pairwise_append.mp t1).2.2 p b x GX).symm
    .rcases G6.mp b with h' | b
     .rw[h'];exact .inr (G5 _ GX)
     .rcases f4 p b with ⟨j,n,k⟩ | b
      .exact .inl #[j,GY _ n,k]
      .exact .inr (G4 _ b)
    .exact Paired.mapP t λr p h=>by
      cases r with
      | pl j=>exact h
      | val _ _=>exact G4 _ h
theorem gr:∀ {rs:List R3} {ps qs:List It3} {Z:Sto} {g:Nat->Option It3},(∀ j,(g j).map (λx=>(x.d,x.f))=(Z[j]?).join)->rs.length=ps.length->Paired (Back1 K H H' T) ps qs->(∀ i,R3.pl i∈rs->i < Z.length) ->
  ∃ g':Nat->Option It3,(∀ j,(g' j).map (λx=>(x.d,x.f))=((back rs (ps.map λp=>(p.d,p.f)) (qs.map λq=>(q.d,q.f)) Z)[j]?).join)/\(back rs (ps.map λp=>(p.d,p.f)) (qs.map λq=>(q.d,q.f)) Z).length=Z.length /\
   ∀ j:Nat,(g' j=g j/\∀ (k:Nat) (p:It3),rs[k]?=some (R3.pl j)->ps[k]?=some p->p.f=.z)\/∃ (k:Nat) (p q:It3),rs[k]?=some (R3.pl j)/\ps[k]?=some p/\qs[k]?=some q/\p.f≠.z/\g' j=some q
 | [],[],_,Z,g,hg,_,.nil,_=>#[g,hg,rfl,λj=>.inl #[rfl,λk p h=>by simp at h]]
 | [],_::_,_,_,_,_,h,_,_=>by cases h
 | _::_,[],_,_,_,_,h,_,_=>by cases h
 | .val d f::rs,p::ps,_,Z,g,hg,hl,.cons (b:=q) (l₂:=qs) b1 bs,hi=>by
  obtain ⟨g',h1,h2,h3⟩:=gr (rs:=rs) hg (by simpa using hl) bs λi h=>hi i (GY _ h)
  refine #[g',h1,h2,λj=>?_]
  rcases h3 j with ⟨e,h⟩ | ⟨k,a,l,a1,a2,a3,a4⟩
  .refine .inl #[e,λk a e1 c=>?_]
   cases k with
   | zero=>simp at e1
   | succ k=>exact h k a (by simpa using e1) (by simpa using c)
  .exact .inr #[k+1,a,l,by simpa using a1,by simpa using a2,by simpa using a3,a4]
 | .pl i::rs,p::ps,_,Z,g,hg,hl,.cons (b:=q) (l₂:=qs) b1 bs,hi=>by
  have o:=hi i GX
  by_cases hz:p.f=.z
  .have n:back (.pl i::rs) ((p::ps).map λp=>(p.d,p.f)) ((q::qs).map λq=>(q.d,q.f)) Z=back rs (ps.map λp=>(p.d,p.f)) (qs.map λq=>(q.d,q.f)) Z:=by
    show back rs _ _ (if p.f=.z then Z else _)=_
    rw[if_pos hz]
   rw[n]
   obtain ⟨g',h1,h2,h3⟩:=gr (rs:=rs) hg (by simpa using hl) bs λi h=>hi i (GY _ h)
   refine #[g',h1,h2,λj=>?_]
   rcases h3 j with ⟨e,h⟩ | ⟨k,a,l,a1,a2,a3,a4⟩
   .refine .inl #[e,λk a e1 c=>?_]
    cases k with
    | zero=>simp at c;rw[<- c];exact hz
    | succ k=>exact h k a (by simpa using e1) (by simpa using c)
   .exact .inr #[k+1,a,l,by simpa using a1,by simpa using a2,by simpa using a3,a4]
  .have n:back (.pl i::rs) ((p::ps).map λp=>(p.d,p.f)) ((q::qs).map λq=>(q.d,q.f)) Z=back rs (ps.map λp=>(p.d,p.f)) (qs.map λq=>(q.d,q.f)) (Z.set i (some (q.d,q.f))):=by
    show back rs _ _ (if p.f=.z then Z else Z.set i (some (q.d,if q.f=.z then .z else p.f)))=_
    rw[if_neg hz]
    have:(if q.f=.z then Fl.z else p.f)=q.f:=by
     by_cases h:q.f=.z
     .rw[if_pos h,h]
     .rw[if_neg h]
      rcases b1.f with h' | h'
      .exact h'.symm
      .exact absurd h' h
    rw[this]
   rw[n]
   obtain ⟨g',h1,h2,h3⟩:=gr (rs:=rs) (Z:=Z.set i (some (q.d,q.f))) (g:=λj=>if j=i then some q else g j) (λj=>by
    rw[cW o]
    by_cases e:j=i
    .rw[if_pos e,if_pos e];rfl
    .rw[if_neg e,if_neg e];exact hg j) (by simpa using hl) bs λi h=>by rw[List.length_set];exact hi i (GY _ h)
   refine #[g',h1,by rw[h2,List.length_set],λj=>?_]
   rcases h3 j with ⟨e,h⟩ | ⟨k,a,l,a1,a2,a3,a4⟩
   .by_cases m:j=i
    .rw[if_pos m] at e
     exact .inr #[0,p,q,by simp[m],rfl,rfl,hz,e]
    .rw[if_neg m] at e
     refine .inl #[e,λk a e1 c=>?_]
     cases k with
     | zero=>simp at e1;exact absurd e1.symm m
     | succ k=>exact h k a (by simpa using e1) (by simpa using c)
   .exact .inr #[k+1,a,l,by simpa using a1,by simpa using a2,by simpa using a3,a4]
theorem pF:∀ {rs:List R3} {a:List (D×Fl)},prs Z rs=some a->rs.length=a.length
 | [],a,e=>by cases e;rfl
 | .pl i::rs,a,e=>by
  unfold prs at e
  cases q:(Z[i]?).join with
  | none=>rw[q] at e;exact nsE e
  | some p =>
   cases b:prs Z rs with
   | none=>rw[q,b] at e;exact nsE e
   | some ps=>rw[q,b] at e;cases e;rw[Hu,Hu,pF b]
 | .val d f::rs,a,e=>by
  unfold prs at e
  cases b:prs Z rs with
  | none=>rw[b] at e;exact nsE e
  | some ps=>rw[b] at e;cases e;rw[Hu,Hu,pF b]
theorem tW:∀ {rs:List R3} {a:List (D×Fl)},prs Z rs=some a->∀ i,R3.pl i∈rs->i < Z.length
 | [],a,e,i,h=>by cases h
 | .pl i::rs,a,e,j,h=>by
  unfold prs at e
  cases q:(Z[i]?).join with
  | none=>rw[q] at e;exact nsE e
  | some p =>
   cases b:prs Z rs with
   | none=>rw[q,b] at e;exact nsE e
   | some ps =>
    rcases G6.mp h with h | h
    .cases h;exact gi q
    .exact tW b j h
 | .val d f::rs,a,e,j,h=>by
  unfold prs at e
  cases b:prs Z rs with
  | none=>rw[b] at e;exact nsE e
  | some ps =>
   rcases G6.mp h with h | h
   .cases h
   .exact tW b j h
theorem Paired.at:∀ {l:List α} {m:List β} {k:Nat} {a:α} {b:β},Paired F l m->l[k]?=some a->m[k]?=some b->F a b
 | _,_,_,_,_,.nil,h,_=>by simp at h
 | _,_,0,_,_,.cons r _,h,h'=>by simp at h h';subst h h';exact r
 | _,_,k+1,_,_,.cons _ t,h,h'=>Paired.at (k:=k) t (by simpa using h) (by simpa using h')
theorem Paired.exL:∀ {l:List α} {m:List β} {k:Nat} {a:α},Paired F l m->l[k]?=some a->∃ b,m[k]?=some b/\F a b
 | _,_,_,_,.nil,h=>by simp at h
 | _,_,0,_,.cons r _,h=>by simp at h;subst h;exact #[_,rfl,r]
 | _,_,k+1,_,.cons _ t,h=>let #[b,h1,h2]:=Paired.exL (k:=k) t (by simpa using h);#[b,by simpa using h1,h2]
theorem Paired.exR:∀ {l:List α} {m:List β} {k:Nat} {b:β},Paired F l m->m[k]?=some b->∃ a,l[k]?=some a/\F a b
 | _,_,_,_,.nil,h=>by simp at h
 | _,_,0,_,.cons r _,h=>by simp at h;subst h;exact #[_,rfl,r]
 | _,_,k+1,_,.cons _ t,h=>let #[b,h1,h2]:=Paired.exR (k:=k) t (by simpa using h);#[b,by simpa using h1,h2]
theorem cu {R:α->α->Prop} {l:List α} (p:l.Pairwise R) (f:∀ a b,R a b->R b a) {i j:Nat} {a b:α} (n:i≠j) (c:l[i]?=some a) (d:l[j]?=some b):R a b:=by
 obtain ⟨h1,e1⟩:=Hc.mp c
 obtain ⟨h2,e⟩:=Hc.mp d
 have q:=List.pairwise_iff_getElem.mp p
 grind
theorem Wf.after (w:Wf K G H Y Z (Ts++T) g) (e:prs Z rs=some pfs) (f1:ps.map (λp=>(p.d,p.f))=pfs) (f4:∀ p∈ps,(∃ i,R3.pl i∈rs/\g i=some p)\/p∈Ts) (f5:Paired (λr p=>match r with | .pl i=>g i=some p | .val _ _=>p∈Ts) rs ps) (B:BehindX K H H' ps qs) :
  ∃ g',Wf K G H' Y (L3.back rs pfs (qs.map λq=>(q.d,q.f)) Z) T g' /\
   ∀ x,Rep K H' x.d x.v x.L->(x.f≠.z->jV x.d=true/\∃ a L',x.v=.ref a/\x.L=a::L'/\a ∉ L'/\H a=none)->(∀ c∈x.L,H c=none\/c9 ps c)->(∀ q∈qs,Apart3 x q)->Wf K G H' Y (L3.back rs pfs (qs.map λq=>(q.d,q.f)) Z) (x::T) g':=by
 subst f1
 have V:rs.length=ps.length:=by have:=pF e;rwa [Hb] at this
 obtain ⟨g',h1,h2,h3⟩:=gr (K:=K) (H:=H) (H':=H') (T:=ps) (rs:=rs) (ps:=ps) (qs:=qs) w.sl V B.back (tW e)
 have E:∀ p∈ps,Itm (Ts++T) g p:=λp l=>by
  rcases f4 p l with ⟨i,_,P⟩ | h
  .exact .inl #[i,P]
  .exact .inr (G4 _ h)
 have ρ:∀ b o,H b=some o->∃ o',H' b=some o':=λb o Q=>by
  by_cases h:∀ p∈ps,p.f=.u->p.v≠.ref b
  .exact #[o,B.frame b o Q h]
  .have h':∃ p,p∈ps/\p.f=.u/\p.v=.ref b:=by
    refine Classical.byContradiction λn=>h λp l hf I=>n #[p,l,hf,I]
   obtain ⟨p,l,hf,I⟩:=h'
   obtain ⟨k,hk,ek⟩:=List.mem_iff_getElem.mp l
   obtain ⟨q,e1,b1⟩:=Paired.exL B.back (show ps[k]?=some p by rw[G7 hk,ek])
   exact b1.there hf b I
 have ka:∀ j z,g j=some z->(∀ (k:Nat) (p:It3),rs[k]?=some (R3.pl j)->ps[k]?=some p->p.f=.z)->∀ p∈ps,Apart3 p z:=λj z ej hu p l=>by
  rcases f4 p l with ⟨i,hi,P⟩ | h
  .by_cases ij:i=j
   .subst ij
    have ae:p=z:=HJ (P.symm.trans ej)
    subst ae
    have hz:p.f=.z:=by
     obtain ⟨k,hk,ek⟩:=List.mem_iff_getElem.mp hi
     have X:rs[k]?=some (R3.pl i):=by rw[G7 hk,ek]
     obtain ⟨A,e1,D⟩:=Paired.exL f5 X
     have D:g i=some A:=D
     rw[P] at D
     cases D
     exact hu k p X e1
    exact #[λq=>absurd hz q,λq=>absurd hz q]
   .exact #[w.ss i j p z ij P ej,w.ss j i z p (Ne.symm ij) ej P]
  .exact (w.st j z ej p (G4 _ h)).symm
 have kt:∀ z∈T,∀ p∈ps,Apart3 p z:=λz hz p l=>by
  rcases f4 p l with ⟨i,hi,P⟩ | h
  .exact w.st i p P z (G5 _ hz)
  .exact (List.pairwise_append.mp w.tt).2.2 p h z hz
 have keep:∀ z,ItOk K G H z->(∀ p∈ps,Apart3 p z)->ItOk K G H' z:=λz τ φ=>by
  refine τ.keep (M:=λb=>∃ p∈ps,p.f=.u/\p.v=.ref b) (λb o Q n=>B.frame b o Q λp l hf I=>n #[p,l,hf,I]) (λb #[p,l,hf,I]=>?_) (λb Q #[p,l,hf,I]=>?_)
  .obtain ⟨_,a,L',e1,D,_⟩:=(w.itm (E p l)).own (by rw[hf];intro q;cases q)
   rw[I] at e1
   cases e1
   exact (w.itm (E p l)).rep.inH b (by rw[D];exact GX)
  .exact (φ p l).1 (by rw[hf];intro q;cases q) b I Q
 have ar:∀ k p q,ps[k]?=some p->qs[k]?=some q->ItOk K G H' q:=λk p q e1 D=>by
  have b:=Paired.at B.back e1 D
  refine #[b.arg.rep,λhf=>?_,λc R=>?_]
  .obtain ⟨m,a,L',v1,v2,v3⟩:=b.arg.own hf
   refine #[m,a,L',v1,v2,v3,λhu=>?_]
   have pf:p.f=.u:=by
    rcases b.f with h | h
    .rw[<- h];exact hu
    .rw[h] at hu;cases hu
   obtain ⟨_,a',a6,e3,_,_,e5⟩:=(w.itm (E p (He e1))).own (by rw[pf];intro q;cases q)
   rw[<- b.v,v1] at e3
   cases e3
   exact e5 pf
  .rcases b.src c R with h | ⟨A,y,h⟩
   .exact .inl (w.h0none h)
   .exact (w.itm (E A y)).src c h
 have kq:∀ z,ItOk K G H z->(∀ p∈ps,Apart3 p z)->∀ k p q,ps[k]?=some p->qs[k]?=some q->Apart3 z q:=λz τ φ k p q e1 D=>by
  have b:=Paired.at B.back e1 D
  refine #[λhf a ev hm=>?_,λhf a ev=>?_]
  .rcases b.src a hm with h | ⟨A,y,R⟩
   .obtain ⟨_,a',L',s,N,_⟩:=τ.own hf
    rw[ev] at s;cases s
    obtain ⟨o,F⟩:=(τ.rep.inH a (by rw[N];exact GX)).ex
    rw[h] at F;exact nsE F
   .exact (φ A y).2 hf a ev R
  .have pf:p.f≠.z:=λσ=>by
    have:=b.z σ
    rw[this] at hf
    exact hf σ
   exact (φ p (He e1)).1 pf a (by rw[<- b.v];exact ev)
 have old:∀ j z,g' j=some z->(g j=some z/\∀ p∈ps,Apart3 p z)\/∃ k p,rs[k]?=some (R3.pl j)/\ps[k]?=some p/\qs[k]?=some z:=λj z C=>by
  rcases h3 j with ⟨e1,hu⟩ | ⟨k,p,q,a1,a2,a3,_,a5⟩
  .rw[e1] at C
   exact .inl #[C,ka j z C hu]
  .rw[a5] at C
   cases C
   exact .inr #[k,p,a1,a2,a3]
 have wf:Wf K G H' Y (L3.back rs (ps.map λp=>(p.d,p.f)) (qs.map λq=>(q.d,q.f)) Z) T g':=by
  refine #[by rw[h2];exact w.len,h1,λj z C=>?_,λj z C=>?_,λz hz=>keep z (w.okT z (G5 _ hz)) (kt z hz),λi j a b n S eb=>?_,λj z C t J=>?_,(List.pairwise_append.mp w.tt).2.1,λb o e n=>?_,w.pro,#[λu hu=>w.fx.frT u (G5 _ hu),λj u h l hf a S=>?_,λb Q=>?_,λb o h=>?_,λj u h V=>?_]]
  .rcases old j z C with ⟨e1,_⟩ | ⟨k,p,a1,a2,a3⟩
   .exact w.sv j z e1
   .have W:g j=some p:=by
     obtain ⟨A,s,N⟩:=Paired.exL f5 a1
     rw[a2] at s;cases s
     exact N
    rw[(Paired.at B.back a2 a3).v]
    exact w.sv j p W
  .rcases old j z C with ⟨e1,ap⟩ | ⟨k,p,a1,a2,a3⟩
   .exact keep z (w.okS j z e1) ap
   .exact ar k p z a2 a3
  .rcases old i a S with ⟨e1,ap⟩ | ⟨k,p,a1,a2,a3⟩
   .rcases old j b eb with ⟨D,_⟩ | ⟨k',A,b1,b2,b3⟩
    .exact w.ss i j a b n e1 D
    .exact (kq a (w.okS i a e1) ap k' A b b2 b3).1
   .rcases old j b eb with ⟨D,ap⟩ | ⟨k',A,b1,b2,b3⟩
    .exact (kq b (w.okS j b D) ap k p a a2 a3).2
    .have kk:k≠k':=λz=>by
      subst z
      rw[a1] at b1
      cases b1
      exact n rfl
     exact (cu B.apart (λ_ _=>Apart3.symm) kk a3 b3).1
  .rcases old j z C with ⟨e1,ap⟩ | ⟨k,p,a1,a2,a3⟩
   .exact w.st j z e1 t (G5 _ J)
   .exact (kq t (w.okT t (G5 _ J)) (kt t J) k p z a2 a3).symm
  .refine B.frame b o (w.base b o e n) λp l hf I=>?_
   obtain ⟨_,a,L',e1,_,_,e3⟩:=(w.itm (E p l)).own (by rw[hf];intro q;cases q)
   rw[I] at e1
   cases e1
   rcases e3 hf with h | h
   .rw[e] at h;cases h
   .exact n h
  .rcases old j u h with ⟨e1,_⟩ | ⟨k,p,a1,a2,a3⟩
   .exact w.fx.frS j u e1 l hf a S
   .have b:=Paired.at B.back a2 a3
    have W:g j=some p:=by
     obtain ⟨A,s,N⟩:=Paired.exL f5 a1
     rw[a2] at s;cases s
     exact N
    refine w.fx.frS j p W l (λσ=>?_) a (by rw[<- b.v];exact S)
    have:=b.z σ
    rw[this] at hf
    exact hf σ
  .obtain ⟨o,F⟩:=w.fx.bin b Q
   exact ρ b o F
  .obtain ⟨o',F⟩:=w.fx.ob b o h
   exact ρ b o' F
  .rcases old j u h with ⟨e1,_⟩ | ⟨k,p,a1,a2,a3⟩
   .exact w.fx.lvS j u e1 V
   .have b:=Paired.at B.back a2 a3
    have W:g j=some p:=by
     obtain ⟨A,s,N⟩:=Paired.exL f5 a1
     rw[a2] at s;cases s
     exact N
    rw[b.v]
    refine w.fx.lvS j p W ?_
    rcases b.f with h | h
    .rw[<- h];exact V
    .rw[h] at V;cases V
 refine #[g',wf,λx rx ox sx ax=>?_]
 have kx:∀ z,ItOk K G H z->(∀ p∈ps,Apart3 p z)->Apart3 z x:=λz τ φ=>by
  refine #[λhf a ev hm=>?_,λhf a ev hm=>?_]
  .rcases sx a hm with h | ⟨A,y,R⟩
   .obtain ⟨_,a',L',s,N,_⟩:=τ.own hf
    rw[ev] at s;cases s
    obtain ⟨o,F⟩:=(τ.rep.inH a (by rw[N];exact GX)).ex
    rw[h] at F;exact nsE F
   .exact (φ A y).2 hf a ev R
  .obtain ⟨_,a',L',s,_,_,q4⟩:=ox hf
   rw[ev] at s;cases s
   obtain ⟨o,F⟩:=(τ.rep.inH a hm).ex
   rw[q4] at F;exact nsE F
 refine #[wf.len,wf.sl,wf.sv,wf.okS,λz hz=>?_,wf.ss,λj z C t J=>?_,?_,wf.base,wf.pro,#[λu hu hf a S=>?_,wf.fx.frS,wf.fx.bin,wf.fx.ob,wf.fx.lvS]]
 .rcases G6.mp hz with h | hz
  .rw[h]
   refine #[rx,λhf=>?_,λc R=>?_]
   .obtain ⟨m,a,L',v1,v2,v3,v4⟩:=ox hf
    exact #[m,a,L',v1,v2,v3,λ_=>.inl (w.h0none v4)]
   .rcases sx c R with h | ⟨A,y,h⟩
    .exact .inl (w.h0none h)
    .exact (w.itm (E A y)).src c h
  .exact wf.okT z hz
 .rcases G6.mp J with h | J
  .rw[h]
   rcases old j z C with ⟨e1,ap⟩ | ⟨k,p,a1,a2,a3⟩
   .exact kx z (w.okS j z e1) ap
   .exact (ax z (He a3)).symm
  .exact wf.st j z C t J
 .exact List.pairwise_cons.mpr #[λt J=>(kx t (w.okT t (G5 _ J)) (kt t J)).symm,wf.tt]
 .rcases G6.mp hu with h | hu
  .subst h
   obtain ⟨_,a',L',s,_,_,q4⟩:=ox hf
   rw[S] at s;cases s
   exact w.ornone q4
  .exact wf.fx.frT u hu hf a S
theorem ug {i a:Nat} (h:(Z[i]?).join=none):((L3.lowAt a Z)[i]?).join=none:=by
 unfold L3.lowAt
 split
 .grind
 .rename_i d hd
  rw[cW (gi hd)]
  by_cases b:i=a
  .subst b;rw[h] at hd;exact nsE hd
  .rw[if_neg b];exact h
 .exact h
theorem mL {i:Nat}:∀ {is:List Nat} {Z:Sto},(Z[i]?).join=none->((L3.frz is Z)[i]?).join=none
 | [],Z,h=>h
 | a::is,Z,h=>mL (is:=is) (Z:=L3.lowAt a Z) (ug h)
def EX (XA:D->Value->Option Addr->Hp->Prop) (K:FG) (G:Gm) (W:D->Sto->Prop) (Y:St):XK:=λcls da H'=>∃ e Z' T' g',Wf K G H' Y Z' T' g'/\XA e cls da H'/\W e Z'
theorem BF (h:tE K G0 W0 (ib F ms) Y H Q):tA K G0 W0 ms Y H λA H1=>spF XA K F A H1 Q (EX XA K G0 W0 Y):=by
 refine h.use λG W le Z T g o Z' w e q=>?_
 refine tA.seq le w e q.err λrs Z1 e1 A H1 Ts g1 D a1=>?_
 obtain ⟨g2,c,X⟩:=Wf.frz (is:=eE rs) D
 cases j:prs (L3.frz (eE rs) Z1) rs with
 | none=>rw[j] at e1;exact nsE e1
 | some pfs =>
  rw[j] at e1
  dsimp only at e1
  have hd:∀ i,2<=(pls rs).count i->∀ y,g2 i=some y->y.f=.z:=λi V y u=>by
   have hm:i∈eE rs:=HA.mpr #[List.count_pos_iff.mp (by lia),by simpa using V]
   have s1:=c.sl i
   rw[u] at s1
   have φ:∃ y0,g1 i=some y0:=by
    cases τ:g1 i with
    | some y0=>exact #[y0,rfl]
    | none =>
     exfalso
     have s2:=D.sl i
     rw[τ] at s2
     have:=mL (is:=eE rs) s2.symm
     rw[this] at s1
     cases s1
   obtain ⟨y0,s⟩:=φ
   obtain ⟨y',b,_,E⟩:=X i y0 s
   rw[u] at b
   cases b
   exact E hm
  obtain ⟨ps,f1,f2,N,f4,t⟩:=Ars.args a1 c hd j
  have hit:∀ p∈ps,Itm (Ts++T) g2 p:=λp k=>by
   rcases f4 p k with ⟨i,_,ei⟩ | h
   .exact .inl #[i,ei]
   .exact .inr (G4 _ h)
  have d:∀ p∈ps,Arg K H1 p:=λp k=>⟨(c.itm (hit p k)).rep,λhf=>by
   obtain ⟨m,a,L',v1,v2,J,_⟩:=(c.itm (hit p k)).own hf
   exact ⟨m,a,L',v1,v2,J⟩⟩
  subst f2
  cases b:F pfs with
  | none=>rw[b] at e1;exact nsE e1
  | some r =>
   obtain ⟨out,fs⟩:=r
   rw[b] at e1
   refine #[ps,out,fs,rfl,d,N,by rw[f1];exact b,?_]
   cases out with
   | ok p =>
    dsimp only at e1
    split at e1
    .cases e1
     intro x qs H' B P M n
     obtain ⟨g',l,I⟩:=Wf.after c j f1 f4 t B.toBehindX
     have C:=I x B.rep B.own B.src B.apx
     rw[n] at C
     rw[<- P,<- M] at q
     exact q x.v H' #[[x],g',C,.val x]
    .exact nsE e1
   | error er =>
    dsimp only at e1
    split at e1
    .cases e1
     intro qs H' cls da B n L
     obtain ⟨g',l,_⟩:=Wf.after c j f1 f4 t B
     rw[n] at l
     obtain ⟨Z5,S,σ,R,ρ⟩:=le.ex H' Y _ T g' er l q
     exact #[er,Z5,S,σ,R,L,ρ]
    .exact nsE e1
end
def dM (Z:Sto):Nat->List (D×Fl)->Option (List (D×Fl))
 | _,[]=>some []
 | i,(d,.z)::ps=>(dM Z (i+1) ps).map λr=>(d,.z)::r
 | i,(d,f)::ps=>match (Z[i]?).join,dM Z (i+1) ps with
  | some (d',f'),some r=>if f'=f\/f'=.z then some ((d',f')::r) else none
  | _,_=>none
def eD (n:Nat) (ps:List (D×Fl)):Sto:=ps.map some++List.replicate (n - ps.length) none
def fn0 (n:Nat) (b:SM):Fn:=λps=>match b (eD n ps) with
 | some (.ok .nx,Z')=>(dM Z' 0 ps).map λfs=>(.ok (.non,.z),fs)
 | some (.ok (.rt d f),Z')=>(dM Z' 0 ps).map λfs=>(.ok (d,f),fs)
 | some (.error e,Z')=>(dM Z' 0 ps).map λfs=>(.error e,fs)
 | _=>none
def lz (b:Bool) (p:D×Fl):D×Fl:=if b then (p.1,.z) else p
noncomputable def fnM (mask:List Bool) (n:Nat) (b:SM):Fn:=λps=>if ps.length=mask.length then fn0 n b (List.zipWith lz mask ps) else none
section
variable {K:FG} {G:Gm} {W:D->Sto->Prop} {H H':Hp} {Y:St} {Z Z':Sto} {T T':List It3} {g:Nat->Option It3} {x y z:It3} {α β:Type}
def gOf (H:Hp) (pr:Nat->Bool) (Y0:St) (ps:List It3):Gm:=#[H,λb=>∃ p∈ps,p.f=.u/\p.v=.ref b,pr,Y0,H,c9 ps,λi=>(ps[i]?).map (·.v)]
theorem xC {n:Nat} (a:ps.length<=n) (i:Nat):((eD n ps)[i]?).join=ps[i]?:=by
 unfold eD
 grind
theorem ke {n:Nat} {a:List V} {i:Nat} (h:a[i]?=some v):(a.map some++List.replicate n (none:Option V))[i]?=some (some v):=by grind
theorem qD {n:Nat} (u:ps.length<=n) (g:∀ p∈ps,Arg K H p) (t:ps.Pairwise Apart3) (k:∀ (i:Nat) (p:It3),ps[i]?=some p->p.f≠.z->pr i=true) :
  Wf K (gOf H pr ((ps.map (·.v)).map some++List.replicate (n - (ps.map (·.v)).length) none) ps) H ((ps.map (·.v)).map some++List.replicate (n - (ps.map (·.v)).length) none) (eD n (ps.map λp=>(p.d,p.f))) [] (λi=>ps[i]?):=by
 refine #[?_,λi=>?_,λi x e=>?_,λi x e=>?_,λ_ h=>(by cases h),λi j a b n r s=>?_,λ_ _ _ _ h=>(by cases h),.nil,λb o e _=>e,λi _=>rfl,#[λ_ h=>(by cases h),λi x e hz hf=>?_,λb h=>?_,λb o e=>#[o,e],λi x e _=>(by show (ps[i]?).map (·.v)=_;rw[e];rfl)]]
 .unfold eD;simp
 .rw[xC (by simpa using u),Hh]
 .exact ke (by rw[Hh,e];rfl)
 .have hm:=He e
  refine #[(g x hm).rep,λhf=>?_,λc y=>.inr #[x,hm,y]]
  obtain ⟨m,a,L',v1,v2,l⟩:=(g x hm).own hf
  exact #[m,a,L',v1,v2,l,λhu=>.inr #[x,hm,hu,v1]]
 .exact (cu t (λ_ _=>Apart3.symm) n r s).1
 .have hz:pr i=false:=hz
  rw[k i x e hf] at hz;cases hz
 .obtain ⟨p,hm,hf,w⟩:=h
  obtain ⟨_,a,L',v1,v2,_⟩:=(g p hm).own (by rw[hf];intro q;cases q)
  rw[w] at v1;cases v1
  exact ((g p hm).rep.inH b (by rw[v2];exact GX)).ex
def FinsOk (Z:Sto) (i:Nat) (ps fs:List (D×Fl)):Prop:=fs.length=ps.length/\∀ (k:Nat) (p:D×Fl),ps[k]?=some p->∃ q,fs[k]?=some q/\(p.2=.z->q=p)/\(p.2≠.z->(Z[i+k]?).join=some q/\(q.2=p.2\/q.2=.z))
theorem FinsOk.cons {i:Nat} {e d:D×Fl} {ps fs:List (D×Fl)} (h:FinsOk Z (i+1) ps fs) (hz:e.2=.z->d=e) (g:e.2≠.z->(Z[i]?).join=some d/\(d.2=e.2\/d.2=.z)):FinsOk Z i (e::ps) (d::fs):=by
 refine #[by rw[Hu,Hu,h.1],λk p f=>?_]
 cases k with
 | zero=>cases f;exact #[d,rfl,hz,g]
 | succ k =>
  obtain ⟨q,a,b,c⟩:=h.2 k p f
  grind
theorem kE:∀ {i:Nat} {ps:List (D×Fl)} {fs:List (D×Fl)},dM Z i ps=some fs->FinsOk Z i ps fs
 | i,[],fs,e=>by cases e;exact #[rfl,λk p h=>by cases h]
 | i,p0::ps,fs,e=>by
  obtain ⟨d,f⟩:=p0
  have key:f≠.z->(match (Z[i]?).join,dM Z (i+1) ps with
    | some (d',a),some r=>if a=f\/a=.z then some ((d',a)::r) else none
    | _,_=>none)=some fs->FinsOk Z i ((d,f)::ps) fs:=λhf e=>by
   cases h:(Z[i]?).join with
   | none=>rw[h] at e;exact nsE e
   | some p0 =>
    cases h2:dM Z (i+1) ps with
    | none=>rw[h,h2] at e;exact nsE e
    | some r =>
     rw[h,h2] at e
     obtain ⟨d',a⟩:=p0
     dsimp only at e
     rcases Decidable.em (a=f\/a=.z) with b | b
     .rw[if_pos b] at e
      cases e
      exact (kE h2).cons (λz=>absurd z hf) λ_=>#[h,b]
     .rw[if_neg b] at e;exact nsE e
  cases f with
  | z =>
   obtain ⟨r,h,h'⟩:=G3.mp (show (dM Z (i+1) ps).map (λr=>(d,Fl.z)::r)=some fs from e)
   subst h'
   exact (kE h).cons (λ_=>rfl) λn=>absurd rfl n
  | u=>exact key (by intro q;cases q) e
  | l=>exact key (by intro q;cases q) e
theorem k8 {P:Nat->α->β->Prop}:∀ (l:List α) (i:Nat),(∀ (k:Nat) a,l[k]?=some a->∃ b,P (i+k) a b)->∃ m:List β,m.length=l.length/\∀ (k:Nat) a,l[k]?=some a->∃ b,m[k]?=some b/\P (i+k) a b
 | [],i,_=>#[[],rfl,λk a h=>by simp at h]
 | a::l,i,h=>by
  obtain ⟨b,f⟩:=h 0 a rfl
  obtain ⟨m,h1,h2⟩:=k8 l (i+1) λk a e=>by
   have:=h (k+1) a (by simpa using e)
   rwa [show i+(k+1)=i+1+k by lia] at this
  refine #[b::m,by simp[h1],λk c e=>?_]
  cases k with
  | zero=>simp at e;subst e;exact #[b,rfl,f]
  | succ k =>
   obtain ⟨d,e1,g⟩:=h2 k c (by simpa using e)
   exact #[d,by simpa using e1,by rwa [show i+(k+1)=i+1+k by lia]]
theorem Paired.ofGet:∀ {l:List α} {m:List β},l.length=m.length->(∀ (k:Nat) a b,l[k]?=some a->m[k]?=some b->F a b)->Paired F l m
 | [],[],_,_=>.nil
 | [],_::_,h,_=>by cases h
 | _::_,[],h,_=>by cases h
 | a::l,b::m,h,f=>.cons (f 0 a b rfl rfl) (Paired.ofGet (by simpa using h) λk a b e1 c=>f (k+1) a b (by simpa using e1) (by simpa using c))
theorem lp {n:Nat} {pr:Nat->Bool} {Y0:St} {ps:List It3} {fs:List (D×Fl)} (C:∀ p∈ps,Arg K H p) (I:ps.Pairwise Apart3) (Q:∀ (i:Nat) (p:It3),ps[i]?=some p->p.f≠.z->pr i=true) (h0:∀ (i:Nat) (p:It3),ps[i]?=some p->Y0[i]?=some (some p.v))
  (w:Wf K (gOf H pr Y0 ps) H' Y Z T g) (e:dM Z 0 (ps.map λp=>(p.d,p.f))=some fs) :
  ∃ qs,BehindX K H H' ps qs/\qs.map (λq=>(q.d,q.f))=fs/\(∀ (k:Nat) (p q:It3),ps[k]?=some p->qs[k]?=some q->(p.f=.z/\q=p)\/(p.f≠.z/\g k=some q)):=by
 obtain ⟨hl,hs⟩:=kE e
 rw[Hb] at hl
 have frame:∀ b o,H b=some o->(∀ p∈ps,p.f=.u->p.v≠.ref b)->H' b=some o:=λb o t N=>w.base b o t λ#[p,hm,hf,x]=>N p hm hf x
 have there:∀ b o,H b=some o->∃ o',H' b=some o':=λb o t=>w.fx.ob b o t
 have F:∀ (k:Nat) (p:It3),ps[k]?=some p->p.f=.z->Rep K H' p.d p.v p.L:=λk p l hz=>by
  refine (C p (He l)).rep.keep (M:=λb=>∃ p∈ps,p.f=.u/\p.v=.ref b) (λb o t N=>frame b o t λp I hf x=>N #[p,I,hf,x]) (λb #[B,hm,hf,x]=>?_) λb t #[B,hm,hf,x]=>?_
  .obtain ⟨_,a,L',v1,v2,_⟩:=(C B hm).own (by rw[hf];intro q;cases q)
   rw[x] at v1;cases v1
   exact (C B hm).rep.inH b (by rw[v2];exact GX)
  .obtain ⟨j,τ,J⟩:=List.mem_iff_getElem.mp hm
   have A:ps[j]?=some B:=by rw[G7 τ,J]
   have jk:j≠k:=λz=>by subst z;rw[l] at A;cases A;rw[hz] at hf;cases hf
   exact (cu I (λ_ _=>Apart3.symm) jk A l).1 (by rw[hf];intro q;cases q) b x t
 have one:∀ (k:Nat) (p:It3),ps[k]?=some p->∃ q,(q.d,q.f)=(fs[k]?).getD (p.d,p.f)/\fs[k]?=some (q.d,q.f)/\Back1 K H H' ps p q/\((p.f=.z/\q=p)\/(p.f≠.z/\g k=some q)):=λk p l=>by
  have hm:=He l
  obtain ⟨W,f1,f2,f3⟩:=hs k (p.d,p.f) (by rw[Hh,l];rfl)
  by_cases hz:p.f=.z
  .have:=f2 hz
   subst this
   refine #[p,by rw[f1];rfl,f1,#[λ_=>rfl,rfl,.inl rfl,#[F k p l hz,λh=>absurd hz h],λc S=>.inr #[p,hm,S],λh=>?_],.inl #[hz,rfl]]
   rw[hz] at h;cases h
  .obtain ⟨h1,h2⟩:=f3 hz
   rw[Hr] at h1
   obtain ⟨y,σ,X,φ,y4⟩:=w.slot (d:=W.1) (f:=W.2) h1
   have x:y.v=p.v:=by
    have:=w.pro k (Q k p l hz)
    rw[y4] at this
    have h0:some (some y.v)=some (some p.v):=this.trans (h0 k p l)
    injection h0 with h0
    injection h0
   have ok:=w.okS k y σ
   refine #[y,by rw[f1,X,φ];rfl,by rw[f1,X,φ],#[λh=>absurd h hz,x,by rw[φ];exact h2,#[ok.rep,λhf=>?_],λc S=>ok.src c S,λhf b t=>?_],.inr #[hz,σ]]
   .obtain ⟨m,a,L',v1,v2,v3,_⟩:=ok.own hf
    exact #[m,a,L',v1,v2,v3]
   .obtain ⟨_,a,L',v1,v2,_⟩:=(C p hm).own hz
    rw[t] at v1;cases v1
    obtain ⟨o,ho⟩:=((C p hm).rep.inH b (by rw[v2];exact GX)).ex
    exact there b o ho
 obtain ⟨qs,hq,E⟩:=k8 (P:=λk p q=>fs[k]?=some (q.d,q.f)/\Back1 K H H' ps p q/\((p.f=.z/\q=p)\/(p.f≠.z/\g k=some q))) ps 0 λk p l=>by
  obtain ⟨q,_,a,b,c⟩:=one k p l
  exact #[q,by simpa using #[a,b,c]]
 have get:∀ (k:Nat) (p q:It3),ps[k]?=some p->qs[k]?=some q->fs[k]?=some (q.d,q.f)/\Back1 K H H' ps p q/\((p.f=.z/\q=p)\/(p.f≠.z/\g k=some q)):=λk p q s eq=>by
  obtain ⟨q',e1,e2⟩:=E k p s
  rw[eq] at e1
  cases e1
  simpa using e2
 have par:∀ (k:Nat) (q:It3),qs[k]?=some q->∃ p,ps[k]?=some p:=λk q e=>by
  have hk:=(Hc.mp e).1
  exact #[ps[k]'(by lia),by simp[show k < ps.length by lia]]
 refine #[qs,#[frame,Paired.ofGet hq.symm λk p q s eq=>(get k p q s eq).2.1,?_],?_,λk p q s eq=>(get k p q s eq).2.2]
 .rw[List.pairwise_iff_getElem]
  intro k j hk τ lt
  have l:qs[k]?=some qs[k]:=G7 hk
  have J:qs[j]?=some qs[j]:=G7 τ
  have side:∀ (k j:Nat) (q r:It3),k≠j->qs[k]?=some q->qs[j]?=some r->NoRoot q r:=λk j q r n eq ρ=>by
   obtain ⟨p,s⟩:=par k q eq
   obtain ⟨B,G⟩:=par j r ρ
   obtain ⟨_,b,c⟩:=get k p q s eq
   obtain ⟨_,b',c'⟩:=get j B r G ρ
   rcases c with ⟨hz,e⟩ | ⟨hz,e⟩
   .rw[e];exact λh=>absurd hz h
   .rcases c' with ⟨V,R⟩ | ⟨V,R⟩
    .rw[R]
     intro hf a ea
     exact (cu I (λ_ _=>Apart3.symm) n s G).1 hz a (by rw[<- b.v];exact ea)
    .exact w.ss k j q r n e R
  exact #[side k j _ _ (Hk lt) l J,side j k _ _ (Nat.ne_of_gt lt) J l]
 .refine List.ext_getElem? λk=>?_
  rw[Hh]
  cases eq:qs[k]? with
  | none =>
   have:qs.length<=k:=List.getElem?_eq_none_iff.mp eq
   rw[List.getElem?_eq_none (by lia)]
   rfl
  | some q =>
   obtain ⟨p,s⟩:=par k q eq
   rw[(get k p q s eq).1]
   rfl
theorem m9 {n:Nat} {pr:Nat->Bool} {Y0:St} {ps:List It3} {fs:List (D×Fl)} (s:∀ p∈ps,Arg K H p) (y:ps.Pairwise Apart3) (j:∀ (i:Nat) (p:It3),ps[i]?=some p->p.f≠.z->pr i=true) (h0:∀ (i:Nat) (p:It3),ps[i]?=some p->Y0[i]?=some (some p.v))
  (w:Wf K (gOf H pr Y0 ps) H' Y Z (x::T) g) (e:dM Z 0 (ps.map λp=>(p.d,p.f))=some fs):∃ qs,Behind K H H' ps qs x/\qs.map (λq=>(q.d,q.f))=fs:=by
 obtain ⟨qs,B,f,u⟩:=lp (n:=n) s y j h0 w e
 have ok:=w.okT x GX
 refine #[qs,#[B,ok.rep,λhf=>?_,λc A=>ok.src c A,λq F=>?_],f]
 .obtain ⟨m,a,L',v1,v2,t,_⟩:=ok.own hf
  exact #[m,a,L',v1,v2,t,w.fx.frT x GX hf a v1]
 .obtain ⟨k,G,C⟩:=List.mem_iff_getElem.mp F
  have eq:qs[k]?=some q:=by rw[G7 G,C]
  obtain ⟨p,l,b⟩:=Paired.exR B.back eq
  rcases u k p q l eq with ⟨hz,e⟩ | ⟨hz,e⟩
  .rw[e]
   refine #[λhf a E hm=>?_,λh=>absurd hz h]
   have h1:=w.fx.frT x GX hf a E
   obtain ⟨o,r⟩:=((s p (He l)).rep.inH a hm).ex
   have h2:H a=none:=h1
   rw[h2] at r;exact nsE r
  .exact (w.st k q e x GX).symm
end
def cV:Fl->Fl
 | .u=>.l
 | f=>f
def bu (x:It3):It3:={ x with f:=cV x.f }
def ie:Fl->Fl
 | .l=>.u
 | f=>f
def Br (x:It3):It3:={ x with f:=ie x.f }
def jO (h:Fl->Fl) (i:Nat) (Z:Sto):Sto:=match (Z[i]?).join with
 | some (d,f)=>Z.set i (some (d,h f))
 | none=>Z
def aF (h:Fl->Fl) (is:List Nat) (Z:Sto):Sto:=is.foldl (λZ i=>jO h i Z) Z
def us (Z:Sto) (is:List Nat):List Nat:=is.filter λi=>match (Z[i]?).join with
 | some (_,.u)=>true
 | _=>false
theorem lentF_z:cV f=.z ↔ f=.z:=by cases f <;> simp[cV]
theorem unlF_z:ie f=.z ↔ f=.z:=by cases f <;> simp[ie]
theorem vD (f:Fl):cV f≠.u:=by cases f <;> simp[cV]
theorem DU (f:Fl):ie f≠.l:=by cases f <;> simp[ie]
section
variable {K:FG} {G G0:Gm} {W W0:D->Sto->Prop} {H H':Hp} {Y:St} {Z Z':Sto} {T T':List It3} {g:Nat->Option It3} {x y z:It3} {α β:Type}
theorem ua {i j:Nat}:((jO h i Z)[j]?).join=if j=i then ((Z[j]?).join).map (λp=>(p.1,h p.2)) else (Z[j]?).join:=by
 unfold jO
 grind
theorem xg {i:Nat}:(jO h i Z).length=Z.length:=by
 unfold jO
 split
 .rw[List.length_set]
 .rfl
theorem iC (a:∀ f,h (h f)=h f):∀ {is:List Nat} {Z:Sto} {j:Nat},((aF h is Z)[j]?).join=if j∈is then ((Z[j]?).join).map (λp=>(p.1,h p.2)) else (Z[j]?).join
 | [],Z,j=>by simp[aF]
 | i::is,Z,j=>by
  have e:aF h (i::is) Z=aF h is (jO h i Z):=rfl
  rw[e,iC a,ua]
  by_cases q:j=i
  .subst q
   by_cases m:j∈is
   .rw[if_pos m,if_pos rfl,if_pos GX]
    cases (Z[j]?).join with
    | none=>rfl
    | some p=>simp[a]
   .rw[if_neg m,if_pos rfl,if_pos GX]
  .by_cases m:j∈is
   .rw[if_pos m,if_neg q,if_pos (GY _ m)]
   .rw[if_neg m,if_neg q,if_neg (λz=>(G6.mp z).elim q m)]
theorem jo:∀ {is:List Nat} {Z:Sto},(aF h is Z).length=Z.length
 | [],Z=>rfl
 | i::is,Z=>by
  have e:aF h (i::is) Z=aF h is (jO h i Z):=rfl
  rw[e,jo,xg]
def eC (G:Gm) (H:Hp) (g:Nat->Option It3) (is:List Nat):Gm :=
 #[H,λb=>∃ j y,j ∉ is/\g j=some y/\y.f=.u/\y.v=.ref b,G.pr,G.Y0,G.orig,λc=>G.H0 c=none\/G.src c,λj=>if j∈is then (g j).map (·.v) else G.lv j]
structure Fk (x y:It3):Prop where
 d:y.d=x.d
 v:y.v=x.v
 L:y.L=x.L
 z:y.f=.z ↔ x.f=.z
theorem Fk.noRoot (a:Fk x x') (b:Fk y y') (h:NoRoot x y):NoRoot x' y':=λhf c e=>by
 rw[b.L]
 exact h (λq=>hf (a.z.mpr q)) c (by rw[<- a.v];exact e)
theorem Fk.apart (a:Fk x x') (b:Fk y y') (h:Apart3 x y):Apart3 x' y':=#[a.noRoot b h.1,b.noRoot a h.2]
theorem Fk.refl (x:It3):Fk x x:=#[rfl,rfl,rfl,Iff.rfl]
theorem lP (x:It3):Fk x (bu x):=#[rfl,rfl,rfl,lentF_z]
theorem Gu (x:It3):Fk x (Br x):=#[rfl,rfl,rfl,unlF_z]
theorem rV {o:Option It3} {h:Fl->Fl} (e:o.map (λx=>(x.d,x.f))=p):(o.map λx=>{ x with f:=h x.f }).map (λx:It3=>(x.d,x.f))=p.map λp=>(p.1,h p.2):=by
 subst e
 cases o <;> rfl
theorem Wf.enter (w:Wf K G H Y Z T g) (is:List Nat):Wf K (eC G H g is) H Y (aF cV is Z) (T.map bu) (λj=>if j∈is then (g j).map bu else g j):=by
 have val:∀ j u,(if j∈is then (g j).map bu else g j)=some u->∃ l,g j=some l/\Fk l u/\((j∈is/\u=bu l)\/(j ∉ is/\u=l)):=λj u h=>by
  by_cases q:j∈is
  .rw[if_pos q] at h
   obtain ⟨l,e1,s⟩:=G3.mp h
   subst s
   exact #[l,e1,lP l,.inl #[q,rfl]]
  .rw[if_neg q] at h
   exact #[u,h,Fk.refl u,.inr #[q,rfl]]
 refine #[by rw[jo];exact w.len,λj=>?_,λj u h=>?_,λj u h=>?_,λu hu=>?_,λi j a b n D p=>?_,λj a h b p=>?_,?_,λb o e _=>e,w.pro,#[λu hu hf a x=>?_,λj u h A hf a x=>?_,λb p=>?_,w.fx.ob,λj u h E=>?_]]
 .rw[iC (by intro f;cases f <;> rfl)]
  by_cases q:j∈is
  .rw[if_pos q,if_pos q];exact rV (w.sl j)
  .rw[if_neg q,if_neg q];exact w.sl j
 .obtain ⟨l,e,k,_⟩:=val j u h
  rw[k.v];exact w.sv j l e
 .obtain ⟨l,e,k,c⟩:=val j u h
  have ok:=w.okS j l e
  refine #[by rw[k.d,k.v,k.L];exact ok.rep,λhf=>?_,λc t=>.inr (ok.src c (by rw[<- k.L];exact t))]
  obtain ⟨m,a,L',v1,v2,r,_⟩:=ok.own (λq=>hf (k.z.mpr q))
  refine #[by rw[k.d];exact m,a,L',by rw[k.v];exact v1,by rw[k.L];exact v2,r,λhu=>?_]
  rcases c with ⟨_,rfl⟩ | ⟨B,rfl⟩
  .exact absurd hu (vD _)
  .exact .inr #[j,u,B,e,hu,v1]
 .obtain ⟨l,h0,rfl⟩:=Hg.mp hu
  have ok:=w.okT l h0
  refine #[ok.rep,λhf=>?_,λc t=>.inr (ok.src c t)]
  obtain ⟨m,a,L',v1,v2,r,_⟩:=ok.own (λq=>hf (lentF_z.mpr q))
  exact #[m,a,L',v1,v2,r,λhu=>absurd hu (vD _)]
 .obtain ⟨a0,e1,k1,_⟩:=val i a D
  obtain ⟨b0,s,k2,_⟩:=val j b p
  exact k1.noRoot k2 (w.ss i j a0 b0 n e1 s)
 .obtain ⟨a0,e1,k1,_⟩:=val j a h
  obtain ⟨b0,h0,rfl⟩:=Hg.mp p
  exact k1.apart (lP b0) (w.st j a0 e1 b0 h0)
 .rw[List.pairwise_map]
  exact w.tt.imp λ{a b} h=>(lP a).apart (lP b) h
 .obtain ⟨l,h0,rfl⟩:=Hg.mp hu
  exact w.fx.frT l h0 (λq=>hf (lentF_z.mpr q)) a x
 .obtain ⟨l,e,k,_⟩:=val j u h
  exact w.fx.frS j l e A (λq=>hf (k.z.mpr q)) a (by rw[<- k.v];exact x)
 .obtain ⟨j,y,_,e,hf,C⟩:=p
  obtain ⟨_,a,L',v1,v2,_⟩:=(w.okS j y e).own (by rw[hf];intro q;cases q)
  rw[C] at v1;cases v1
  exact ((w.okS j y e).rep.inH b (by rw[v2];exact GX)).ex
 .obtain ⟨l,e,k,c⟩:=val j u h
  show (if j∈is then (g j).map (·.v) else G.lv j)=_
  rcases c with ⟨q,rfl⟩ | ⟨q,rfl⟩
  .rw[if_pos q,e];rfl
  .rw[if_neg q];exact w.fx.lvS j u e E
theorem Wf.leave (w:Wf K G H Y Z T g) (D:∀ i∈is,∀ y,g i=some y->y.f=.u) (P:T'.Sublist T) (p:Wf K (eC G H g is) H' Y' Z2 (R++T'.map bu) g2) :
  Wf K G H' Y' (aF ie is Z2) (R++T') (λj=>if j∈is then (g2 j).map Br else g2 j):=by
 have val:∀ j u,(if j∈is then (g2 j).map Br else g2 j)=some u->∃ r,g2 j=some r/\Fk r u/\((j∈is/\u=Br r)\/(j ∉ is/\u=r)):=λj u h=>by
  by_cases q:j∈is
  .rw[if_pos q] at h
   obtain ⟨r,e1,E⟩:=G3.mp h
   subst E
   exact #[r,e1,Gu r,.inl #[q,rfl]]
  .rw[if_neg q] at h
   exact #[u,h,Fk.refl u,.inr #[q,rfl]]
 have may:∀ a,H a=none\/(∃ j y,j ∉ is/\g j=some y/\y.f=.u/\y.v=.ref a)->G.H0 a=none\/G.bw a:=λa h=>by
  rcases h with h | ⟨j,y,_,e,hf,V⟩
  .exact .inl (w.h0none h)
  .obtain ⟨_,φ,L',v1,_,_,v4⟩:=(w.okS j y e).own (by rw[hf];intro q;cases q)
   rw[V] at v1;cases v1
   exact v4 hf
 have t:∀ c,H c=none\/(G.H0 c=none\/G.src c)->G.H0 c=none\/G.src c:=λc h=>by
  rcases h with h | h
  .exact .inl (w.h0none h)
  .exact h
 have M:∀ x∈T',x∈T:=λx Q=>P.subset Q
 have I:∀ b o,H b=some o->∃ o',H' b=some o':=λb o s=>by
  by_cases q:∃ j y,j ∉ is/\g j=some y/\y.f=.u/\y.v=.ref b
  .exact p.fx.bin b q
  .exact #[o,p.base b o s q]
 refine #[by rw[jo];exact p.len,λj=>?_,λj u h=>?_,λj u h=>?_,λu hu=>?_,λi j a b n J s=>?_,λj a h b s=>?_,?_,λb o e n=>?_,p.pro,#[λu hu=>?_,λj u h S hf a σ=>?_,λb s=>?_,p.fx.ob,λj u h B=>?_]]
 .rw[iC (by intro f;cases f <;> rfl)]
  by_cases q:j∈is
  .rw[if_pos q,if_pos q];exact rV (p.sl j)
  .rw[if_neg q,if_neg q];exact p.sl j
 .obtain ⟨r,e,k,_⟩:=val j u h
  rw[k.v];exact p.sv j r e
 .obtain ⟨r,e,k,c⟩:=val j u h
  have ok:=p.okS j r e
  refine #[by rw[k.d,k.v,k.L];exact ok.rep,λhf=>?_,λc F=>t c (ok.src c (by rw[<- k.L];exact F))]
  obtain ⟨m,a,L',v1,v2,C,v4⟩:=ok.own (λq=>hf (k.z.mpr q))
  refine #[by rw[k.d];exact m,a,L',by rw[k.v];exact v1,by rw[k.L];exact v2,C,λhu=>?_]
  rcases c with ⟨q,rfl⟩ | ⟨nj,rfl⟩
  .cases A:r.f with
   | u=>exact may a (v4 A)
   | l =>
    have B:=p.fx.lvS j r e A
    have B:(if j∈is then (g j).map (·.v) else G.lv j)=some r.v:=B
    rw[if_pos q] at B
    obtain ⟨y,τ,ev⟩:=G3.mp B
    have N:=D j q y τ
    obtain ⟨_,φ,ρ,b1,_,_,W⟩:=(w.okS j y τ).own (by rw[N];intro q;cases q)
    rw[ev,v1] at b1;cases b1
    exact W N
   | z=>exact absurd (unlF_z.mpr A) hf
  .exact may a (v4 hu)
 .rcases G9.mp hu with hu | hu
  .have ok:=p.okT u (G4 _ hu)
   refine #[ok.rep,λhf=>?_,λc F=>t c (ok.src c F)]
   obtain ⟨m,a,L',v1,v2,C,v4⟩:=ok.own hf
   exact #[m,a,L',v1,v2,C,λh=>may a (v4 h)]
  .have ok:=w.okT u (M u hu)
   exact #[(p.okT (bu u) (G5 _ (Hg.mpr #[u,hu,rfl]))).rep,ok.own,ok.src]
 .obtain ⟨a0,e1,k1,_⟩:=val i a J
  obtain ⟨b0,E,k2,_⟩:=val j b s
  exact k1.noRoot k2 (p.ss i j a0 b0 n e1 E)
 .obtain ⟨a0,e1,k1,_⟩:=val j a h
  rcases G9.mp s with s | s
  .exact k1.apart (Fk.refl b) (p.st j a0 e1 b (G4 _ s))
  .have:=p.st j a0 e1 (bu b) (G5 _ (Hg.mpr #[b,s,rfl]))
   exact k1.apart (y:=bu b) #[rfl,rfl,rfl,lentF_z.symm] this
 .have h:=List.pairwise_append.mp p.tt
  refine List.pairwise_append.mpr #[h.1,w.tt.sublist P,λa J b s=>?_]
  exact (Fk.refl a).apart (y:=bu b) #[rfl,rfl,rfl,lentF_z.symm] (h.2.2 a J (bu b) (Hg.mpr #[b,s,rfl]))
 .have s:=w.base b o e n
  refine p.base b o s λq=>?_
  rcases may b (.inr q) with h | h
  .rw[e] at h;cases h
  .exact n h
 .rcases G9.mp hu with hu | hu
  .exact p.fx.frT u (G4 _ hu)
  .exact w.fx.frT u (M u hu)
 .obtain ⟨r,e,k,_⟩:=val j u h
  exact p.fx.frS j r e S (λq=>hf (k.z.mpr q)) a (by rw[<- k.v];exact σ)
 .obtain ⟨o,X⟩:=w.fx.bin b s
  exact I b o X
 .obtain ⟨r,e,k,c⟩:=val j u h
  rcases c with ⟨q,rfl⟩ | ⟨q,rfl⟩
  .exact absurd B (DU _)
  .have:=p.fx.lvS j u e B
   have this:(if j∈is then (g j).map (·.v) else G.lv j)=some u.v:=this
   rw[if_neg q] at this
   exact this
theorem CT (w:Wf K G H Y Z T g) (b:∀ i∈is,∀ y,g i=some y->y.f=.u):∀ (H':Hp) (Y':St) (Z2:Sto) (a:List It3) (g2:Nat->Option It3),Wf K (eC G H g is) H' Y' Z2 a g2->∃ g3,Wf K G H' Y' (aF ie is Z2) [] g3 :=
 λH' Y' Z2 a g2 c=>#[_,by simpa using Wf.leave (T':=[]) (R:=[]) w b (List.nil_sublist T) (by simpa using c.sub (List.nil_sublist a))]
end
section
variable {K:FG} {G G0:Gm} {W W0:D->Sto->Prop} {H H':Hp} {Y:St} {Z Z':Sto} {T T':List It3} {g:Nat->Option It3} {x y z:It3} {α β:Type}
def Walk (K:FG) (J:It) (H1:Hp) (ys:List It3) (ds:List D):Prop:=∃ els:List It3,(∀ x∈els,x.f=.z/\Rep K H1 x.d x.v x.L/\∀ c∈x.L,cY ys c) /\
 ∀ (M:Addr->Prop) (H':Hp),(∀ b,M b->MutAt H1 b)->(∀ b o,H1 b=some o->¬ M b->H' b=some o)->(∀ y∈ys,∀ b∈y.L,¬ M b) ->
  (∀ (i:Nat) (d:D),ds[i]?=some d->J.go i H'/\∀ x a,J.yld i H' x a->∃ w,New K H' a (c9 els) w/\w.d=d/\w.f=.z/\w.v=x)/\J.stop ds.length H'
abbrev IM:=M3 (List R3×List D)
def EndI (K:FG) (G:Gm) (W:D->Sto->Prop) (Y:St) (T:List It3) (Z':Sto) (R:It->Hp->Prop):Except D (List R3×List D)->Prop
 | .ok p=>∀ J H1 a Ts g1 ys,Wf K G H1 Y Z' (Ts++T) g1->Ars Y p.1 a Ts->(∀ y∈ys,(∃ i,i∈pls p.1/\g1 i=some y)\/y∈Ts)->Walk K J H1 ys p.2->R J H1
 | .error e=>W e Z'
def tI (K:FG) (G0:Gm) (W0:D->Sto->Prop) (m:IM):TI:=λY H R=>∃ G W,Le K G W G0 W0/\∃ Z T g r Z',Wf K G H Y Z T g/\m Z=some (r,Z')/\EndI K G W Y T Z' R r
theorem tI.seq (le:Le K G W G0 W0) (w:Wf K G H Y Z T g) (e:af m k Z=some (r,Z')) (he:∀ x,r=.error x->W x Z') (h:∀ p Z1,k p Z1=some (r,Z')->EndI K G W Y T Z1 P (.ok p)):tI K G0 W0 m Y H P:=by
 unfold af at e
 cases q:m Z with
 | none=>rw[q] at e;exact nsE e
 | some p =>
  obtain ⟨o,Z1⟩:=p
  rw[q] at e
  cases o with
  | error x=>cases e;exact #[G,W,le,Z,T,g,.error x,Z',w,q,he x rfl]
  | ok ra=>exact #[G,W,le,Z,T,g,.ok ra,Z1,w,q,h ra Z1 e]
def Bnd (K:FG) (pr:Nat->Bool) (tg:TG) (bnd:D->Sto->Option Sto):Prop:=∀ (G:Gm) (H:Hp) (Y:St) (Z Z1:Sto) (T:List It3) (g:Nat->Option It3) (w:It3) (Q:St->Hp->Prop),G.pr=pr->w.f=.z->Wf K G H Y Z (w::T) g->bnd w.d Z=some Z1 ->
 (∀ Y2 g2,Wf K G H Y2 Z1 T g2->Q Y2 H)->tg w.v Y H Q
def al (i:Nat) (d:D) (Z:Sto):Option Sto:=if i < Z.length then some (Z.set i #v[d]) else none
theorem iT {i:Nat} (b:pr i=false):Bnd K pr (vN i) (al i):=λG H Y Z Z1 T g w Q a hz wf e q=>by
 unfold al at e
 split at e
 .rename_i hi
  cases e
  exact q _ _ (wf.store (f:=.z) hi (by rw[a];exact b) (.inr rfl) (by intro h;cases h))
 .exact nsE e
def Bm (K:FG) (pr:Nat->Bool) (tg:TGs) (bnd:List D->Sto->Option Sto):Prop:=∀ (G:Gm) (H:Hp) (Y:St) (Z Z1:Sto) (T:List It3) (g:Nat->Option It3) (ws:List It3) (Q:St->Hp->Prop),G.pr=pr->(∀ w∈ws,w.f=.z)->Wf K G H Y Z (ws++T) g->bnd (ws.map (·.d)) Z=some Z1 ->
 (∀ Y2 g2,Wf K G H Y2 Z1 T g2->Q Y2 H)->tg (ws.map (·.v)) Y H Q
def j8:List D->Sto->Option Sto
 | [],Z=>some Z
 | _,_=>none
def cz (b:D->Sto->Option Sto) (bs:List D->Sto->Option Sto):List D->Sto->Option Sto
 | [],_=>none
 | d::ds,Z=>match b d Z with
  | some Z1=>bs ds Z1
  | none=>none
theorem sR:Bm K pr gNil j8:=λG H Y Z Z1 T g ws Q _ _ wf e q=>by
 cases ws with
 | nil=>cases e;exact #[rfl,q _ _ wf]
 | cons w ws=>exact nsE e
theorem kM (h1:Bnd K pr tg b) (h2:Bm K pr tgs bs):Bm K pr (DI tg tgs) (cz b bs):=λG H Y Z Z1 T g ws Q a hz wf e q=>by
 cases ws with
 | nil=>exact nsE e
 | cons w ws =>
  have e:(match b w.d Z with | some Z1=>bs (ws.map (·.d)) Z1 | none=>none)=some Z1:=e
  cases c:b w.d Z with
  | none=>rw[c] at e;exact nsE e
  | some Z2 =>
   rw[c] at e
   exact #[w.v,ws.map (·.v),rfl,h1 G H Y Z Z2 (ws++T) g w _ a (hz w GX) wf c λY2 g2 f=>h2 G H Y2 Z2 Z1 T g2 ws Q a (λx h=>hz x (GY _ h)) f e q]
def j7 (n:Nat) (bs:List D->Sto->Option Sto):D->Sto->Option Sto
 | .tup ds,Z=>if ds.length=n then bs ds Z else none
 | _,_=>none
theorem Reps.split:∀ {ds:List D} {b:List V} {L:List Addr},Reps (Rep K H) ds b L->∃ ws:List It3,ws.map (·.d)=ds/\ws.map (·.v)=b/\(∀ w∈ws,w.f=.z/\Rep K H w.d w.v w.L/\∀ c∈w.L,c∈L)
 | _,_,_,.nil=>#[[],rfl,rfl,λ_ h=>(by cases h)]
 | _,_,_,.cons (d:=d) (v:=v) (L:=L) r rs=>by
  obtain ⟨ws,h1,h2,h3⟩:=Reps.split rs
  refine #[#[d,v,L,.z]::ws,by simp[h1],by simp[h2],λw hw=>?_]
  rcases G6.mp hw with h | h
  .subst h;exact #[rfl,r,λc a=>G4 _ a]
  .exact #[(h3 w h).1,(h3 w h).2.1,λc a=>G5 _ ((h3 w h).2.2 c a)]
theorem Wf.pushAll:∀ {ws:List It3} {T:List It3},Wf K G H Y Z T g->(∀ w∈ws,w.f=.z/\Rep K H w.d w.v w.L/\∀ c∈w.L,dX T g c/\(G.H0 c=none\/G.src c))->Wf K G H Y Z (ws++T) g
 | [],T,w,_=>w
 | x::ws,T,w,h=>by
  have i:=Wf.pushAll (ws:=ws) w λy a=>h y (GY _ a)
  obtain ⟨hz,e,b⟩:=h x GX
  refine i.push (Ks:=λc=>c∈x.L) #[Same.refl _,e,λc h=>.inr h,λq=>absurd hz q] λc m=>#[#[(b c m).1.1,λy a hf=>?_],(b c m).2]
  rcases G9.mp a with q | q
  .exact absurd (h y (GY _ q)).1 hf
  .exact (b c m).1.2 y q hf
theorem vZ {n:Nat} (h2:Bm K pr tgs bs):Bnd K pr (gTup K n tgs) (j7 n bs):=λG H Y Z Z1 T g w Q j hz wf e q=>by
 have r:=(wf.okT w GX).rep
 obtain ⟨d,v,L,f⟩:=w
 cases r with
 | @tup xs a vs _ hs rs =>
  have e:(if xs.length=n then bs xs Z else none)=some Z1:=e
  split at e
  .rename_i m
   obtain ⟨ws,h1,h3,h⟩:=Reps.split rs
   refine #[a,vs,rfl,SqT.of hs,?_,?_]
   .rw[<- h3,Hb,<- m,<- h1,Hb]
   .have o:Wf K G H Y Z (ws++(#[.tup xs,.ref a,L,f]::T)) g:=wf.pushAll λu hu=>#[(h u hu).1,(h u hu).2.1,λc k=>#[wf.kid (y:=#[.tup xs,.ref a,L,f]) (.inr GX) ((h u hu).2.2 c k) λhf=>absurd hz hf,(wf.okT _ GX).src c ((h u hu).2.2 c k)]]
    have l:Wf K G H Y Z (ws++T) g:=o.sub ((List.Sublist.refl ws).append (List.sublist_cons_self _ _))
    rw[<- h3]
    exact h2 G H Y Z Z1 T g ws Q j (λu hu=>(h u hu).1) l (by rw[h1];exact e) q
  .exact nsE e
 | non=>exact nsE e
 | bl b=>exact nsE e
 | int i=>exact nsE e
 | str s=>exact nsE e
 | lst _ _=>exact nsE e
 | lstF _ _=>exact nsE e
 | dK _ _ _=>exact nsE e
 | dT _ _ _=>exact nsE e
 | exc _ _=>exact nsE e
 | excV _ _ _ _ _ _ _ _=>exact nsE e
noncomputable def dH (bnd:D->Sto->Option Sto) (b:SM):List D->SM
 | []=>aT .nx
 | d::ds=>λZ=>match bnd d Z with
  | none=>none
  | some Z1=>af b (λf=>match f with
   | .nx=>dH bnd b ds
   | .ct=>dH bnd b ds
   | .br=>aT .nx
   | .rt d f=>aT (.rt d f)) Z1
noncomputable def cj (im:IM) (bnd:D->Sto->Option Sto) (b:SM):SM:=af im λp=>λZ=>(dH bnd b p.2 (aF cV (us Z (pls p.1)) Z)).map λr=>(r.1,aF ie (us Z (pls p.1)) r.2)
theorem us_u (w:Wf K G H Y Z T g):∀ i∈us Z is,∀ y,g i=some y->y.f=.u:=λi hi y a=>by
 have h:=(HA.mp hi).2
 have s:=w.sl i
 rw[a] at s
 have s:some (y.d,y.f)=(Z[i]?).join:=s
 rw[<- s] at h
 cases hf:y.f with
 | u=>rfl
 | l=>rw[hf] at h;cases h
 | z=>rw[hf] at h;cases h
theorem ye {i:Nat} (w:Wf K G H Y Z T g) (hi:i∈is) (a:g i=some y) (hf:y.f=.u):i∈us Z is:=by
 refine HA.mpr #[hi,?_]
 have s:=w.sl i
 rw[a] at s
 have s:some (y.d,y.f)=(Z[i]?).join:=s
 rw[<- s,hf]
theorem Ei (V:Bnd K G0.pr tg bnd) (h:tS K G0 W0 (cj im bnd b) E Y H):tFor (tI K G0 W0 im) tg (tS K G0 W0 b) E Y H:=by
 refine h.use λG W le Z T g r Z' w e q=>?_
 refine tI.seq le w e q.err λp Z1 e1=>?_
 intro J H1 vs Ts g1 ys A a1 ρ hw
 have N:=us_u (is:=pls p.1) A
 have ax:∀ i y,i∈pls p.1->g1 i=some y->y.f=.u->i∈us Z1 (pls p.1):=λi y hi ey hf=>ye A hi ey hf
 generalize us Z1 (pls p.1)=is at e1 N ax
 have w2:=A.enter is
 obtain ⟨els,n,walk⟩:=hw
 have hM:∀ b,(∃ j y,j ∉ is/\g1 j=some y/\y.f=.u/\y.v=.ref b)->MutAt H1 b:=λb #[j,y,_,ey,hf,C]=>by
  obtain ⟨_,a,L',v1,v2,_⟩:=(A.okS j y ey).own (by rw[hf];intro q;cases q)
  rw[C] at v1;cases v1
  exact (A.okS j y ey).rep.inH b (by rw[v2];exact GX)
 have ae:∀ y∈ys,∀ b∈y.L,¬ ∃ j y,j ∉ is/\g1 j=some y/\y.f=.u/\y.v=.ref b:=λy t b V #[j,y',nj,B,hf,C]=>by
  have ar:y'.f≠.z:=by rw[hf];intro q;cases q
  rcases ρ y t with ⟨i,hi,ei⟩ | t
  .by_cases ij:i=j
   .subst ij
    rw[ei] at B;cases B
    exact nj (ax i y hi ei hf)
   .exact A.ss j i y' y (Ne.symm ij) B ei ar b C V
  .exact (A.st j y' B y (G4 _ t)).1 ar b C V
 have X:∀ y∈ys,Itm (Ts++T) g1 y:=λy t=>by
  rcases ρ y t with ⟨i,_,ei⟩ | h
  .exact .inl #[i,ei]
  .exact .inr (G4 _ h)
 have kid:∀ x∈els,∀ c∈x.L,dX ((Ts++T).map bu) (λj=>if j∈is then (g1 j).map bu else g1 j) c/\(H1 c=none\/(G.H0 c=none\/G.src c)):=λx σ c hc=>by
  obtain ⟨nr,sr⟩:=A.kids X ((n x σ).2.2 c hc)
  refine #[#[λi z φ hf C=>?_,λz hz hf C=>?_],.inr sr]
  .have φ:(if i∈is then (g1 i).map bu else g1 i)=some z:=φ
   by_cases q:i∈is
   .rw[if_pos q] at φ
    obtain ⟨z0,e0,e1⟩:=G3.mp φ
    subst e1
    exact nr.1 i z0 e0 (λq=>hf (lentF_z.mpr q)) C
   .rw[if_neg q] at φ
    exact nr.1 i z φ hf C
  .obtain ⟨z0,h0,rfl⟩:=Hg.mp hz
   exact nr.2 z0 h0 (λq=>hf (lentF_z.mpr q)) C
 have w3:Wf K (eC G H1 g1 is) H1 Y (aF cV is Z1) (els++(Ts++T).map bu) (λj=>if j∈is then (g1 j).map bu else g1 j):=w2.pushAll λx σ=>#[(n x σ).1,(n x σ).2.1,λc hc=>kid x σ c hc]
 cases e2:dH bnd b p.2 (aF cV is Z1) with
 | none=>rw[e2] at e1;exact nsE e1
 | some rr =>
  obtain ⟨r2,Z3⟩:=rr
  rw[e2] at e1
  have er:r2=r/\aF ie is Z3=Z':=by cases e1;exact #[rfl,rfl]
  obtain ⟨rfl,eρ⟩:=er
  have leave:∀ {Y':St} {H':Hp} {Z2:Sto} {g2:Nat->Option It3} {R:List It3},Wf K (eC G H1 g1 is) H' Y' Z2 (R++(els++(Ts++T).map bu)) g2->∃ g3,Wf K G H' Y' (aF ie is Z2) (R++T) g3:=λ{Y' H' Z2 g2 R} I =>
   ⟨_,Wf.leave (T:=Ts++T) (T':=T) (R:=R) A N (Hf Ts T) (I.sub ((List.Sublist.refl R).append (by
    rw[List.map_append]
    exact (Hf (Ts.map bu) (T.map bu)).trans (Hf els _))))⟩
  have a6:Le K (eC G H1 g1 is) (λe Z2=>W e (aF ie is Z2)) G W:=⟨rfl,λH' Y' Z2 T2 g2 e I he=>by
   obtain ⟨g3,w5⟩:=CT A N H' Y' Z2 T2 g2 I
   exact ⟨_,[],g3,w5,he⟩⟩
  have s:Le K (eC G H1 g1 is) (λe Z2=>W e (aF ie is Z2)) G0 W0:=a6.trans le
  refine #[λk m Y' H'=>k<=p.2.length/\m=p.2.length - k/\∃ Z2 g2,Wf K (eC G H1 g1 is) H' Y' Z2 (els++(Ts++T).map bu) g2/\dH bnd b (p.2.drop k) Z2=some (r2,Z3),#[_,Nat.zero_le _,rfl,_,_,w3,e2],?_]
  rintro k m Y' H' ⟨hk,rfl,Z2,g2,I,e4⟩
  obtain ⟨az,S⟩:=walk _ H' hM (λb o V hn=>I.base b o V hn) ae
  by_cases D:k < p.2.length
  .obtain ⟨d,hd⟩:∃ d,p.2[k]?=some d:=#[_,G7 D]
   have Q:p.2.drop k=d::p.2.drop (k+1):=by
    rw[List.drop_eq_getElem_cons D]
    rw[G7 D] at hd
    cases hd;rfl
   rw[Q] at e4
   obtain ⟨go,yld⟩:=az k d hd
   refine .inr #[go,λY5 H5=>∃ Z5 g5,Wf K (eC G H1 g1 is) H5 Y5 Z5 (els++(Ts++T).map bu) g5/\dH bnd b (p.2.drop (k+1)) Z5=some (r2,Z3),λY5 H5 #[Z5,g5,w5,l]=>#[p.2.length - (k+1),by lia,D,rfl,Z5,g5,w5,l],λx τ t=>?_]
   obtain ⟨u,nu,ud,uf,uv⟩:=yld x τ t
   have w5:Wf K (eC G H1 g1 is) τ Y' Z2 (u::(els++(Ts++T).map bu)) g2:=I.push nu λc hc=>I.alls (ys:=els) (λy t=>#[.inr (G4 _ t),(n y t).1]) hc
   have l:(match bnd d Z2 with
    | none=>none
    | some Z1=>af b (λf=>match f with
     | .nx=>dH bnd b (p.2.drop (k+1))
     | .ct=>dH bnd b (p.2.drop (k+1))
     | .br=>aT .nx
     | .rt d f=>aT (.rt d f)) Z1)=some (r2,Z3):=e4
   cases e6:bnd d Z2 with
   | none=>rw[e6] at l;exact nsE l
   | some Z6 =>
    rw[e6] at l
    dsimp only at l
    rw[<- uv]
    refine V (eC G H1 g1 is) τ Y' Z2 Z6 _ g2 u _ le.pr uf w5 (by rw[ud];exact e6) λY6 g6 w6=>?_
    unfold af at l
    cases P:b Z6 with
    | none=>rw[P] at l;exact nsE l
    | some pr7 =>
     obtain ⟨o7,Z7⟩:=pr7
     rw[P] at l
     cases o7 with
     | error er =>
      cases l
      refine tS.mk (r:=.error er) s w6 P ?_
      show W er (aF ie is _)
      rw[eρ];exact q
     | ok f =>
      cases f with
      | nx=>exact tS.mk (r:=.ok .nx) s w6 P λY8 H8 g8 M=>#[Z7,g8,M,l]
      | ct=>exact tS.mk (r:=.ok .ct) s w6 P λY8 H8 g8 M=>#[Z7,g8,M,l]
      | br =>
       cases l
       refine tS.mk (r:=.ok .br) s w6 P λY8 H8 g8 M=>?_
       obtain ⟨g9,F⟩:=leave (R:=[]) M
       rw[eρ] at F
       exact q _ _ _ F
      | rt d' f' =>
       cases l
       refine tS.mk (r:=.ok (.rt d' f')) s w6 P λx8 Y8 H8 g8 M x1 x2=>?_
       obtain ⟨g9,F⟩:=leave (R:=[x8]) M
       rw[eρ] at F
       exact q x8 _ _ _ F x1 x2
  .have ek:k=p.2.length:=by lia
   subst ek
   rw[List.drop_length] at e4
   cases e4
   obtain ⟨g9,F⟩:=leave (R:=[]) I
   rw[eρ] at F
   exact .inl #[S,q _ _ _ F]
end
def uA (ix:List (Option Nat)) (Z:Sto):Sto:=ix.map λo=>match o with
 | some i=>(Z[i]?).join
 | none=>none
def uncap:List (Option Nat)->Sto->Sto->Option Sto
 | [],_,Z=>some Z
 | none::ix,O,Z=>uncap ix O.tail Z
 | some i::ix,O,Z=>match (Z[i]?).join,O.head? with
  | some (_,f),some (some (d',f'))=>if f'=f\/f'=.z then uncap ix O.tail (Z.set i (some (d',f'))) else none
  | _,_=>none
noncomputable def b5 (bnd:D->Sto->Option Sto) (c:M3 Bool) (elt:EM):List D->M3 (List D)
 | []=>aT []
 | d::ds=>λO=>match bnd d O with
  | none=>none
  | some O1=>af c (λb=>if b then af elt (λr=>af (dO r) λp=>af (b5 bnd c elt ds) λl=>aT (p.1::l)) else b5 bnd c elt ds) O1
def bz (im:IM) (bnd:D->Sto->Option Sto) (c:M3 Bool) (elt:EM) (ix:List (Option Nat)):EM:=af im λp=>λZ =>
 match b5 bnd c elt p.2 (uA ix (aF cV (us Z (pls p.1)) Z)) with
 | some (.ok ds,O)=>if p.2.length < 16777216 then (uncap ix O (aF cV (us Z (pls p.1)) Z)).map λZ2=>(.ok (.val (.lst ds) .u),aF ie (us Z (pls p.1)) Z2) else none
 | _=>none
section
variable {K:FG} {G G0:Gm} {W W0:D->Sto->Prop} {H H':Hp} {Y O:St} {Z Z':Sto} {T T':List It3} {g:Nat->Option It3} {x y z:It3} {α β:Type} {ix:List (Option Nat)}
def Inj (ix:List (Option Nat)):Prop:=∀ (j k i:Nat),ix[j]?=some (some i)->ix[k]?=some (some i)->j=k
def C3 (ix:List (Option Nat)) (g:Nat->Option It3) (j:Nat):Option It3:=(ix[j]?).join.bind g
def tY (ix:List (Option Nat)) (n:Nat) (g:Nat->Option It3):List It3:=(List.range n).filterMap λi=>if some i∈ix then none else g i
def A2 (G:Gm) (ix:List (Option Nat)) (Y:St):Gm:=#[G.H0,G.bw,λj=>((ix[j]?).join).isSome,cap ix Y,λ_=>none,G.src,λj=>(ix[j]?).join.bind G.lv]
theorem dZ {j:Nat} (h:C3 ix g j=some x):∃ i,ix[j]?=some (some i)/\g i=some x:=by
 unfold C3 at h
 cases e:ix[j]? with
 | none=>rw[e] at h;exact nsE h
 | some o =>
  rw[e] at h
  cases o with
  | none=>exact nsE h
  | some i=>exact #[i,rfl,h]
theorem mB {n:Nat} (h:x∈tY ix n g):∃ i,some i ∉ ix/\g i=some x:=by
 obtain ⟨i,_,e⟩:=List.mem_filterMap.mp h
 split at e
 .exact nsE e
 .rename_i a;exact #[i,a,e]
theorem zO {n i:Nat} (hi:i < n) (a:some i ∉ ix) (e:g i=some x):x∈tY ix n g:=List.mem_filterMap.mpr #[i,List.mem_range.mpr hi,by rw[if_neg a];exact e]
theorem Wf.cap (w:Wf K G H Y Z T g) (s:Inj ix):Wf K (A2 G ix Y) H (cap ix Y) (uA ix Z) (tY ix Z.length g++T) (C3 ix g):=by
 have ne:∀ {i j:Nat},ix[j]?=some (some i)->∀ k,some k ∉ ix->i≠k:=λe k l q=>l (by rw[<- q];exact He e)
 refine #[by unfold L2.cap uA;rw[Hb,Hb],λj=>?_,λj x h=>?_,λj x h=>?_,λx p=>?_,λj k x y n p t=>?_,λj x h y t=>?_,?_,w.base,λ_ _=>rfl,#[λ_ _ _ _ _=>rfl,λ_ _ _ _ _ _ _=>rfl,w.fx.bin,λb o e=>(by cases e),λj x h A=>?_]]
 .unfold C3 uA
  rw[Hh]
  cases e:ix[j]? with
  | none=>rfl
  | some o =>
   cases o with
   | none=>rfl
   | some i=>exact w.sl i
 .obtain ⟨i,e1,c⟩:=dZ h
  unfold L2.cap
  rw[Hh,e1]
  show some ((Y[i]?).getD none)=_
  rw[w.sv i x c];rfl
 .obtain ⟨i,_,c⟩:=dZ h
  have ok:=w.okS i x c
  exact #[ok.rep,ok.own,ok.src]
 .rcases G9.mp p with h | h
  .obtain ⟨i,_,e⟩:=mB h
   have ok:=w.okS i x e
   exact #[ok.rep,ok.own,ok.src]
  .have ok:=w.okT x h
   exact #[ok.rep,ok.own,ok.src]
 .obtain ⟨i,e1,c⟩:=dZ p
  obtain ⟨z,v,u⟩:=dZ t
  exact w.ss i z x y (λq=>n (s j k i e1 (q ▸ v))) c u
 .obtain ⟨i,e1,c⟩:=dZ h
  rcases G9.mp t with q | q
  .obtain ⟨k,l,e⟩:=mB q
   have:=ne e1 k l
   exact #[w.ss i k x y this c e,w.ss k i y x (Ne.symm this) e c]
  .exact w.st i x c y q
 .refine List.pairwise_append.mpr #[?_,w.tt,λa m b r=>?_]
  .unfold tY
   rw[List.pairwise_filterMap]
   refine List.pairwise_lt_range.imp λ{i k} lt a m b r=>?_
   have d:(if some i∈ix then none else g i)=some a:=m
   have f:(if some k∈ix then none else g k)=some b:=r
   split at d
   .cases d
   .split at f
    .cases f
    .exact #[w.ss i k a b (Hk lt) d f,w.ss k i b a (Nat.ne_of_gt lt) f d]
  .obtain ⟨k,l,e⟩:=mB m
   exact w.st k a e b r
 .obtain ⟨i,e1,c⟩:=dZ h
  show (ix[j]?).join.bind G.lv=_
  rw[e1]
  exact w.fx.lvS i x c A
theorem Wf.perm (w:Wf K G H Y Z T g) (p:T.Perm T'):Wf K G H Y Z T' g :=
 #[w.len,w.sl,w.sv,w.okS,λx a=>w.okT x (p.mem_iff.mpr a),w.ss,λi x e y b=>w.st i x e y (p.mem_iff.mpr b),(p.pairwise_iff λh=>Apart3.symm h).mp w.tt,w.base,w.pro,w.fx.sub λx a=>p.mem_iff.mpr a]
theorem jl:∀ {ix:List (Option Nat)} {O Z Z2:Sto},uncap ix O Z=some Z2->Inj ix->Z2.length=Z.length/\(∀ i,some i ∉ ix->(Z2[i]?).join=(Z[i]?).join) /\
  ∀ (j i:Nat),ix[j]?=some (some i)->∃ p q,(Z[i]?).join=some p/\(O[j]?).join=some q/\(Z2[i]?).join=some q/\(q.2=p.2\/q.2=.z)
 | [],O,Z,Z2,e,_=>by cases e;exact #[rfl,λ_ _=>rfl,λj i h=>by simp at h]
 | none::ix,O,Z,Z2,e,hij=>by
  unfold uncap at e
  obtain ⟨h1,h2,h3⟩:=jl e λj k i a b=>by
   have:=hij (j+1) (k+1) i (by simpa using a) (by simpa using b)
   lia
  refine #[h1,λi hi=>h2 i λq=>hi (GY _ q),λj i h=>?_]
  cases j with
  | zero=>simp at h
  | succ j =>
   obtain ⟨p,q,a,b,c⟩:=h3 j i (by simpa using h)
   exact #[p,q,a,by rw[List.getElem?_tail] at b;exact b,c]
 | some i0::ix,O,Z,Z2,e,hij=>by
  unfold uncap at e
  cases e1:(Z[i0]?).join with
  | none=>rw[e1] at e;exact nsE e
  | some p =>
   obtain ⟨d,f⟩:=p
   cases r:O.head? with
   | none=>rw[e1,r] at e;exact nsE e
   | some o =>
    cases o with
    | none=>rw[e1,r] at e;exact nsE e
    | some q =>
     obtain ⟨d',s⟩:=q
     rw[e1,r] at e
     dsimp only at e
     split at e
     .rename_i hf
      have g:=gi e1
      have l:some i0 ∉ ix:=λm=>by
       obtain ⟨k,u,t⟩:=List.mem_iff_getElem.mp m
       have:=hij 0 (k+1) i0 rfl (by simp[u,t])
       lia
      obtain ⟨h1,h2,h3⟩:=jl e λj k i a b=>by
       have:=hij (j+1) (k+1) i (by simpa using a) (by simpa using b)
       lia
      refine #[by rw[h1,List.length_set],λi hi=>?_,λj i h=>?_]
      .rw[h2 i λq=>hi (GY _ q),cW g,if_neg (λq=>hi (by rw[q];exact GX))]
      .cases j with
       | zero =>
        simp at h
        subst h
        refine #[(d,f),(d',s),e1,?_,?_,hf]
        .rw[List.head?_eq_getElem?] at r;rw[r];rfl
        .rw[h2 i0 l,cW g,if_pos rfl]
       | succ j =>
        have n:ix[j]?=some (some i):=by simpa using h
        obtain ⟨p,q,a,b,c⟩:=h3 j i n
        have ii:i≠i0:=λz=>l (by rw[<- z];exact He n)
        rw[cW g,if_neg ii] at a
        exact #[p,q,a,by rw[List.getElem?_tail] at b;exact b,c]
     .exact nsE e
theorem Wf.uncap (w:Wf K G H Y Z T g) (hH:∀ b o,H b=some o->G.H0 b=some o) (V:Inj ix) (e:L3.uncap ix τρ Z=some Z2) (hR:∀ x∈R,x.f=.z) (r:Wf K (A2 G ix Y) H' O' τρ (R++(tY ix Z.length g++T)) gC) :
  ∃ g2,Wf K G H' Y Z2 (R++T) g2:=by
 obtain ⟨I,h2,h3⟩:=jl e V
 let inv (i:Nat):Option Nat:=(List.range ix.length).find? λj=>decide (ix[j]?=some (some i))
 have B:∀ i j,inv i=some j->ix[j]?=some (some i):=λi j h=>by simpa using List.find?_some h
 have A:∀ i,inv i=none->some i ∉ ix:=λi h m=>by
  obtain ⟨k,hk,ek⟩:=List.mem_iff_getElem.mp m
  have:=List.find?_eq_none.mp h k (List.mem_range.mpr hk)
  simp[hk,ek] at this
 let g2 (i:Nat):Option It3:=match inv i with | some j=>gC j | none=>g i
 have val:∀ i u,g2 i=some u->(∃ j p q,ix[j]?=some (some i)/\gC j=some u/\(Z[i]?).join=some p/\(τρ[j]?).join=some q/\(q.2=p.2\/q.2=.z))\/(some i ∉ ix/\g i=some u):=λi u h=>by
  grind
 have out:∀ i u,some i ∉ ix->g i=some u->u∈tY ix Z.length g:=λi u C e=>by
  have s:=w.sl i
  rw[e] at s
  exact zO (gi s.symm) C e
 have back:∀ i j u,ix[j]?=some (some i)->gC j=some u->Y[i]?=some (some u.v):=λi j u t l=>by
  have a:=r.sv j u l
  have b:=r.pro j (by show ((ix[j]?).join).isSome=true;rw[t];rfl)
  rw[a] at b
  have b:some (some u.v)=(L2.cap ix Y)[j]?:=b
  unfold L2.cap at b
  rw[Hh,t] at b
  have b:some (some u.v)=some ((Y[i]?).getD none):=b
  cases q:Y[i]? with
  | none=>rw[q] at b;cases b
  | some o=>rw[q] at b;cases b;rfl
 have τ:∀ i j u p q,ix[j]?=some (some i)->gC j=some u->(Z[i]?).join=some p->(τρ[j]?).join=some q->(q.2=p.2\/q.2=.z)->∃ y,g i=some y/\y.v=u.v/\(u.f=y.f\/u.f=.z):=λi j u p q t l J eq hf=>by
  obtain ⟨y,N,P,M,y4⟩:=w.slot (d:=p.1) (f:=p.2) J
  have b:=back i j u t l
  rw[y4] at b
  have s:=r.sl j
  rw[l,eq] at s
  have s:some (u.d,u.f)=some q:=s
  refine #[y,N,by injection b with b;injection b,?_]
  rw[M,show u.f=q.2 by injection s with s;rw[<- s]]
  exact hf
 refine #[g2,#[by rw[I];exact w.len,λi=>?_,λi u h=>?_,λi u h=>?_,λu hu=>?_,λi k a b n ha D=>?_,λi a h b D=>?_,r.tt.sublist ((List.Sublist.refl R).append (Hf _ T)),r.base,w.pro,#[λu hu hf=>?_,λi u h X hf a σ=>?_,r.fx.bin,λb o D=>?_,λi u h I=>?_]]]
 .show (match inv i with | some j=>gC j | none=>g i).map _=_
  cases ρ:inv i with
  | none=>rw[h2 i (A i ρ)];exact w.sl i
  | some j =>
   obtain ⟨p,q,a,b,c,_⟩:=h3 j i (B i j ρ)
   rw[c,<- b];exact r.sl j
 .rcases val i u h with ⟨j,p,q,t,l,_⟩ | ⟨C,e⟩
  .exact back i j u t l
  .exact w.sv i u e
 .rcases val i u h with ⟨j,p,q,t,l,_⟩ | ⟨C,e⟩
  .have ok:=r.okS j u l
   exact #[ok.rep,ok.own,ok.src]
  .have ok:=r.okT u (G5 _ (G4 _ (out i u C e)))
   exact #[ok.rep,ok.own,ok.src]
 .have ok:=r.okT u (by
   rcases G9.mp hu with q | q
   .exact G4 _ q
   .exact G5 _ (G5 _ q))
  exact #[ok.rep,ok.own,ok.src]
 .rcases val i a ha with ⟨j,p,q,t,l,_⟩ | ⟨C,e⟩
  .rcases val k b D with ⟨φ,p',q',F,E,_⟩ | ⟨L,W⟩
   .exact r.ss j φ a b (λz=>n (by subst z;rw[t] at F;injection F with z;injection z)) l E
   .exact (r.st j a l b (G5 _ (G4 _ (out k b L W)))).1
  .rcases val k b D with ⟨φ,p',q',F,E,_⟩ | ⟨L,W⟩
   .exact (r.st φ b E a (G5 _ (G4 _ (out i a C e)))).2
   .exact w.ss i k a b n e W
 .have S:b∈R++(tY ix Z.length g++T):=by
   rcases G9.mp D with q | q
   .exact G4 _ q
   .exact G5 _ (G5 _ q)
  rcases val i a h with ⟨j,p,q,t,l,_⟩ | ⟨C,e⟩
  .exact r.st j a l b S
  .rcases G9.mp D with q | q
   .exact ((List.pairwise_append.mp r.tt).2.2 b q a (G4 _ (out i a C e))).symm
   .exact w.st i a e b q
 .rcases G9.mp hu with q | q
  .exact absurd (hR u q) hf
  .exact w.fx.frT u q hf
 .rcases val i u h with ⟨j,p,q,t,l,J,eq,Q⟩ | ⟨C,e⟩
  .obtain ⟨y,N,P,M⟩:=τ i j u p q t l J eq Q
   refine w.fx.frS i y N X (λz=>hf ?_) a (by rw[P];exact σ)
   rcases M with h | h
   .rw[h];exact z
   .exact h
  .exact w.fx.frS i u e X hf a σ
 .obtain ⟨o',ho⟩:=w.fx.ob b o D
  have h0:=hH b o' ho
  by_cases q:G.bw b
  .exact r.fx.bin b q
  .exact #[o',r.base b o' h0 q]
 .rcases val i u h with ⟨j,p,q,t,l,J,eq,Q⟩ | ⟨C,e⟩
  .obtain ⟨y,N,P,M⟩:=τ i j u p q t l J eq Q
   rw[<- P]
   refine w.fx.lvS i y N ?_
   rcases M with h | h
   .rw[<- h];exact I
   .rw[h] at I;cases I
  .exact w.fx.lvS i u e I
theorem xH {J:It} {H1:Hp} {ys els:List It3} {ds:List D} {bnd:D->Sto->Option Sto} {c:M3 Bool} {elt:EM} {tg:TG} {tc:TT} {te:TE} {Gc:Gm} {a:List It3} {j:List D} {τρ τρ':Sto} {gC:Nat->Option It3} {ρ:List V->Hp->Prop} {M:Addr->Prop}
  (hz:(16777216:Nat)=sizeLine) (I:∀ x∈els,x∈a/\x.f=.z)
  (W:∀ H',(∀ b o,H1 b=some o->¬ Gc.bw b->H' b=some o)->(∀ (i:Nat) (d:D),ds[i]?=some d->J.go i H'/\∀ x g,J.yld i H' x g->∃ w,New K H' g (c9 els) w/\w.d=d/\w.f=.z/\w.v=x)/\J.stop ds.length H')
  (h0:Gc.H0=H1) (hb:Bnd K Gc.pr tg bnd) (σ:∀ Y H Q,tT K Gc (λ_ _=>False) c Y H Q->tc Y H Q) (T:∀ Y H Q,tE K Gc (λ_ _=>False) elt Y H Q->te Y H Q)
  (hlen:ds.length < 16777216) (w:Wf K Gc H1 O τρ a gC) (e:b5 bnd c elt ds τρ=some (.ok j,τρ'))
  (hZ:∀ (us:List It3) (O':St) (H':Hp) (g':Nat->Option It3),(∀ x∈us,x.f=.z)->us.map (·.d)=j->Wf K Gc H' O' τρ' (us++a) g'->ρ (us.map (·.v)) H'):sU J tg tc te ρ O H1:=by
 refine #[λi m vs O' H'=>i<=ds.length/\m=ds.length - i/\vs.length<=i/\∃ (us:List It3) (Z2:Sto) (g2:Nat->Option It3) (r:List D),(∀ x∈us,x.f=.z)/\us.map (·.v)=vs/\Wf K Gc H' O' Z2 (us++a) g2/\b5 bnd c elt (ds.drop i) Z2=some (.ok r,τρ')/\us.map (·.d)++r=j,#[_,Nat.zero_le _,rfl,Hi _,[],τρ,gC,j,λ_ h=>(by cases h),rfl,w,e,rfl],?_]
 rintro i m vs O1 H2 ⟨hi,rfl,ae,us,Z2,g2,r,q,s,τ,N,k⟩
 refine #[by lia,?_]
 obtain ⟨φ,A⟩:=W H2 λb o S hn=>τ.base b o (by rw[h0];exact S) hn
 by_cases n:i < ds.length
 .obtain ⟨d,hd⟩:∃ d,ds[i]?=some d:=#[_,G7 n]
  have t:ds.drop i=d::ds.drop (i+1):=by
   rw[List.drop_eq_getElem_cons n]
   rw[G7 n] at hd
   cases hd;rfl
  rw[t] at N
  obtain ⟨go,yld⟩:=φ i d hd
  refine .inr ⟨go,λB O5 H5=>B.length<=i+1/\∃ (us:List It3) (Z5:Sto) (g5:Nat->Option It3) (r:List D),(∀ x∈us,x.f=.z)/\us.map (·.v)=B/\Wf K Gc H5 O5 Z5 (us++a) g5/\b5 bnd c elt (ds.drop (i+1)) Z5=some (.ok r,τρ')/\us.map (·.d)++r=j,
   λB O5 H5 ⟨X,h5⟩=>⟨ds.length - (i+1),by lia,n,rfl,X,h5⟩,λx g F=>?_⟩
  obtain ⟨u,nu,ud,uf,uv⟩:=yld x g F
  have w3:Wf K Gc g O1 Z2 (u::(us++a)) g2:=τ.push nu λc hc=>τ.alls (ys:=els) (λy F=>#[.inr (G5 _ (I y F).1),(I y F).2]) hc
  have G:(match bnd d Z2 with
   | none=>none
   | some O1=>af c (λb=>if b then af elt (λr=>af (dO r) λp=>af (b5 bnd c elt (ds.drop (i+1))) λl=>aT (p.1::l)) else b5 bnd c elt (ds.drop (i+1))) O1)=some (.ok r,τρ'):=N
  cases P:bnd d Z2 with
  | none=>rw[P] at G;exact nsE G
  | some Z3 =>
   rw[P] at G
   dsimp only at G
   rw[<- uv]
   refine hb Gc g O1 Z2 Z3 _ g2 u _ rfl uf w3 (by rw[ud];exact P) λO4 g4 w4=>?_
   refine σ _ _ _ (tT.seq (Le.refl K Gc _) w4 G (λx R=>by cases R) λb Z5 L H5 g5 w5=>?_)
   cases b with
   | false =>
    simp only[Hz,if_false] at L ⊢
    exact #[by lia,us,Z5,g5,r,q,s,w5,L,k]
   | true =>
    simp only[if_true] at L ⊢
    refine T _ _ _ (tE.seq (Le.refl K Gc _) w5 L (λx R=>by cases R) λra Z6 e6 v H6 #[Ts,g6,w6,a6]=>?_)
    obtain ⟨p,Z7,g7,C,E,w7,f1,f2,_,f3⟩:=a6.take w6 e6
    have w8:=Wf.lowT (Ts:=[C]) w7
    unfold af at E
    cases e8:b5 bnd c elt (ds.drop (i+1)) Z7 with
    | none=>rw[e8] at E;exact nsE E
    | some pr =>
     obtain ⟨o,Z8⟩:=pr
     rw[e8] at E
     cases o with
     | error x=>cases E
     | ok l =>
      cases E
      refine #[by rw[Ht];simp;lia,us++[dm C],Z7,g7,l,λy F=>?_,by rw[List.map_append,s,<- f3];rfl,?_,e8,?_]
      .rcases G9.mp F with h | h
       .exact q y h
       .rw[Hy.mp h];rfl
      .exact w8.perm (by
        show ([dm C]++(us++a)).Perm (us++[dm C]++a)
        rw[<- List.append_assoc]
        exact (List.perm_append_comm).append_right a)
      .rw[List.map_append,List.append_assoc]
       show us.map (·.d)++((dm C).d::l)=j
       rw[show (dm C).d=p.1 from f1]
       exact k
 .have ei:i=ds.length:=by lia
  subst ei
  rw[List.drop_length] at N
  cases N
  rw[List.append_nil] at k
  subst s
  exact .inl #[A,hZ us O1 H2 g2 q k τ]
end
section
variable {K:FG} {G G0:Gm} {W W0:D->Sto->Prop} {H H':Hp} {Y O:St} {Z Z':Sto} {T T':List It3} {g:Nat->Option It3} {x y z:It3} {α β:Type} {ix:List (Option Nat)}
def bh (ix:List (Option Nat)):Gm:=#[λ_=>none,λ_=>False,λj=>((ix[j]?).join).isSome,[],λ_=>none,λ_=>False,λ_=>none]
abbrev noX:D->Sto->Prop:=λ_ _=>False
theorem vE (h:G1.pr=(bh ix).pr) (le:Le K G W G1 noX):Le K G W (bh ix) noX:=⟨le.pr.trans h,λH Y Z T g e w q=>by
 obtain ⟨_,_,_,_,f⟩:=le.ex H Y Z T g e w q
 exact f.elim⟩
theorem BC (h:G1.pr=(bh ix).pr) (q:tE K G1 noX m Y H Q):tE K (bh ix) noX m Y H Q:=by
 obtain ⟨G,W,le,r⟩:=q
 exact #[G,W,vE h le,r]
theorem Bu (h:G1.pr=(bh ix).pr) (q:tT K G1 noX m Y H Q):tT K (bh ix) noX m Y H Q:=by
 obtain ⟨G,W,le,r⟩:=q
 exact #[G,W,vE h le,r]
def fI:M3 Bool:=aT true
theorem DZ (h:tT K G0 W0 fI Y H Q):tYes Y H Q:=by
 refine h.use λG W le Z T g o Z' w e q=>?_
 cases e
 exact q _ _ w
theorem kH:∀ {ds a:List D} {τρ τρ':Sto},b5 bnd c elt ds τρ=some (.ok a,τρ')->a.length<=ds.length
 | [],a,τρ,τρ',e=>by cases e;exact Hi _
 | d::ds,a,τρ,τρ',e=>by
  unfold b5 at e
  split at e
  .exact nsE e
  .rename_i O1 _
   unfold af at e
   split at e
   .exact nsE e
   .cases e
   .rename_i b O2 _
    cases b with
    | false =>
     simp only[Hz,if_false] at e
     have:=kH e
     simp;lia
    | true =>
     simp only[if_true] at e
     split at e
     .exact nsE e
     .cases e
     .split at e
      .exact nsE e
      .cases e
      .split at e
       .exact nsE e
       .cases e
       .rename_i l O5 f
        cases e
        have:=kH f
        simp;lia
theorem sH (hz:(16777216:Nat)=sizeLine) (N:Inj ix) (V:Bnd K (bh ix).pr tg bnd) (le:Le K G W G0 W0) (w:Wf K G H Y Z T g) (e:bz im bnd c elt ix Z=some (o,Z')) (he:∀ x,o=.error x->W x Z') (hZ:∀ (us:List It3) (H':Hp) (g':Nat->Option It3) (Ts:List It3) (ds:List D),o=.ok (.val (.lst ds) .u)->(∀ x∈us,x.f=.z)->us.map (·.d)=ds->us.length<=16777216->Wf K G H' Y Z' (us++T) g'->ρ (us.map (·.v)) H') :
  tI K G0 W0 im Y H λJ H1=>sU J tg (tT K (bh ix) noX c) (tE K (bh ix) noX elt) ρ (cap ix Y) H1:=by
 refine tI.seq le w e he λp Z1 e1=>?_
 intro J H1 vs Ts g1 ys n a1 C hw
 have A:=us_u (is:=pls p.1) n
 have S:∀ i y,i∈pls p.1->g1 i=some y->y.f=.u->i∈us Z1 (pls p.1):=λi y hi X hf=>ye n hi X hf
 generalize us Z1 (pls p.1)=is at e1 A S
 have w2:=n.enter is
 obtain ⟨els,k,walk⟩:=hw
 have hM:∀ b,(∃ j y,j ∉ is/\g1 j=some y/\y.f=.u/\y.v=.ref b)->MutAt H1 b:=λb #[j,y,_,X,hf,m]=>by
  obtain ⟨_,a,L',v1,v2,_⟩:=(n.okS j y X).own (by rw[hf];intro q;cases q)
  rw[m] at v1;cases v1
  exact (n.okS j y X).rep.inH b (by rw[v2];exact GX)
 have F:∀ y∈ys,∀ b∈y.L,¬ ∃ j y,j ∉ is/\g1 j=some y/\y.f=.u/\y.v=.ref b:=λy I b V #[j,y',nj,l,hf,m]=>by
  have τ:y'.f≠.z:=by rw[hf];intro q;cases q
  rcases C y I with ⟨i,hi,P⟩ | I
  .by_cases ij:i=j
   .subst ij
    rw[P] at l;cases l
    exact nj (S i y hi P hf)
   .exact n.ss j i y' y (Ne.symm ij) l P τ b m V
  .exact (n.st j y' l y (G4 _ I)).1 τ b m V
 have t:∀ y∈ys,Itm (Ts++T) g1 y:=λy I=>by
  rcases C y I with ⟨i,_,P⟩ | h
  .exact .inl #[i,P]
  .exact .inr (G4 _ h)
 have kid:∀ x∈els,∀ c∈x.L,dX ((Ts++T).map bu) (λj=>if j∈is then (g1 j).map bu else g1 j) c/\(H1 c=none\/(G.H0 c=none\/G.src c)):=λx r c hc=>by
  obtain ⟨nr,sr⟩:=n.kids t ((k x r).2.2 c hc)
  refine #[#[λi z s hf m=>?_,λz hz hf m=>?_],.inr sr]
  .have s:(if i∈is then (g1 i).map bu else g1 i)=some z:=s
   by_cases q:i∈is
   .rw[if_pos q] at s
    obtain ⟨σ,e0,e1⟩:=G3.mp s
    subst e1
    exact nr.1 i σ e0 (λq=>hf (lentF_z.mpr q)) m
   .rw[if_neg q] at s
    exact nr.1 i z s hf m
  .obtain ⟨σ,h0,rfl⟩:=Hg.mp hz
   exact nr.2 σ h0 (λq=>hf (lentF_z.mpr q)) m
 have w3:Wf K (eC G H1 g1 is) H1 Y (aF cV is Z1) (els++(Ts++T).map bu) (λj=>if j∈is then (g1 j).map bu else g1 j):=w2.pushAll λx r=>#[(k x r).1,(k x r).2.1,λc hc=>kid x r c hc]
 have w4:=w3.cap N
 cases φ:b5 bnd c elt p.2 (uA ix (aF cV is Z1)) with
 | none=>rw[φ] at e1;exact nsE e1
 | some rr =>
  obtain ⟨o2,τρ⟩:=rr
  rw[φ] at e1
  cases o2 with
  | error x=>exact nsE e1
  | ok ds =>
   dsimp only at e1
   split at e1
   .rename_i hlen
    cases e3:uncap ix τρ (aF cV is Z1) with
    | none=>rw[e3] at e1;exact nsE e1
    | some Z3 =>
     rw[e3] at e1
     have eo:o=.ok (.val (.lst ds) .u)/\Z'=aF ie is Z3:=by cases e1;exact #[rfl,rfl]
     obtain ⟨eo,eρ⟩:=eo
     refine xH (K:=K) (Gc:=A2 (eC G H1 g1 is) ix Y) (els:=els) (M:=λ_=>False) (ys:=ys) hz (λx r=>#[G5 _ (G4 _ r),(k x r).1]) (λH' hk=>walk _ H' hM hk F) rfl V (λY' H Q q=>Bu (G1:=A2 (eC G H1 g1 is) ix Y) rfl q) (λY' H Q q=>BC (G1:=A2 (eC G H1 g1 is) ix Y) rfl q) hlen w4 φ λus O' H' g' B E w5=>?_
     obtain ⟨g6,w6⟩:=Wf.uncap w3 (λb o h=>h) N e3 B w5
     have w7:=Wf.leave (T:=Ts++T) (T':=T) (R:=us) n A (Hf Ts T) (w6.sub ((List.Sublist.refl us).append (by
      rw[List.map_append]
      exact (Hf (Ts.map bu) (T.map bu)).trans (Hf els _))))
     have hle:us.length<=16777216:=by
      have h1:us.length=ds.length:=by rw[<- E,Hb]
      have h2:=kH φ
      lia
     rw[<- eρ] at w7
     exact hZ us H' _ Ts ds eo B E hle w7
   .exact nsE e1
theorem oV {us:List It3} (w:Wf K G H Y Z (us++T) g) (j:∀ x∈us,x.f=.z) (b:H p=none) :
  Wf K G (upd H p (.lst (us.map (·.v)))) Y Z (#[.lst (us.map (·.d)),.ref p,p::(us.map (·.L)).flatten,.u]::T) g:=by
 have hi:∀ y∈us,Itm (us++T) g y/\y.f=.z:=λy i=>#[.inr (G4 _ i),j y i]
 have np:p ∉ (us.map (·.L)).flatten:=λa=>by
  obtain ⟨y,hm,a⟩:=fE a
  obtain ⟨o,k⟩:=((w.itm (hi y hm).1).rep.inH p a).ex
  rw[b] at k;exact nsE k
 have n:New K H (upd H p (.lst (us.map (·.v)))) (c9 us) ⟨.lst (us.map (·.d)),.ref p,p::(us.map (·.L)).flatten,.u⟩:=⟨bf b,.lst aE ((lJ λy i=>(w.itm (hi y i).1).rep).same (bf b)),λc a=>by
  rcases G6.mp a with e | a
  .rw[e];exact .inl b
  .exact .inr (fE a),λ_=>⟨rfl,p,_,rfl,rfl,np,b⟩⟩
 exact (w.push n λc h=>w.alls hi h).sub (List.Sublist.cons_cons _ (Hf us T))
theorem BE (hz:(16777216:Nat)=sizeLine) (b:Inj ix) (i:Bnd K (bh ix).pr tg bnd) (h:tE K G0 W0 (bz im bnd c elt ix) Y H Q) :
  Dq (tI K G0 W0 im) tg (tT K (bh ix) noX c) (tE K (bh ix) noX elt) ix Y H Q:=by
 refine h.use λG W le Z T g o Z' w e q=>?_
 refine sH hz b i le w e q.err λus H' g' Ts ds m a f n l=>?_
 subst m f
 intro p j
 have k:=oV l a j
 exact q (.ref p) _ #[[_],g',k,Ar.val (#[.lst (us.map (·.d)),.ref p,p::(us.map (·.L)).flatten,.u]:It3)]
theorem sZ {i:Nat} (hz:(16777216:Nat)=sizeLine) (j:Inj ix) (n:Bnd K (bh ix).pr tg bnd) (s:G0.pr i=false) (h:tS K G0 W0 (aZ i (bz im bnd c elt ix)) E Y H) :
  Ds i (tI K G0 W0 im) tg (tT K (bh ix) noX c) (tE K (bh ix) noX elt) ix E Y H:=by
 refine h.use λG W le Z T g r Z' w e q=>?_
 unfold aZ af at e
 cases e1:bz im bnd c elt ix Z with
 | none=>rw[e1] at e;exact nsE e
 | some pr =>
  obtain ⟨o,Z1⟩:=pr
  rw[e1] at e
  have a:∀ x,o=.error x->W x Z1:=λx m=>by subst m;cases e;exact q
  refine sH hz j n le w e1 a λus H' g' Ts ds y b l z v=>?_
  subst y l
  intro p k
  have t:=oV v b k
  have e:(if i < Z1.length then some ((.ok .nx,Z1.set i (some (D.lst (us.map (·.d)),Fl.u))):Except D Flw×Sto) else none)=some (r,Z'):=e
  split at e
  .rename_i hi
   cases e
   exact q _ _ _ (t.store (f:=.u) hi (by rw[le.pr];exact s) (.inl rfl) (by intro h;cases h))
  .exact nsE e
end
section
variable {K:FG} {G G0:Gm} {W W0:D->Sto->Prop} {H H':Hp} {Y:St} {Z Z':Sto} {T T':List It3} {g:Nat->Option It3} {x y z:It3} {α β:Type}
theorem Wf.mutate {i:Nat} (w:Wf K G H Y Z T g) (B:g i=some y) (hu:y.f=.u) (ev:y.v=.ref a) (hm:jV d'=true) (rep:Rep K (upd H a o') d' (.ref a) (a::C)) (na:a ∉ C) (X:∀ c∈C,dX T g c/\(G.H0 c=none\/G.src c)):Wf K G (upd H a o') Y (Z.set i (some (d',.u))) T (λj=>if j=i then some #[d',.ref a,a::C,.u] else g j):=by
 have x:y.f≠.z:=by rw[hu];intro q;cases q
 have V:=w.okS i y B
 obtain ⟨_,a',L',v1,v2,v3,v4⟩:=V.own x
 rw[ev] at v1;cases v1
 have hi:i < Z.length:=by
  have:=w.sl i
  rw[B] at this
  exact gi this.symm
 have ma:MutAt H a:=V.rep.inH a (by rw[v2];exact GX)
 have val:∀ j u,(if j=i then some (#[d',.ref a,a::C,.u]:It3) else g j)=some u->(j=i/\u=#[d',.ref a,a::C,.u])\/(j≠i/\g j=some u):=λj u h=>by
  by_cases q:j=i
  .rw[if_pos q] at h;cases h;exact .inl #[q,rfl]
  .rw[if_neg q] at h;exact .inr #[q,h]
 have keep:∀ u,ItOk K G H u->a ∉ u.L->ItOk K G (upd H a o') u:=λu ou hn=>ou.keep (M:=λb=>b=a) (λb o l n=>by rw[aq n];exact l) (λb e=>by rw[e];exact ma) λb l e=>hn (by rw[<- e];exact l)
 have R:∀ j u,j≠i->g j=some u->a ∉ u.L:=λj u n e=>w.ss i j y u (Ne.symm n) B e x a ev
 have P:∀ u∈T,a ∉ u.L:=λu r=>(w.st i y B u r).1 x a ev
 have J:∀ b o,H b=some o->∃ τ,upd H a o' b=some τ:=λb o l=>by
  by_cases q:b=a
  .rw[q,aE];exact #[_,rfl]
  .rw[aq q];exact #[o,l]
 refine #[by rw[List.length_set];exact w.len,λj=>?_,λj u h=>?_,λj u h=>?_,λu r=>keep u (w.okT u r) (P u r),λj k p q n N hq=>?_,λj u h t E=>?_,w.tt,λb o e n=>?_,w.pro,#[w.fx.frT,λj u h N hf b φ=>?_,λb l=>?_,λb o l=>?_,λj u h W=>?_]]
 .rw[cW hi]
  by_cases q:j=i
  .rw[if_pos q,if_pos q];rfl
  .rw[if_neg q,if_neg q];exact w.sl j
 .rcases val j u h with ⟨rfl,rfl⟩ | ⟨n,h⟩
  .rw[w.sv j y B,ev]
  .exact w.sv j u h
 .rcases val j u h with ⟨rfl,rfl⟩ | ⟨n,h⟩
  .refine #[rep,λ_=>#[hm,a,C,rfl,rfl,na,λ_=>v4 hu],λc d=>?_]
   rcases G6.mp d with e | d
   .rw[e];exact V.src a (by rw[v2];exact GX)
   .exact (X c d).2
  .exact keep u (w.okS j u h) (R j u n h)
 .rcases val j p N with ⟨I,ep⟩ | ⟨n1,m⟩
  .rcases val k q hq with ⟨σ,eq⟩ | ⟨ρ,A⟩
   .exact absurd (I.trans σ.symm) n
   .rw[ep]
    intro _ c s
    cases s
    exact R k q ρ A
  .rcases val k q hq with ⟨σ,eq⟩ | ⟨ρ,A⟩
   .rw[eq]
    intro hf c s d
    rcases G6.mp d with e | d
    .obtain ⟨_,b,L2,F,Q,_⟩:=(w.okS j p m).own hf
     rw[s] at F;cases F
     exact R j p n1 m (by rw[<- e,Q];exact GX)
    .exact (X c d).1.1 j p m hf s
   .exact w.ss j k p q n m A
 .rcases val j u h with ⟨I,D⟩ | ⟨n,h'⟩
  .rw[D]
   refine #[λ_ c s=>by cases s;exact P t E,λhf c s d=>?_]
   rcases G6.mp d with e | d
   .obtain ⟨_,b,L2,F,Q,_⟩:=(w.okT t E).own hf
    rw[s] at F;cases F
    exact P t E (by rw[<- e,Q];exact GX)
   .exact (X c d).1.2 t E hf s
  .exact w.st j u h' t E
 .have:b≠a:=λz=>by
   subst z
   rcases v4 hu with h | h
   .rw[e] at h;cases h
   .exact n h
  rw[aq this];exact w.base b o e n
 .rcases val j u h with ⟨I,D⟩ | ⟨n,h'⟩
  .subst I
   rw[D] at φ
   cases φ
   exact w.fx.frS j y B N x a ev
  .exact w.fx.frS j u h' N hf b φ
 .obtain ⟨o,S⟩:=w.fx.bin b l
  exact J b o S
 .obtain ⟨o2,S⟩:=w.fx.ob b o l
  exact J b o2 S
 .rcases val j u h with ⟨I,D⟩ | ⟨n,h'⟩
  .rw[D] at W;cases W
  .exact w.fx.lvS j u h' W
def MutD (K:FG) (r:V->List V->Hp->VK->Prop) (f:D->List D->Option (D×D)):Prop:=∀ (a:Addr) (d:D) (b:List Addr) (as:List It3) (H:Hp) (Q:VK) (p:D×D),Rep K H d (.ref a) (a::b)->jV d=true->a ∉ b->(∀ x∈as,Rep K H x.d x.v x.L)->(∀ x∈as,a ∉ x.L)->f d (as.map (·.d))=some p ->
 (∀ (o':HO) (e:List Addr) (w:It3),Rep K (upd H a o') p.1 (.ref a) (a::e)->jV p.1=true->(∀ c∈e,c∈b\/c9 as c)->w.f=.z->w.d=p.2->Rep K (upd H a o') w.d w.v w.L->(∀ c∈w.L,c∈b\/c9 as c)->Q w.v (upd H a o'))->r (.ref a) (as.map (·.v)) H Q
def chk (ok:D->Bool) (i:Nat):M3 Unit:=λZ=>match (Z[i]?).join with
 | some (d,_)=>if ok d then some (.ok (),Z) else none
 | none=>none
theorem qF {i:Nat} (e:af (ac i) k Z=some (r,Z')):∃ p,(Z[i]?).join=some p/\k (.pl i) Z=some (r,Z'):=by
 unfold af ac at e
 cases q:(Z[i]?).join with
 | none=>rw[q] at e;exact nsE e
 | some p=>rw[q] at e;exact #[p,rfl,e]
theorem AX {i:Nat} (e:af (chk ok i) k Z=some (r,Z')):(∀ p,(Z[i]?).join=some p->ok p.1=true)/\k () Z=some (r,Z'):=by
 unfold af chk at e
 grind
def sg (ok:D->Bool) (f:D->List D->Option (D×D)) (i:Nat) (ms:M3 (List R3)):EM:=af (ac i) λ_=>af (chk ok i) λ_=>af ms λrs=>af (gives rs) λds=>λZ=>match (Z[i]?).join with
 | some (d,.u)=>match f d ds with
  | some p=>some (.ok (.val p.2 .z),Z.set i (some (p.1,.u)))
  | none=>none
 | _=>none
theorem Wf.changed {i:Nat} {as us:List It3} (S:MutD K r f) (w:Wf K G H Y Z (us++T) g) (e:(Z[i]?).join=some (d,.u)) (P:Y[i]?=some (some v)) (D:∀ y∈as,Itm (us++T) g y/\y.f=.z) (R:f d (as.map (·.d))=some p) (q:∀ v H',Got K G Y (Z.set i (some (p.1,.u))) T (.val p.2 .z) v H'->Q v H'):r v (as.map (·.v)) H Q:=by
 obtain ⟨y,A,M,N,t⟩:=w.slot e
 rw[P] at t
 injection t with t
 injection t with t
 have n:y.f≠.z:=by rw[N];intro q;cases q
 have F:=w.okS i y A
 obtain ⟨m,a,E,v1,v2,I,_⟩:=F.own n
 have ra:=F.rep
 rw[v1,v2,M] at ra
 rw[M] at m
 rw[t,v1]
 have na:∀ x∈as,a ∉ x.L:=λx o b=>by
  have:=(w.kid (D x o).1 b λhf=>absurd (D x o).2 hf).1 i y A n
  exact this v1
 refine S a d E as H Q p ra m I (λx o=>(w.itm (D x o).1).rep) na R λo' ρ u X V s1 J W φ B=>?_
 have k:∀ c,(c∈E\/c9 as c)->dX (us++T) g c/\(G.H0 c=none\/G.src c):=λc b=>by
  rcases b with b | b
  .have C:c∈y.L:=by rw[v2];exact GY _ b
   exact #[w.kid (.inl #[i,A]) C λ_ l=>by rw[v1] at l;cases l;exact I b,F.src c C]
  .exact w.alls D b
 have τ:∀ c,(c∈E\/c9 as c)->c≠a:=λc b z=>(k c b).1.1 i y A n (by rw[z];exact v1)
 have w1:=w.mutate (o':=o') A N v1 V X (λh=>τ a (s1 a h) rfl) λc b=>k c (s1 c b)
 have σ:=w1.pushAll (ws:=[u]) λx o=>by
  rw[Hy.mp o]
  refine #[J,φ,λc b=>?_]
  have s:=k c (B c b)
  refine #[#[λj z l hf hz=>?_,s.1.2],s.2]
  have l:(if j=i then some (#[p.1,.ref a,a::ρ,.u]:It3) else g j)=some z:=l
  by_cases q:j=i
  .rw[if_pos q] at l
   cases l
   cases hz
   exact τ a (B a b) rfl
  .rw[if_neg q] at l
   exact s.1.1 j z l hf hz
 rw[<- W,<- J] at q
 exact q u.v _ #[[u],_,σ.sub ((List.Sublist.refl [u]).append (Hf us T)),.val u]
theorem Es {i:Nat} (B:MutD K r f) (hok:∀ d v L H,ok d=true->Rep K H d v L->tyV K Ty v H) (h:tE K G0 W0 (sg ok f i ms) Y H Q):tBM K Ty r (ww i) (tA K G0 W0 ms) Y H Q:=by
 refine h.use λG W le Z T g o Z' w e q=>?_
 obtain ⟨s,k,e⟩:=qF e
 obtain ⟨E,e⟩:=AX e
 obtain ⟨n,f0⟩:=s
 obtain ⟨y,A,x,I,j⟩:=w.slot k
 refine #[y.v,j,hok n y.v y.L H (E _ k) (by rw[<- x];exact (w.okS i y A).rep),?_]
 refine tA.seq le w e q.err λrs Z1 e1 J H1 Ts g1 F a1=>?_
 obtain ⟨ds,Z2,g2,a,_,D,_,ys,t,f1,f2⟩:=a1.gives F e1
 subst f1 f2
 cases c:(Z2[i]?).join with
 | none=>rw[c] at a;exact nsE a
 | some p3 =>
  obtain ⟨m,C⟩:=p3
  rw[c] at a
  cases C with
  | u =>
   dsimp only at a
   cases b:f m (ys.map (·.d)) with
   | none=>rw[b] at a;exact nsE a
   | some p =>
    rw[b] at a
    cases a
    exact D.changed B c j t b q
  | l=>exact nsE a
  | z=>exact nsE a
def mi (t:V->V->V->Hp->(Hp->Prop)->Prop):V->List V->Hp->VK->Prop:=λx a H Q=>∃ k v,a=[k,v]/\t x k v H λH'=>Q .non H'
def lu (f:D->List D->Option (D×D)) (i:Nat) (mk a:EM):SM:=af a λb=>af (ac i) λ_=>af mk λc=>af (gives [c,b]) λds=>λZ=>match (Z[i]?).join with
 | some (d,.u)=>match f d ds with
  | some p=>some (.ok .nx,Z.set i (some (p.1,.u)))
  | none=>none
 | _=>none
theorem Ec {i:Nat} (L:MutD K (mi t) f) (h:tS K G0 W0 (lu f i mk mv) E Y H):yx (tE K G0 W0 mv) (gSub (ww i) (tE K G0 W0 mk) t) E Y H:=by
 refine h.use λG W le Z T g r Z' w e q=>?_
 refine tE.seq le w e q.err λτ Z1 e1 v H1 #[Ts,g1,m,a1]=>?_
 obtain ⟨x,J,e1⟩:=qF e1
 obtain ⟨S,f0⟩:=x
 obtain ⟨y,X,φ,V,k⟩:=m.slot J
 refine #[y.v,k,?_]
 .refine tE.seq le m e1 q.err λF Z2 A M H2 #[Us,g2,P,a2]=>?_
  have a3:Ars Y [F,τ] [M,v] (([]++Ts)++Us):=.cons a2 (.cons a1 .nil)
  have C:Wf K G H2 Y Z2 ((([]++Ts)++Us)++T) g2:=P.perm (by
   rw[List.nil_append,<- List.append_assoc]
   exact (List.perm_append_comm).append_right T)
  obtain ⟨ds,Z3,g3,a,_,R,_,ys,I,f1,f2⟩:=a3.gives C A
  subst f1
  cases c:(Z3[i]?).join with
  | none=>rw[c] at a;exact nsE a
  | some p3 =>
   obtain ⟨n,N⟩:=p3
   rw[c] at a
   cases N with
   | u =>
    dsimp only at a
    cases b:f n (ys.map (·.d)) with
    | none=>rw[b] at a;exact nsE a
    | some p =>
     rw[b] at a
     cases a
     have:=R.changed (Q:=λ_ H'=>E.nx Y H') L c k I b λB H' #[o,σ,s,a5]=>q _ _ _ (s.sub (Hf o T))
     rw[f2] at this
     obtain ⟨ρ,B,j,D⟩:=this
     cases j
     exact D
   | l=>exact nsE a
   | z=>exact nsE a
end
structure RE (X:Cx) (G0:Gm) (W0:D->Sto->Prop) (e:Expr) (m:EM):Prop where
 h:PE X e (tE X.K G0 W0 m)
structure RT (X:Cx) (G0:Gm) (W0:D->Sto->Prop) (e:Expr) (m:M3 Bool):Prop where
 h:PT X e (tT X.K G0 W0 m)
structure RW (X:Cx) (G0:Gm) (W0:D->Sto->Prop) (e:Expr) (m:M3 Bool):Prop where
 h:PW X e (tT X.K G0 W0 m)
structure RA (X:Cx) (G0:Gm) (W0:D->Sto->Prop) (es:List Expr) (m:M3 (List R3)):Prop where
 h:PA X es (tA X.K G0 W0 m)
structure RS (X:Cx) (G0:Gm) (W0:D->Sto->Prop) (s:Stmt) (m:SM):Prop where
 h:PS X s (tS X.K G0 W0 m)
structure RSs (X:Cx) (G0:Gm) (W0:D->Sto->Prop) (s:List Stmt) (m:SM):Prop where
 h:PSs X s (tS X.K G0 W0 m)
structure RI (X:Cx) (G0:Gm) (W0:D->Sto->Prop) (tg iter:Expr) (m:IM):Prop where
 h:PI X tg iter (tI X.K G0 W0 m)
structure RG (X:Cx) (pr:Nat->Bool) (target:Expr) (bnd:D->Sto->Option Sto):Prop where
 h:∃ tg,PG X target tg/\Bnd X.K pr tg bnd
structure RGs (X:Cx) (pr:Nat->Bool) (targets:List Expr) (bnd:List D->Sto->Option Sto):Prop where
 h:∃ tg,PGs X targets tg/\Bm X.K pr tg bnd
theorem PE.imp (h:PE X e t) (f:∀ Y H Q,t' Y H Q->t Y H Q):PE X e t':=λpins s Y H Q I q=>h pins s Y H Q I (f Y H Q q)
theorem PT.imp (h:PT X e t) (f:∀ Y H Q,t' Y H Q->t Y H Q):PT X e t':=λpins s Y H Q I q=>h pins s Y H Q I (f Y H Q q)
theorem PW.imp (h:PW X e t) (f:∀ Y H Q,t' Y H Q->t Y H Q):PW X e t':=λa pins s Y H Q I q=>h a pins s Y H Q I (f Y H Q q)
theorem PA.imp (h:PA X e t) (f:∀ Y H Q,t' Y H Q->t Y H Q):PA X e t':=λpos pins s Y H Q I q=>h pos pins s Y H Q I (f Y H Q q)
theorem PS.imp (h:PS X e t) (f:∀ D Y H,t' D Y H->t D Y H):PS X e t':=λpins s Y H D I q=>h pins s Y H D I (f D Y H q)
theorem PSs.imp (h:PSs X e t) (f:∀ D Y H,t' D Y H->t D Y H):PSs X e t':=λpins s Y H D I q=>h pins s Y H D I (f D Y H q)
theorem PI.imp (h:PI X tg e t) (f:∀ Y H R,t' Y H R->t Y H R):PI X tg e t':=λpins s Y H R I q=>h pins s Y H R I (f Y H R q)
theorem szl:(16777216:Nat)=sizeLine:=by rw[sizeLine_eq]
section
variable {X:Cx} {G0:Gm} {W0:D->Sto->Prop} {a b c e:Expr} {es:List Expr} {pos:Pos} {ma mb mc m:EM} {ms:M3 (List R3)} {t u:M3 Bool} {ig:List Expr}
theorem pB (i:Nat) (b:X.N[i]?=some x) (c:Vis X.env.scope x) (hd:(x == ("__debug__":Str))=false) (a:(x == ("__classdict__":Str))=false):RE X G0 W0 (.Name x pos) (ac i):=#[PE.imp (mn b c hd a) λ_ _ _ h=>Eo h]
theorem Fc:RE X G0 W0 (.Constant (.int i) j pos) (mC (.int i)):=#[PE.imp FD λ_ _ _ h=>il (λ_=>.int i) h]
theorem re_bl:RE X G0 W0 (.Constant (.bool i) j pos) (mC (.bl i)):=#[PE.imp pe_bl λ_ _ _ h=>il (λ_=>.bl i) h]
theorem E9:RE X G0 W0 (.Constant .none j pos) (mC .non):=#[PE.imp Fz λ_ _ _ h=>il (λ_=>.non) h]
theorem E5:RE X G0 W0 (.Constant (.str i) j pos) (mC (.str i)):=#[PE.imp Fv λ_ _ _ h=>il (λ_=>.str i) h]
theorem rj {i:Int} (a:Gl X x) (hm:X.mg x=some (.int i tk)) (hd:(x == ("__debug__":Str))=false):RE X G0 W0 (.Name x pos) (mC (.int i)):=#[PE.imp (vq (v:=V.int i) a hm #[_,rfl] hd) λ_ _ _ h=>il (λ_=>.int i) h]
theorem kh (d:OpR X (binaryOp op) r) (hd:OpD X.K r f) (c:RE X G0 W0 a ma) (e:RE X G0 W0 b mb):RE X G0 W0 (.BinOp a op b pos) (aj f ma mb):=#[PE.imp (pe_op d c.h e.h) λ_ _ _ h=>lW hd h]
theorem re_un (c:UnR X (unaryOp op) r) (hd:UnD X.K r f) (b:RE X G0 W0 a ma):RE X G0 W0 (.UnaryOp op a pos) (mUn f ma):=#[PE.imp (pe_un c b.h) λ_ _ _ h=>yt hd h]
theorem pC (d:OpR X (compareOp op) r) (hd:OpD X.K r f) (c:RE X G0 W0 a ma) (e:RE X G0 W0 b mb) (hm:behindInMarks op b=false):RE X G0 W0 (.Compare a [op] [b] pos) (aj f ma mb):=#[PE.imp (Ct d c.h e.h hm) λ_ _ _ h=>lW hd h]
theorem re_ix (d:IxR X r) (hd:OpD X.K r f) (c:RE X G0 W0 a ma) (e:RE X G0 W0 b mb) (g:wk b):RE X G0 W0 (.Subscript a b pos) (aj f ma mb):=#[PE.imp (pe_ix d c.h e.h g) λ_ _ _ h=>lW hd h]
theorem Fd (c:RE X G0 W0 a ma) (d:RE X G0 W0 (.BoolOp .And (b::ig) pos) mb):RE X G0 W0 (.BoolOp .And (a::b::ig) pos) (jq ma mb):=#[PE.imp (FH c.h d.h) λ_ _ _ h=>Eu h]
theorem E7 (h:RE X G0 W0 a ma):RE X G0 W0 (.BoolOp op [a] pos) ma:=#[Fw h.h]
theorem E8 (b:RE X G0 W0 a ma):RE X G0 W0 (.UnaryOp .Not a pos) (sf ma):=#[PE.imp (Fy b.h) λ_ _ _ h=>Er h]
theorem re_if (d:RT X G0 W0 c t) (e:RE X G0 W0 a ma) (f:RE X G0 W0 b mb):RE X G0 W0 (.IfExp c a b pos) (mIf t ma mb):=#[PE.imp (zJ d.h e.h f.h) λ_ _ _ h=>tE_if h]
def eA (f b:D->D->Option (D×Fl)) (ma mb mc:EM):EM:=af ma λra=>af mb λrb=>af (der ra) λda=>af (der rb) λdb=>af (bc ((f da db).bind λp=>asB p.1)) λk=>if k then af mc λrc=>af (der rb) λdb=>af (der rc) λa=>bc ((b db a).map λp=>R3.val p.1 p.2) else aT (.val (.bl false) .z)
theorem EQ (b:RE X G0 W0 a ma) (he:∀ whole,isTrue a X.env whole=(do let v <- whole;standAt a.pos;holding [v] (truthy v))):RT X G0 W0 a (cB ma):=#[PT.imp (Fj b.h he) λ_ _ _ h=>Eb h]
theorem rt_w (h:RW X G0 W0 a t):RT X G0 W0 a t:=#[h.h.pt]
theorem EG (b:RT X G0 W0 a t):RW X G0 W0 (.BoolOp .Or [a] pos) t:=#[Fh b.h]
theorem rw_or (c:RT X G0 W0 a t) (d:RW X G0 W0 (.BoolOp .Or (b::ig) pos) u):RW X G0 W0 (.BoolOp .Or (a::b::ig) pos) (cOr t u):=#[PW.imp (pw_or c.h d.h) λ_ _ _ h=>tT_or h]
theorem ER (b:RT X G0 W0 a t):RT X G0 W0 (.UnaryOp .Not a pos) (fJ t):=#[PT.imp (Fm b.h) λ_ _ _ h=>Ea h]
theorem tR:RA X G0 W0 [] ah:=#[PA.imp mq λ_ _ _ h=>Ew h]
theorem pD (a:RE X G0 W0 e m) (b:RA X G0 W0 es ms) (c:starEach (e::es) X.env=(false,eval e X.env)::starEach es X.env):RA X G0 W0 (e::es) (aa m ms):=#[PA.imp (f9 a.h b.h c) λ_ _ _ h=>BG h]
theorem E4 (h:RA X G0 W0 es ms):RE X G0 W0 (.Tuple es x1 pos) (jd ms):=#[PE.imp (Fu h.h) λ_ _ _ h=>Ep szl h]
theorem Fa (h:RA X G0 W0 es ms):RE X G0 W0 (.List es pos) (fF ms):=#[PE.imp (FA h.h) λ_ _ _ h=>Et szl h]
theorem dA {id:String} (i:CallR X (.builtin id) r) (hd:c6 X.K r f) (c:Gl X x) (hm:X.mg x=none) (g:bootBuiltins x=some (.builtin id)) (j:RA X G0 W0 (e::es) ms) (d:x≠"__name__") (b:(x == ("__debug__":Str))=false) (he:starEach (e::es) X.env=(false,eval e X.env)::starEach es X.env) (a:(backTo pos (starEach es X.env)).any (·.1)=false):RE X G0 W0 (.Call (.Name x p) (e::es) [] pos) (av f ms):=#[PE.imp (iB i c hm g j.h d b he a) λ_ _ _ h=>jB hd h]
theorem om (i:CallR X (.type T) r) (hd:c6 X.K r f) (c:Gl X x) (hm:X.mg x=none) (g:bootBuiltins x=some (.type T)) (j:RA X G0 W0 (e::es) ms) (d:x≠"__name__") (b:(x == ("__debug__":Str))=false) (he:starEach (e::es) X.env=(false,eval e X.env)::starEach es X.env) (a:(backTo pos (starEach es X.env)).any (·.1)=false):RE X G0 W0 (.Call (.Name x p) (e::es) [] pos) (av f ms):=#[PE.imp (ki i c hm g j.h d b he a) λ_ _ _ h=>jB hd h]
variable {st:Stmt} {sts:List Stmt} {sm sn:SM}
theorem BV:RSs X G0 W0 [] dI:=#[PSs.imp Ck λ_ _ _ h=>Eh h]
theorem yZ (h1:RS X G0 W0 st sm) (h2:RSs X G0 W0 sts sn):RSs X G0 W0 (st::sts) (aC sm sn):=#[PSs.imp (zx h1.h h2.h) λ_ _ _ h=>Ee h]
theorem BU (h1:RS X G0 W0 st sm):RSs X G0 W0 [st] sm:=#[vn h1.h]
theorem BY (he:RE X G0 W0 e m) (a:swapsWith e none pos.line X.env=pure false):RS X G0 W0 (.Expr e pos) (cH m):=#[PS.imp (Cl he.h a) λ_ _ _ h=>Bw h]
theorem ET (np:Nat) (a:∀ i,np<=i->G0.pr i=false) (he:RE X G0 W0 e m):RS X G0 W0 (.Return (some e) pos) (aR np m):=#[PS.imp (Fp he.h) λ_ _ _ h=>Ef a h]
theorem rs_if (a:RT X G0 W0 c t) (b:RSs X G0 W0 x sm) (d:RSs X G0 W0 y sn):RS X G0 W0 (.If c x y pos) (sIf t sm sn):=#[PS.imp (ps_if a.h b.h d.h) λ_ _ _ h=>tS_if h]
theorem y9 (i:Nat) (b:X.N.Nodup) (hi:X.N[i]?=some x) (c:Loc X.env.scope x) (he:RE X G0 W0 e m) (d:swapsWith e (some (.Name x pos')) pos.line X.env=pure false) (hf:X.fn x=true\/X.env.scope.names.lookup x=some .local) (a:G0.pr i=false):RS X G0 W0 (.Assign [.Name x pos'] e pos) (aZ i m):=#[PS.imp (Fo b hi c he.h d hf) λ_ _ _ h=>Ed a h]
theorem y7 (a:PassesOwn (model X.prog X.w) X.A X.env X.xe) (b:RT X G0 W0 c t) (d:RSs X G0 W0 body sm):RS X G0 W0 (.While c body [] pos) (iw t sm):=#[PS.imp (zy a b.h d.h) λ_ _ _ h=>yp h]
theorem EV (b:PassesOwn (model X.prog X.w) X.A X.env X.xe) (c:X.calm=true) (hi:RI X G0 W0 tg iter im) (a:RG X G0.pr tg bnd) (d:RSs X G0 W0 body sm) (e:∀ x,foldedSetIterable iter X.env x=pure x):RS X G0 W0 (.For tg iter body [] pos) (cj im bnd sm):=by
 obtain ⟨g,h1,h2⟩:=a.h
 exact #[PS.imp (Fq b c hi.h h1 d.h e) λ_ _ _ h=>Ei h2 h]
theorem u6 (i:Nat) (b:X.N.Nodup) (hi:X.N[i]?=some x) (c:Loc X.env.scope x) (hf:X.fn x=true\/X.env.scope.names.lookup x=some .local) (a:pr i=false):RG X pr (.Name x pos) (al i):=#[_,jN b hi c hf,iT a]
theorem B7:RGs X pr [] j8:=#[_,vp,sR]
theorem zh (h1:RG X pr e bn) (h2:RGs X pr es bs) (a:(assignEach (e::es) X.env).map (·.2)=assign e X.env::(assignEach es X.env).map (·.2)):RGs X pr (e::es) (cz bn bs):=by
 obtain ⟨g,a1,a2⟩:=h1.h
 obtain ⟨b,b1,b2⟩:=h2.h
 exact #[_,mm a1 b1 a,kM a2 b2]
theorem E3 {k n:Nat} (c:X.calm=true) (h:RGs X pr es bs) (b:(assignEach es X.env).length=n) (a:(assignEach es X.env).findIdx? (·.1)=none):RG X pr (.Tuple es k pos) (j7 n bs):=by
 obtain ⟨d,b1,b2⟩:=h.h
 exact #[_,zH c b1 b a,vZ b2]
theorem B9 (NY:List Str) (ix:List (Option Nat)) (f:X.calm=true) (hi:RI X G0 W0 tg iter im) (e:∀ s H C fp,PTs (aM X NY scope s H C fp) ifs (tT X.K (bh ix) noX cm)) (he:∀ s H C fp,RE (aM X NY scope s H C fp) (bh ix) noX elt em) (d:iP scope X.N X.env.scope NY ix=true) (c:Inj ix) (g:∀ x,foldedSetIterable iter X.env x=pure x) (b:∃ a,Bnd X.K (bh ix).pr a bnd/\∀ s H C fp,PG (aM X NY scope s H C fp) tg a):RE X G0 W0 (.ListComp elt [#[tg,iter,ifs,0]] scope pos) (bz im bnd cm em ix):=by
 obtain ⟨a,b1,b2⟩:=b
 exact #[PE.imp (Cs NY ix f hi.h b2 e (λs H C fp=>(he s H C fp).h) d g) λ_ _ _ h=>BE szl c b1 h]
end
noncomputable def au (F:Fn) (ms:M3 (List R3)):EM:=af ms λrs=>λZ=>match prs (frz (eE rs) Z) rs with
 | none=>none
 | some ps=>match F ps with
  | none=>none
  | some (.ok p,qs)=>if qs.length=ps.length then some (.ok (.val p.1 p.2),back rs ps qs (frz (eE rs) Z)) else none
  | some (.error _,_)=>none
def s9 (K:FG) (F:Fn):Sp:=λa H Q _=>∃ (ps:List It3) (p:D×Fl) (fs:List (D×Fl)),a=ps.map (·.v)/\(∀ p∈ps,Arg K H p)/\ps.Pairwise Apart3/\F (ps.map λp=>(p.d,p.f))=some (.ok p,fs) /\
 ∀ x qs H',Behind K H H' ps qs x->x.d=p.1->x.f=p.2->qs.map (λq=>(q.d,q.f))=fs->Q x.v H'
section
variable {K:FG} {G G0:Gm} {W W0:D->Sto->Prop} {H H':Hp} {Y:St} {Z Z':Sto} {T T':List It3} {g:Nat->Option It3} {x y z:It3} {α β:Type}
theorem qN (h:tE K G0 W0 (au F ms) Y H Q):tA K G0 W0 ms Y H λs H1=>s9 K F s H1 Q E0:=by
 refine h.use λG W le Z T g o Z' w e q=>?_
 refine tA.seq le w e q.err λrs Z1 e1 s H1 Ts g1 u a1=>?_
 obtain ⟨g2,d,M⟩:=Wf.frz (is:=eE rs) u
 cases j:prs (L3.frz (eE rs) Z1) rs with
 | none=>rw[j] at e1;exact nsE e1
 | some pfs =>
  rw[j] at e1
  dsimp only at e1
  have hd:∀ i,2<=(pls rs).count i->∀ y,g2 i=some y->y.f=.z:=λi L y n=>by
   have hm:i∈eE rs:=HA.mpr #[List.count_pos_iff.mp (by lia),by simpa using L]
   have s1:=d.sl i
   rw[n] at s1
   have I:∃ y0,g1 i=some y0:=by
    cases τ:g1 i with
    | some y0=>exact #[y0,rfl]
    | none =>
     exfalso
     have s2:=u.sl i
     rw[τ] at s2
     have:=mL (is:=eE rs) s2.symm
     rw[this] at s1
     cases s1
   obtain ⟨y0,l⟩:=I
   obtain ⟨V,b,_,A⟩:=M i y0 l
   rw[n] at b
   cases b
   exact A hm
  obtain ⟨ps,f1,f2,N,f4,E⟩:=Ars.args a1 d hd j
  have hit:∀ p∈ps,Itm (Ts++T) g2 p:=λp k=>by
   rcases f4 p k with ⟨i,_,S⟩ | h
   .exact .inl #[i,S]
   .exact .inr (G4 _ h)
  have c:∀ p∈ps,Arg K H1 p:=λp k=>⟨(d.itm (hit p k)).rep,λhf=>by
   obtain ⟨m,a,L',v1,v2,D,_⟩:=(d.itm (hit p k)).own hf
   exact ⟨m,a,L',v1,v2,D⟩⟩
  subst f2
  cases b:F pfs with
  | none=>rw[b] at e1;exact nsE e1
  | some r =>
   obtain ⟨out,fs⟩:=r
   rw[b] at e1
   cases out with
   | ok p =>
    dsimp only at e1
    split at e1
    .cases e1
     refine #[ps,p,fs,rfl,c,N,by rw[f1];exact b,?_]
     intro x qs H' B R J P
     obtain ⟨g',φ,C⟩:=Wf.after d j f1 f4 E B.toBehindX
     have t:=C x B.rep B.own B.src B.apx
     rw[P] at t
     rw[<- R,<- J] at q
     exact q x.v H' #[[x],g',t,.val x]
    .exact nsE e1
   | error er=>exact nsE e1
def cw (b:Bool) (p:It3):It3:=if b then dm p else p
theorem kr:∀ {mask:List Bool} {ps:List It3},(List.zipWith cw mask ps).map (λp=>(p.d,p.f))=List.zipWith lz mask (ps.map λp=>(p.d,p.f))
 | [],_=>rfl
 | _::_,[]=>rfl
 | b::mask,p::ps=>by
  simp only[List.zipWith_cons_cons,Hm,kr]
  cases b <;> rfl
theorem oI {i:Nat} (h:(List.zipWith cw mask ps)[i]?=some q):∃ b p,mask[i]?=some b/\ps[i]?=some p/\q=cw b p:=by grind
theorem jT {i:Nat} (a:ps.length=mask.length) (h:ps[i]?=some p):∃ b,mask[i]?=some b/\(List.zipWith cw mask ps)[i]?=some (cw b p):=by
 have hi:i < mask.length:=by have:=(Hc.mp h).1;omega
 simp_all
theorem bq (b:Bool) (p:It3):(cw b p).d=p.d/\(cw b p).v=p.v/\(cw b p).L=p.L/\((cw b p).f=p.f\/(cw b p).f=.z):=by
 cases b
 .exact #[rfl,rfl,rfl,.inl rfl]
 .exact #[rfl,rfl,rfl,.inr rfl]
theorem NoRoot.low (h:NoRoot a b) (g:a'.v=a.v) (hf:a'.f=a.f\/a'.f=.z) (d:b'.L=b.L):NoRoot a' b':=λq c e=>by
 rw[d]
 rcases hf with f | f
 .exact h (by rw[<- f];exact q) c (by rw[<- g];exact e)
 .exact absurd f q
def prM (mask:List Bool) (i:Nat):Bool:=match mask[i]? with
 | some b=>!b
 | none=>false
theorem vB {f:α->β} {l:List α} {i:Nat} {a:α} (h:l[i]?=some a):(l.map f)[i]?=some (f a):=by rw[Hh,h];rfl
theorem qc {n:Nat} (hn:mask.length<=n) (h:s9 K (fnM mask n m) vs H Q E) :
  ∃ G:Gm,G.pr=prM mask/\tS K G noX m { nx:=λ_ H'=>Q .non H',rt:=Q } (vs.map some++List.replicate (n - vs.length) none) H:=by
 obtain ⟨ps,p,fs,rfl,W,hp,l,q⟩:=h
 unfold fnM at l
 rw[Hb] at l
 split at l
 .rename_i hl
  rw[<- kr] at l
  generalize w:List.zipWith cw mask ps=g at l
  have V:g.length=ps.length:=by rw[<- w,List.length_zipWith];lia
  have R:g.map (·.v)=ps.map (·.v):=by
   refine List.ext_getElem? λi=>?_
   rw[Hh,Hh]
   cases e:ps[i]? with
   | none=>rw[List.getElem?_eq_none (by have:=List.getElem?_eq_none_iff.mp e;lia)]
   | some u =>
    obtain ⟨b,_,t⟩:=jT (mask:=mask) hl e
    rw[w] at t
    rw[t]
    show some (cw b u).v=some u.v
    rw[(bq b u).2.1]
  have up:∀ (i:Nat) (u:It3),g[i]?=some u->∃ b s,mask[i]?=some b/\ps[i]?=some s/\u=cw b s:=λi u e=>by rw[<- w] at e;exact oI e
  have A:∀ u∈g,∃ b s,s∈ps/\u=cw b s:=λu hu=>by
   obtain ⟨i,hi,e⟩:=List.mem_iff_getElem.mp hu
   obtain ⟨b,s,_,t,y⟩:=up i u (by rw[G7 hi,e])
   exact #[b,s,He t,y]
  have τ:∀ u∈g,Arg K H u:=λu hu=>by
   obtain ⟨b,s,h0,rfl⟩:=A u hu
   obtain ⟨e1,t,y,S⟩:=bq b s
   refine #[by rw[e1,t,y];exact (W s h0).rep,λhf=>?_]
   rw[e1,t,y]
   refine (W s h0).own λz=>hf ?_
   rcases S with f | f
   .rw[f];exact z
   .exact f
  have M:g.Pairwise Apart3:=by
   rw[List.pairwise_iff_getElem]
   intro i j hi hj lt
   obtain ⟨b,s,_,t,y⟩:=up i _ (G7 hi)
   obtain ⟨F,ρ,_,ar,ae⟩:=up j _ (G7 hj)
   have ap:=cu hp (λ_ _=>Apart3.symm) (Hk lt) t ar
   rw[y,ae]
   obtain ⟨_,a2,a3,a4⟩:=bq b s
   obtain ⟨_,b2,b3,b4⟩:=bq F ρ
   exact #[ap.1.low a2 a4 b3,ap.2.low b2 b4 a3]
  have I:∀ (i:Nat) (u:It3),g[i]?=some u->u.f≠.z->prM mask i=true:=λi u e hf=>by
   obtain ⟨b,s,e1,t,y⟩:=up i u e
   unfold prM
   rw[e1]
   cases b with
   | false=>rfl
   | true=>rw[y] at hf;exact absurd rfl hf
  have alls:∀ c,c9 g c->c9 ps c:=λc #[u,hu,N]=>by
   obtain ⟨b,s,h0,rfl⟩:=A u hu
   exact #[s,h0,by rw[<- (bq b s).2.2.1];exact N]
  have lift:∀ {H':Hp} {qs:List It3},BehindX K H H' g qs->BehindX K H H' ps qs:=λ{H' qs} B=>by
   refine #[λb o hb hn=>B.frame b o hb λu hu hf R=>?_,Paired.ofGet ?_ λk u v eu ev=>?_,B.apart]
   .obtain ⟨F,s,h0,rfl⟩:=A u hu
    obtain ⟨_,t,_,S⟩:=bq F s
    rcases S with f | f
    .exact hn s h0 (by rw[<- f];exact hf) (by rw[<- t];exact R)
    .rw[f] at hf;cases hf
   .rw[<- V];exact Paired.length B.back
   .obtain ⟨b,_,t⟩:=jT (mask:=mask) hl eu
    rw[w] at t
    have b1:=Paired.at B.back t ev
    obtain ⟨a1,a2,a3,a4⟩:=bq b u
    refine #[λhz=>?_,by rw[b1.v,a2],?_,b1.arg,λc N=>(b1.src c N).imp id (alls c),λhf F J=>?_]
    .have:cw b u=u:=by
      cases b
      .rfl
      .obtain ⟨d,v,L,f⟩:=u
       have hz:f=.z:=hz
       subst hz;rfl
     rw[<- this]
     exact b1.z (by rw[this];exact hz)
    .rcases b1.f with h | h
     .rcases a4 with f | f
      .exact .inl (h.trans f)
      .exact .inr (h.trans f)
     .exact .inr h
    .rcases a4 with f | f
     .exact b1.there (by rw[f];exact hf) F (by rw[a2];exact J)
     .-- lowered: as it was
      obtain ⟨_,a,L',v1,v2,_⟩:=(W u (He eu)).own (by rw[hf];intro q;cases q)
      rw[J] at v1;cases v1
      have X:=b1.z f
      have r:=b1.arg.rep
      rw[X,a1,a2,a3] at r
      exact (r.inH F (by rw[v2];exact GX)).ex
  have T:g.length<=n:=by lia
  have wf:=qD (K:=K) (H:=H) (n:=n) (pr:=prM mask) T τ M I
  rw[R] at wf
  refine #[gOf H (prM mask) ((ps.map (·.v)).map some++List.replicate (n - (ps.map (·.v)).length) none) g,rfl,?_]
  have h0:∀ (i:Nat) (u:It3),g[i]?=some u->((ps.map (·.v)).map some++List.replicate (n - (ps.map (·.v)).length) none)[i]?=some (some u.v):=λi u e=>ke (by rw[<- R];exact vB e)
  unfold fn0 at l
  cases e:m (eD n (g.map λp=>(p.d,p.f))) with
  | none=>rw[e] at l;exact nsE l
  | some rr =>
   obtain ⟨r,Z2⟩:=rr
   rw[e] at l
   refine tS.mk (r:=r) (Le.refl K _ _) wf e ?_
   have fin:∀ {x:It3} {Y':St} {H':Hp} {g':Nat->Option It3} {d:D} {f:Fl},Wf K (gOf H (prM mask) ((ps.map (·.v)).map some++List.replicate (n - (ps.map (·.v)).length) none) g) H' Y' Z2 [x] g'->x.d=d->x.f=f ->
     ((dM Z2 0 (g.map λp=>(p.d,p.f))).map λfs=>((.ok (d,f),fs):Except D (D×Fl)×List (D×Fl)))=some (.ok p,fs)->Q x.v H':=λ{x Y' H' g' d f} P xd xf l=>by
    cases C:dM Z2 0 (g.map λp=>(p.d,p.f)) with
    | none=>rw[C] at l;exact nsE l
    | some fs' =>
     rw[C] at l
     cases l
     obtain ⟨qs,B,X⟩:=m9 (n:=n) τ M I h0 P C
     have BX:=lift B.toBehindX
     exact q x qs H' #[BX,B.rep,B.own,λc N=>(B.src c N).imp id (alls c),B.apx] xd xf X
   cases r with
   | error er=>
    dsimp only at l
    cases C:dM Z2 0 (g.map λp=>(p.d,p.f)) with
    | none=>rw[C] at l;exact nsE l
    | some fs'=>rw[C] at l;cases l
   | ok fl =>
    cases fl with
    | nx =>
     intro Y' H' g' P
     obtain ⟨Ts,g2,w2,a2⟩:=P.const .non
     obtain ⟨x,rfl,σ,φ,x3⟩:=a2.val_inv
     have:=fin w2 σ φ l
     rw[x3] at this
     exact this
    | br=>exact nsE l
    | ct=>exact nsE l
    | rt d f =>
     intro x Y' H' g' P σ φ
     exact fin P σ φ l
 .exact nsE l
end
abbrev aL (P:Program) (w:World) (K:FG) (mg:Str->Option Value) (base:Heap) (x:Str) (k:Nat) (ps:List Str) (F:Fn):Prop:=Callee P w K mg base x k ps (s9 K F)
theorem aV {k:Nat} {nn:Nat} (D:Def K mg x st) (S:FnScope N ps (ad st)) (c:mask.length=ps.length) (b:N.length=nn) (d:∀ (kV doc pm:Value) (an:Option Addr) (a ct:Value) (us:List Value),us.length=ps.length->bindArgs (PySem.W.fnOf x x (aK st) (aB st) (ad st) .none kV doc pm an a ct) #[us,[]]=pure (ps.zip us)) (body:∀ (a:Value) (A:Around) (outer:List Env) (s:Shared) (H:Hp) (E:XK) (f:Addr) (G:Gm),Room k (A.deeper (PyProof.Rows.envOfC x (ad st) s.heap.objs.size f a))->G.pr=prM mask->RSs (dN CX0 P w K mg base N x (ad st) f a A outer s H E).nox G noX (aB st) m) :
  aL P w K mg base x (k+1) ps (fnM mask nn m):=by
 refine D.callee d λf fd F=>F.ok S (λn H Q E h=>?_) λa A outer s H n Q E l h=>?_
 .obtain ⟨j,p,fs,rfl,_,_,e,_⟩:=h
  unfold fnM at e
  grind
 .have hle:mask.length<=nn:=by
   rw[c,<- b]
   have:=congrArg List.length S.pre
   rw[Hv] at this
   omega
  obtain ⟨G,i,g⟩:=qc hle h
  subst b
  exact #[_,(body a A outer s H E f G l i).h,g]
theorem Ca {k:Nat} (c:aL X.prog X.w X.K X.mg X.base x k ps F) (f:Room k X.A) (g:RA X G0 W0 (e::es) ms) (d:Gl X x) (b:(x == ("__debug__":Str))=false) (he:starEach (e::es) X.env=(false,eval e X.env)::starEach es X.env) (a:(backTo pos (starEach es X.env)).any (·.1)=false):RE X G0 W0 (.Call (.Name x p) (e::es) [] pos) (au F ms) :=
 #[PE.imp (pe_fn c f g.h d b he a) λ_ _ _ h=>qN h]
def orD (f g:D->D->Option (D×Fl)) (a b:D):Option (D×Fl):=match f a b with
 | some p=>some p
 | none=>g a b
section
variable {K:FG} {H:Hp} {Ks:Addr->Prop} {d:D} {v:V} {L:List Addr} {X:Cx}
theorem dj (r:Rep K H d v []):New K H H Ks #[d,v,[],.z]:=#[Same.refl _,r,λ_ h=>(by cases h),λh=>absurd rfl h]
theorem rK (r:Rep K H d v L) (h:∀ c∈L,Ks c):New K H H Ks #[d,v,L,.z]:=#[Same.refl _,r,λc a=>.inr (h c a),λh=>absurd rfl h]
theorem rJ (a:H p=none) (r:Reps (Rep K H) ds vs L) (h:∀ c∈L,Ks c):New K H (upd H p (.lst vs)) Ks #[.lst ds,.ref p,p::L,.u]:=by
 have np:p ∉ L:=λb=>by obtain ⟨o,d⟩:=(r.inH p b).ex;rw[a] at d;exact nsE d
 refine #[bf a,.lst aE (r.same (bf a)),λc b=>?_,λ_=>#[rfl,p,L,rfl,rfl,np,a]]
 grind
theorem zV (a:H p=none) (r:Reps (Rep K H) ds vs L) (h:∀ c∈L,Ks c):New K H (upd H p (.tup vs)) Ks #[.tup ds,.ref p,L,.z] :=
 #[bf a,.tup aE (r.same (bf a)),λc b=>.inr (h c b),λh=>absurd rfl h]
theorem kz (b:y∈ys) (h:Arg K H y) (hm:jV y.d=false):∀ c∈y.L,cY ys c:=λc a=>⟨y,b,a,λhf=>by
 have:=(h.own hf).1
 rw[hm] at this;cases this⟩
theorem pZ (g:y∈ys) (h:Arg K H y) (b:y.v=.ref a) (f:y.L=a::L):∀ c∈L,cY ys c:=λc d=>⟨y,g,by rw[f];exact GY _ d,λhf e=>by
 obtain ⟨_,j,L',v1,v2,i⟩:=h.own hf
 rw[b] at v1;cases v1
 rw[f] at v2;cases v2
 rw[b] at e;cases e
 exact i d⟩
theorem OpD.or (h:OpD K r f) (h':OpD K r' g):OpD K (λx y H Q=>r x y H Q\/r' x y H Q) (orD f g):=λa b H Q p ra rb e q=>by
 unfold orD at e
 cases c:f a.d b.d with
 | some p'=>rw[c] at e;cases e;exact .inl (h a b H Q _ ra rb c q)
 | none=>rw[c] at e;exact .inr (h' a b H Q p ra rb e q)
def dn (C:Int->Int->Bool) (g:Int->Int->D):D->D->Option (D×Fl)
 | .int i,.int j=>if C i j then #v[g i j] else none
 | _,_=>none
theorem jY (d:∀ i j,Cb i j=true->C i j) (c:∀ i j H,Rep K H (gd i j) (g i j) []):OpD K (rI C g) (dn Cb gd):=λa b H Q p ra rb e q=>by
 obtain ⟨da,r,m,l⟩:=a
 obtain ⟨db,n,o,h⟩:=b
 obtain ⟨ra,k⟩:=ra
 obtain ⟨rb,ob⟩:=rb
 dsimp only at ra rb
 cases da <;> try (exact nsE e)
 rename_i i
 obtain ⟨rfl,rfl⟩:=ra.view
 cases db <;> try (exact nsE e)
 rename_i j
 obtain ⟨rfl,rfl⟩:=rb.view
 have e:(if Cb i j then some (gd i j,Fl.z) else none)=some p:=e
 split at e
 .rename_i f
  cases e
  exact #[i,j,rfl,rfl,d i j f,q #[gd i j,g i j,[],.z] H (dj (c i j H)) rfl rfl]
 .exact nsE e
theorem rI_of:rI0 g=rI (λ_ _=>True) g:=by
 funext x y H Q
 unfold rI0 rI
 grind
theorem fH (a:∀ i j H,Rep K H (gd i j) (g i j) []):OpD K (rI0 g) (dn (λ_ _=>true) gd):=by
 rw[rI_of]
 exact jY (λ_ _ _=>trivial) a
abbrev qC:Int->Int->Bool:=λ_ _=>true
abbrev addI:=dn qC λi j=>.int (i+j)
abbrev fB:=dn qC λi j=>.int (i - j)
abbrev fm:=dn (λi j=>decide ((-(2 ^ 64) < i/\i < 2 ^ 64)\/(-(2 ^ 64) < j/\j < 2 ^ 64))) λi j=>.int (i * j)
abbrev t8:=dn (λ_ j=>decide (0 < j)) λi j=>.int (i % j)
abbrev zF:=dn (λi j=>decide (0<=j/\j<=1000000/\i.natAbs < 2 ^ 64)) λi j=>.int (i ^ j.toNat)
abbrev ltI:=dn qC λi j=>.bl (decide (i < j))
abbrev leI:=dn qC λi j=>.bl (decide (i<=j))
abbrev gtI:=dn qC λi j=>.bl (decide (j < i))
abbrev geI:=dn qC λi j=>.bl (decide (j<=i))
theorem od_addI:OpD K (rI0 λi j=>.int (i+j)) addI:=fH λi j _=>.int _
theorem CD:OpD K (rI0 λi j=>.int (i - j)) fB:=fH λi j _=>.int _
theorem CH:OpD K (rI CMul λi j=>.int (i * j)) fm:=jY (λi j h=>by simpa[CMul,x5,Bj] using h) λi j _=>.int _
theorem CI:OpD K (rI (λ_ j=>0 < j) λi j=>.int (i % j)) t8:=jY (λi j h=>by simpa[CMul,x5,Bj] using h) λi j _=>.int _
theorem CG:OpD K (rI Bj λi j=>.int (i ^ j.toNat)) zF:=jY (λi j h=>by simpa[CMul,x5,Bj] using h) λi j _=>.int _
theorem Dz:OpD K (rI0 λi j=>.bl (decide (i < j))) ltI:=fH λi j _=>.bl _
theorem vw:OpD K (rI0 λi j=>.bl (decide (i<=j))) leI:=fH λi j _=>.bl _
theorem DA:OpD K (rI0 λi j=>.bl (decide (j < i))) gtI:=fH λi j _=>.bl _
theorem od_ge:OpD K (rI0 λi j=>.bl (decide (j<=i))) geI:=fH λi j _=>.bl _
def xK:D->D->Option (D×Fl)
 | .tup xs,.tup ys=>if xs.length+ys.length<=16777216 then #v[.tup (xs++ys)] else none
 | _,_=>none
def xM:D->D->Option (D×Fl)
 | .lst xs,.lst ys=>if xs.length+ys.length<=16777216 then some (.lst (xs++ys),.u) else none
 | _,_=>none
def xL:D->D->Option (D×Fl)
 | .str xs,.str ys=>if xs.length+ys.length<=16777216 then #v[.str (xs++ys)] else none
 | _,_=>none
theorem Reps.len (r:Reps (Rep K H) ds vs L):ds.length=vs.length:=by
 induction r with
 | nil=>rfl
 | cons _ _ ih=>simp[ih]
theorem Reps.append (r:Reps (Rep K H) ds vs L) (b:Reps (Rep K H) ds' vs' L'):Reps (Rep K H) (ds++ds') (vs++vs') (L++L'):=by
 induction r with
 | nil=>exact b
 | cons a _ ih=>rw[List.append_assoc];exact .cons a ih
theorem Reps.nil_iff (r:Reps (Rep K H) ds vs L):ds=[] ↔ vs=[]:=by cases r <;> simp
def pE (K:FG):R2:=λx y H Q=>∃ a b ys,x=.ref a/\y=.ref b/\SqT K H a []/\SqT K H b ys/\Q (.ref b) H
theorem zR:OpR X (binaryOp .Add) (pE X.K):=by
 intro pins s Y H x y v u Q I o r h
 obtain ⟨a,b,ys,rfl,rfl,t,p,q⟩:=h
 cases o
 cases r
 obtain ⟨its,z,m,_⟩:=I.tuple t
 obtain ⟨i,A,p2,_⟩:=I.tuple p
 have e:its=[]:=z.nil_iff.mpr rfl
 subst e
 obtain ⟨⟨cls,dd,data,sl⟩,k,j,n,hd⟩:=id m
 obtain ⟨⟨l,g,data2,f⟩,d,c,w,hd2⟩:=id p2
 simp only at j hd c hd2
 subst j hd c hd2
 exact concat_meets #[_,k,rfl] #[_,d,rfl] noFill_tuple_add seq_tuple_add PySem.F.slot_tuple_add PySem.F.entry_tuple_add (PySem.F.args_tuple_add_2 _ _)
   (PyProof.Rows.tuple_addW0 a b _ _ n w dd g sl f (by simp)) #[k,d,#[.ref b,H,I,rfl,q]]
theorem od_catT:OpD K (λx y H Q=>vj K x y H Q\/pE K x y H Q) xK:=λa b H Q p ra rb e q=>by
 obtain ⟨da,C,k,t⟩:=a
 obtain ⟨db,B,l,r⟩:=b
 obtain ⟨ra,s⟩:=ra
 obtain ⟨rb,ob⟩:=rb
 dsimp only at ra rb
 cases da <;> try (exact nsE e)
 rename_i xs
 obtain ⟨i,u,rfl,j,rs⟩:=ra.view
 cases db <;> try (exact nsE e)
 rename_i ys
 obtain ⟨f,ws,rfl,g,d⟩:=rb.view
 have e:(if xs.length+ys.length<=16777216 then some (D.tup (xs++ys),Fl.z) else none)=some p:=e
 split at e
 .rename_i A
  cases e
  by_cases m:u=[]
  .have o:=rs.nil_iff.mpr m
   subst m o
   refine .inr #[i,f,ws,rfl,rfl,SqT.of j,SqT.of g,?_]
   exact q #[.tup ys,.ref f,l,.z] H (rK (.tup g d) (kz (y:=#[.tup ys,.ref f,l,r]) (GY _ (Hy.mpr rfl)) #[.tup g d,ob] rfl)) rfl rfl
  .refine .inl #[i,f,u,ws,rfl,rfl,SqT.of j,SqT.of g,m,by rw[<- rs.len,<- d.len,<- szl];exact A,λhw=>?_,λhw p v=>?_]
   .have n:=d.nil_iff.mpr hw
    subst n
    refine q #[.tup (xs++[]),.ref i,k,.z] H (rK (by rw[List.append_nil];exact .tup j rs) (kz (y:=#[.tup xs,.ref i,k,t]) GX #[.tup j rs,s] rfl)) rfl rfl
   .refine q #[.tup (xs++ys),.ref p,k++l,.z] _ (zV v (rs.append d) λc w=>?_) rfl rfl
    rcases G9.mp w with h | h
    .exact kz (y:=#[.tup xs,.ref i,k,t]) GX #[.tup j rs,s] rfl c h
    .exact kz (y:=#[.tup ys,.ref f,l,r]) (GY _ (Hy.mpr rfl)) #[.tup g d,ob] rfl c h
 .exact nsE e
theorem CM:OpD K Cd xM:=λa b H Q p ra rb e q=>by
 obtain ⟨da,x,g,o⟩:=a
 obtain ⟨db,w,i,m⟩:=b
 obtain ⟨ra,n⟩:=ra
 obtain ⟨rb,ob⟩:=rb
 dsimp only at ra rb
 cases da <;> try (exact nsE e)
 rename_i xs
 obtain ⟨j,r,g,rfl,rfl,k,rs⟩:=ra.view
 cases db <;> try (exact nsE e)
 rename_i ys
 obtain ⟨f,ws,i,rfl,rfl,l,d⟩:=rb.view
 have e:(if xs.length+ys.length<=16777216 then some (D.lst (xs++ys),Fl.u) else none)=some p:=e
 split at e
 .rename_i t
  cases e
  refine #[j,f,r,ws,rfl,rfl,k,l,by rw[<- rs.len,<- d.len,<- szl];exact t,λp s=>?_]
  refine q #[.lst (xs++ys),.ref p,p::(g++i),.u] _ (rJ s (rs.append d) λc v=>?_) rfl rfl
  rcases G9.mp v with h | h
  .exact pZ (y:=#[.lst xs,.ref j,j::g,o]) GX #[.lst k rs,n] rfl rfl c h
  .exact pZ (y:=#[.lst ys,.ref f,f::i,m]) (GY _ (Hy.mpr rfl)) #[.lst l d,ob] rfl rfl c h
 .exact nsE e
theorem od_catS:OpD K (λx y H Q=>∃ i j,x=.str i/\y=.str j/\i.length+j.length<=sizeLine/\Q (.str (i++j)) H) xL:=λa b H Q p ra rb e q=>by
 obtain ⟨da,m,k,g⟩:=a
 obtain ⟨db,h,l,d⟩:=b
 obtain ⟨ra,f⟩:=ra
 obtain ⟨rb,ob⟩:=rb
 dsimp only at ra rb
 cases da <;> try (exact nsE e)
 rename_i i
 obtain ⟨rfl,rfl⟩:=ra.view
 cases db <;> try (exact nsE e)
 rename_i j
 obtain ⟨rfl,rfl⟩:=rb.view
 have e:(if i.length+j.length<=16777216 then some (D.str (i++j),Fl.z) else none)=some p:=e
 split at e
 .rename_i c
  cases e
  exact #[i,j,rfl,rfl,by rw[<- szl];exact c,q #[.str (i++j),.str (i++j),[],.z] H (dj (.str _)) rfl rfl]
 .exact nsE e
abbrev bX:=orD addI (orD xL (orD xK xM))
theorem FV:OpD K (λx y H Q=>rI0 (λi j=>.int (i+j)) x y H Q\/((∃ i j,x=.str i/\y=.str j/\i.length+j.length<=sizeLine/\Q (.str (i++j)) H)\/((vj K x y H Q\/pE K x y H Q)\/Cd x y H Q))) bX:=od_addI.or (od_catS.or (od_catT.or CM))
theorem Cy:OpR X (binaryOp .Add) (λx y H Q=>rI0 (λi j=>.int (i+j)) x y H Q\/((∃ i j,x=.str i/\y=.str j/\i.length+j.length<=sizeLine/\Q (.str (i++j)) H)\/((vj X.K x y H Q\/pE X.K x y H Q)\/Cd x y H Q))):=op_add.or (op_add_str.or ((op_catT.or zR).or FP))
def eqS:D->D->Option Bool
 | .non,.non=>some true | .non,.int _=>some false | .int _,.non=>some false | .non,.bl _=>some false | .bl _,.non=>some false | .non,.str _=>some false | .str _,.non=>some false
 | .int i,.int j=>some (decide (i=j)) | .bl i,.bl j=>some (decide (i=j)) | .str i,.str j=>some (decide (i=j))
 | .int _,.str _=>some false | .str _,.int _=>some false | .bl _,.str _=>some false | .str _,.bl _=>some false
 | _,_=>none
theorem AK (ra:Rep K H a u L) (rb:Rep K H b v L') (e:eqS a b=some k):EB u v=true/\k=decide (u=v):=by
 cases a <;> cases b <;> first | exact nsE e | (obtain ⟨rfl,rfl⟩:=ra.view;obtain ⟨rfl,rfl⟩:=rb.view;cases e;exact #[rfl,by simp])
def la:D->Bool
 | .non=>true
 | _=>false
def isN:D->D->Option (D×Fl)
 | a,.non=>#v[.bl (la a)]
 | _,_=>none
def CN:D->D->Option (D×Fl)
 | a,.non=>#v[.bl (!la a)]
 | _,_=>none
theorem Rep.non_iff (ra:Rep K H a u L):la a=decide (u=.non):=by cases ra <;> simp[la]
theorem FU:OpD K (λx y H Q=>y=.non/\Q (.bl (decide (x=.non))) H) isN:=λa b H Q p ra rb e q=>by
 obtain ⟨db,c,f,d⟩:=b
 obtain ⟨rb,ob⟩:=rb
 dsimp only at rb
 cases db <;> try (exact nsE e)
 obtain ⟨rfl,rfl⟩:=rb.view
 unfold isN at e
 cases e
 refine #[rfl,?_]
 rw[<- ra.rep.non_iff]
 exact q #[_,_,[],.z] H (dj (.bl _)) rfl rfl
def mz:D->Option (D×Fl)
 | .int i=>#v[.int (-i)]
 | _=>none
theorem DX:UnD K (rU λi=>.int (-i)) mz:=λa H Q p ra e q=>by
 obtain ⟨da,c,b,f⟩:=a
 obtain ⟨ra,d⟩:=ra
 dsimp only at ra
 cases da <;> try (exact nsE e)
 obtain ⟨rfl,rfl⟩:=ra.view
 cases e
 exact #[_,rfl,q #[_,_,[],.z] H (dj (.int _)) rfl rfl]
theorem Reps.at:∀ {ds:List D} {b:List V} {L:List Addr} {i:Nat} {d:D},Reps (Rep K H) ds b L->ds[i]?=some d->∃ v L',b[i]?=some v/\Rep K H d v L'/\∀ c∈L',c∈L
 | _,_,_,_,_,.nil,h=>by simp at h
 | _,_,_,0,_,.cons r _,h=>by simp at h;subst h;exact #[_,_,rfl,r,λc a=>G4 _ a]
 | _,_,_,i+1,_,.cons _ t,h=>by
  obtain ⟨v,L',h1,h2,h3⟩:=Reps.at (i:=i) t (by simpa using h)
  exact #[v,L',by simpa using h1,h2,λc a=>G5 _ (h3 c a)]
theorem Reps.atI {i:Int} (r:Reps (Rep K H) ds vs L) (h:atI ds i=some d):∃ v L',atI vs i=some v/\Rep K H d v L'/\∀ c∈L',c∈L:=by
 unfold L2.atI at h ⊢
 rw[<- r.len]
 cases e:ixN ds.length i with
 | none=>rw[e] at h;exact nsE h
 | some j=>rw[e] at h;exact r.at h
def ixD:D->D->Option (D×Fl)
 | .lst xs,.int i=>(atI xs i).map λd=>(d,.z)
 | .fls xs,.int i=>(atI xs i).map λd=>(d,.z)
 | .tup xs,.int i=>(atI xs i).map λd=>(d,.z)
 | _,_=>none
theorem od_ix:OpD K (λx y H Q=>zu K x y H Q\/zt K x y H Q) ixD:=λa b H Q p ra rb e q=>by
 obtain ⟨da,t,l,m⟩:=a
 obtain ⟨db,r,s,n⟩:=b
 obtain ⟨rb,ob⟩:=rb
 have g:=ra
 obtain ⟨ra,o⟩:=ra
 dsimp only at ra rb
 cases da <;> try (exact nsE e)
 all_goals (cases db <;> try (exact nsE e))
 all_goals (rename_i xs i;obtain ⟨rfl,rfl⟩:=rb.view)
 .obtain ⟨f,k,rfl,j,rs⟩:=ra.view
  obtain ⟨d,h1,h2⟩:=G3.mp (show (atI xs i).map (λd=>(d,Fl.z))=some p from e)
  subst h2
  obtain ⟨v,L',g1,g2,g3⟩:=rs.atI h1
  refine .inr #[f,k,i,v,rfl,rfl,SqT.of j,g1,q #[d,v,L',.z] H (rK g2 λc h=>?_) rfl rfl]
  exact kz (y:=#[.tup xs,.ref f,l,m]) GX g rfl c (g3 c h)
 .obtain ⟨f,k,l,rfl,rfl,j,rs⟩:=ra.view
  obtain ⟨d,h1,h2⟩:=G3.mp (show (atI xs i).map (λd=>(d,Fl.z))=some p from e)
  subst h2
  obtain ⟨v,L',g1,g2,g3⟩:=rs.atI h1
  refine .inl #[f,k,i,v,rfl,rfl,SqL.of j,g1,q #[d,v,L',.z] H (rK g2 λc h=>?_) rfl rfl]
  exact pZ (y:=#[.lst xs,.ref f,f::l,m]) GX g rfl rfl c (g3 c h)
 .obtain ⟨f,k,rfl,j,rs⟩:=ra.view
  obtain ⟨d,h1,h2⟩:=G3.mp (show (atI xs i).map (λd=>(d,Fl.z))=some p from e)
  subst h2
  obtain ⟨v,L',g1,g2,g3⟩:=rs.atI h1
  refine .inl #[f,k,i,v,rfl,rfl,j.sq,g1,q #[d,v,L',.z] H (rK g2 λc h=>?_) rfl rfl]
  exact kz (y:=#[.fls xs,.ref f,l,m]) GX g rfl c (g3 c h)
theorem ix_ok:IxR X (λx y H Q=>zu X.K x y H Q\/zt X.K x y H Q):=ix_list.or Gj
end
def orC (f g:List D->Option (D×Fl)) (a:List D):Option (D×Fl):=match f a with
 | some p=>some p
 | none=>g a
section
variable {K:FG} {H:Hp} {Ks:Addr->Prop} {d:D} {v:V} {L:List Addr} {X:Cx}
def c1 (f:D->Option (D×Fl)):List D->Option (D×Fl)
 | [d]=>f d
 | _=>none
def c2 (f:D->D->Option (D×Fl)):List D->Option (D×Fl)
 | [d,d']=>f d d'
 | _=>none
theorem gq {ys:List It3} (e:c1 f (ys.map (·.d))=some p):∃ y,ys=[y]/\f y.d=some p:=by
 match ys,e with
 | [],e=>exact nsE e
 | [y],e=>exact #[y,rfl,e]
 | _::_::_,e=>exact nsE e
theorem m5 {ys:List It3} (e:c2 f (ys.map (·.d))=some p):∃ y z,ys=[y,z]/\f y.d z.d=some p:=by
 match ys,e with
 | [],e=>exact nsE e
 | [_],e=>exact nsE e
 | [y,z],e=>exact #[y,z,rfl,e]
 | _::_::_::_,e=>exact nsE e
def pU:D->Option (D×Fl)
 | .lst xs=>#v[.int xs.length]
 | .fls xs=>#v[.int xs.length]
 | .tup xs=>#v[.int xs.length]
 | _=>none
abbrev cq:=c1 pU
theorem GG:c6 K (λxs H Q=>∃ p ys,xs=[.ref p]/\(SqL K H p ys\/SqT K H p ys)/\Q (.int ys.length) H) cq:=λys H Q p ra e q=>by
 obtain ⟨y,rfl,f⟩:=gq e
 clear e
 have e:=f
 clear f
 have d:=(ra y GX).rep
 obtain ⟨da,i,g,h⟩:=y
 dsimp only at d e
 cases da <;> try (exact nsE e)
 .rename_i xs
  obtain ⟨c,b,rfl,a,rs⟩:=d.view
  cases e
  exact #[c,b,rfl,.inr (SqT.of a),by rw[<- rs.len];exact q #[_,_,[],.z] H (dj (.int _)) rfl rfl]
 .rename_i xs
  obtain ⟨c,b,g,rfl,rfl,a,rs⟩:=d.view
  cases e
  exact #[c,b,rfl,.inl (SqL.of a),by rw[<- rs.len];exact q #[_,_,[],.z] H (dj (.int _)) rfl rfl]
 .rename_i xs
  obtain ⟨c,b,rfl,a,rs⟩:=d.view
  cases e
  exact #[c,b,rfl,.inl a.sq,by rw[<- rs.len];exact q #[_,_,[],.z] H (dj (.int _)) rfl rfl]
def yh:D->Option (D×Fl)
 | .lst xs=>#v[.tup xs]
 | .tup xs=>#v[.tup xs]
 | _=>none
abbrev Bs:=c1 yh
theorem GD:c6 K (λxs H Q=>∃ p ys,xs=[.ref p]/\((SqL K H p ys/\∀ l,H l=none->Q (.ref l) (upd H l (.tup ys)))\/(SqT K H p ys/\Q (.ref p) H))) Bs:=λys H Q p ra e q=>by
 obtain ⟨y,rfl,i⟩:=gq e
 clear e
 have e:=i
 clear i
 have g:=ra y GX
 have f:=g.rep
 obtain ⟨da,k,b,h⟩:=y
 dsimp only at f e
 cases da <;> try (exact nsE e)
 .rename_i xs
  obtain ⟨a,d,rfl,c,rs⟩:=f.view
  cases e
  exact #[a,d,rfl,.inr #[SqT.of c,q #[.tup xs,.ref a,b,.z] H (rK (.tup c rs) (kz (y:=#[.tup xs,.ref a,b,h]) GX g rfl)) rfl rfl]]
 .rename_i xs
  obtain ⟨a,d,b,rfl,rfl,c,rs⟩:=f.view
  cases e
  exact #[a,d,rfl,.inl #[SqL.of c,λl j=>q #[.tup xs,.ref l,b,.z] _ (zV j rs (pZ (y:=#[.lst xs,.ref a,a::b,h]) GX g rfl rfl)) rfl rfl]]
def Ai:D->Option (D×Fl)
 | .lst xs=>some (.lst xs,.u)
 | .tup xs=>some (.lst xs,.u)
 | _=>none
abbrev F7:=c1 Ai
theorem GF:c6 K (λxs H Q=>∃ p ys,xs=[.ref p]/\(SqL K H p ys\/SqT K H p ys)/\∀ l,H l=none->Q (.ref l) (upd H l (.lst ys))) F7:=λys H Q p ra e q=>by
 obtain ⟨y,rfl,j⟩:=gq e
 clear e
 have e:=j
 clear j
 have h:=ra y GX
 have f:=h.rep
 obtain ⟨da,k,b,i⟩:=y
 dsimp only at f e
 cases da <;> try (exact nsE e)
 .rename_i xs
  obtain ⟨a,d,rfl,c,rs⟩:=f.view
  cases e
  exact #[a,d,rfl,.inr (SqT.of c),λl g=>q #[.lst xs,.ref l,l::b,.u] _ (rJ g rs (kz (y:=#[.tup xs,.ref a,b,i]) GX h rfl)) rfl rfl]
 .rename_i xs
  obtain ⟨a,d,b,rfl,rfl,c,rs⟩:=f.view
  cases e
  exact #[a,d,rfl,.inl (SqL.of c),λl g=>q #[.lst xs,.ref l,l::b,.u] _ (rJ g rs (pZ (y:=#[.lst xs,.ref a,a::b,i]) GX h rfl rfl)) rfl rfl]
def Bc:D->Option (D×Fl)
 | .int i=>#v[.int (if i < 0 then -i else i)]
 | _=>none
abbrev absD:=c1 Bc
theorem Rep.int_inv {i:Int} (r:Rep K H (.int i) v L):v=.int i:=by cases r;rfl
theorem GI:c6 K (λxs H Q=>∃ i,xs=[.int i]/\Q (.int (if i < 0 then -i else i)) H) absD:=λys H Q p ra e q=>by
 obtain ⟨y,rfl,a⟩:=gq e
 clear e
 have e:=a
 clear a
 have b:=(ra y GX).rep
 obtain ⟨da,d,c,f⟩:=y
 dsimp only at b e
 cases b <;> try (exact nsE e)
 cases e
 exact #[_,rfl,q #[_,_,[],.z] H (dj (.int _)) rfl rfl]
def jX (C:Int->Int->Bool) (g:Int->Int->D):D->D->Option (D×Fl)
 | .int i,.int j=>if C i j then #v[g i j] else none
 | _,_=>none
theorem kC (e:jX C g a b=some p):∃ i j,a=.int i/\b=.int j/\C i j=true/\p=(g i j,.z):=by
 cases a <;> cases b <;> try (exact nsE e)
 rename_i i j
 have e:(if C i j then some (g i j,Fl.z) else none)=some p:=e
 split at e
 .rename_i h;cases e;exact #[i,j,rfl,rfl,h,rfl]
 .exact nsE e
abbrev DC:=c2 (jX qC λi j=>.int (if j > i then j else i))
abbrev DB:=c2 (jX qC λi j=>.int (if j < i then j else i))
abbrev AQ:=c2 (jX (λ_ j=>decide (0 < j/\j < 1073741824)) λi j=>.tup [.int (i / j),.int (i % j)])
theorem De:c6 K (λxs H Q=>∃ i j,xs=[.int i,.int j]/\Q (.int (if j > i then j else i)) H) DC:=λys H Q p ra e q=>by
 obtain ⟨y,z,rfl,a⟩:=m5 e
 clear e
 have e:=a
 clear a
 obtain ⟨i,j,f,d,_,rfl⟩:=kC e
 have c:=(ra y GX).rep
 have b:=(ra z (GY _ GX)).rep
 rw[f] at c
 rw[d] at b
 refine #[i,j,?_,q #[_,_,[],.z] H (dj (.int _)) rfl rfl]
 show [y.v,z.v]=_
 rw[c.int_inv,b.int_inv]
theorem Dd:c6 K (λxs H Q=>∃ i j,xs=[.int i,.int j]/\Q (.int (if j < i then j else i)) H) DB:=λys H Q p ra e q=>by
 obtain ⟨y,z,rfl,a⟩:=m5 e
 clear e
 have e:=a
 clear a
 obtain ⟨i,j,f,d,_,rfl⟩:=kC e
 have c:=(ra y GX).rep
 have b:=(ra z (GY _ GX)).rep
 rw[f] at c
 rw[d] at b
 refine #[i,j,?_,q #[_,_,[],.z] H (dj (.int _)) rfl rfl]
 show [y.v,z.v]=_
 rw[c.int_inv,b.int_inv]
theorem xI:c6 K (λxs H Q=>∃ i j,xs=[.int i,.int j]/\x5 i j/\∀ p,H p=none->Q (.ref p) (upd H p (.tup [.int (i / j),.int (i % j)]))) AQ:=λys H Q p ra e q=>by
 obtain ⟨y,z,rfl,b⟩:=m5 e
 clear e
 have e:=b
 clear b
 obtain ⟨i,j,k,g,a,rfl⟩:=kC e
 have f:=(ra y GX).rep
 have d:=(ra z (GY _ GX)).rep
 rw[k] at f
 rw[g] at d
 refine #[i,j,?_,by simpa[x5] using a,λp h=>q #[_,.ref p,[],.z] _ (zV h (L:=[]) (.cons (L:=[]) (.int _) (.cons (L:=[]) (.int _) .nil)) λc a=>by cases a) rfl rfl]
 show [y.v,z.v]=_
 rw[f.int_inv,d.int_inv]
def eZ:List D->Option (List Bool)
 | []=>some []
 | .bl b::ds=>(eZ ds).map (b::·)
 | _=>none
theorem j5:∀ {ds:List D} {bs:List Bool},eZ ds=some bs->ds=bs.map D.bl
 | [],bs,e=>by cases e;rfl
 | d::ds,bs,e=>by
  cases d <;> try (exact nsE e)
  rename_i b
  obtain ⟨r,h1,h2⟩:=G3.mp (show (eZ ds).map (b::·)=some bs from e)
  subst h2
  rw[j5 h1];rfl
theorem Reps.bls:∀ {bs:List Bool} {a:List V} {L:List Addr},Reps (Rep K H) (bs.map D.bl) a L->a=bs.map V.bl
 | [],_,_,.nil=>rfl
 | b::bs,_,_,.cons r rs=>by
  rw[Reps.bls rs]
  cases r;rfl
def GR:D->Option (D×Fl)
 | .lst xs=>(eZ xs).map λbs=>(.bl (bs.all id),.z)
 | _=>none
abbrev Bb:=c1 GR
theorem GH:c6 K (λxs H Q=>∃ (a:Addr) (bs:List Bool),xs=[.ref a]/\SqL K H a (bs.map V.bl)/\Q (.bl (bs.all id)) H) Bb:=λys H Q p ra e q=>by
 obtain ⟨y,rfl,b⟩:=gq e
 clear e
 have e:=b
 clear b
 have c:=(ra y GX).rep
 obtain ⟨da,j,f,h⟩:=y
 dsimp only at c e
 cases da <;> try (exact nsE e)
 rename_i xs
 obtain ⟨g,i,f,rfl,rfl,d,rs⟩:=c.view
 obtain ⟨bs,h1,h2⟩:=G3.mp (show (eZ xs).map (λbs=>(D.bl (bs.all id),Fl.z))=some p from e)
 subst h2
 have:=j5 h1
 subst this
 have:=rs.bls
 subst this
 exact #[g,bs,rfl,SqL.of d,q #[_,_,[],.z] H (dj (.bl _)) rfl rfl]
def qh (xs:List D) (lo hi:Option Int):List D:=(xs.drop (HT.sIx xs.length 0 lo)).take (HT.sIx xs.length xs.length hi - HT.sIx xs.length 0 lo)
end
def uX:D->Option (List D)
 | .lst xs=>some xs
 | .fls xs=>some xs
 | .tup xs=>some xs
 | _=>none
def b9 (m:EM):IM:=af m λr=>af (der r) λd=>bc ((uX d).map λds=>([r],ds))
def iSeq (K:FG) (tl:TE):TI:=λY H R=>tl Y H λx H1=>(∃ a,x=.ref a/\(∃ xs,SqL K H1 a xs)/\R (Itl K a) H1)\/∃ a,x=.ref a/\(∃ xs,SqT K H1 a xs)/\R (Itt K a) H1
theorem Fs (j:PE X l tl):PI X tg l (iSeq X.K tl):=by
 intro pins s Y H R I h
 exact thn (j pins s Y H _ I h) λv s1 #[x,H1,c,g,i]=>by
   rcases i with ⟨a,e,⟨xs,f⟩,q⟩ | ⟨a,e,⟨xs,f⟩,q⟩
   .subst e
    cases g
    obtain ⟨its,k,p,hz⟩:=c.list f
    refine wpAny_pyIter_list p.isList ?_
    refine #[s1.heap.objs.size,[s1.heap.objs.size],_,_,H1,rfl,c.kept (t':=s1.toks) λb o e=>GZ _ e,wo a _,#[_,Ha _ rfl,rfl,rfl],λb d=>?_,q]
    have e:b=s1.heap.objs.size:=by simpa using d
    subst e
    exact c.fpOk (Hi _) (c.hok.fresh (Hi _))
   .subst e
    cases g
    obtain ⟨its,k,p,hz⟩:=c.tuple f
    refine wpAny_pyIter_tuple (show s1.heap.IsTuple a its.toArray from p) ?_
    refine #[s1.heap.objs.size,[s1.heap.objs.size],_,_,H1,rfl,c.kept (t':=s1.toks) λb o e=>GZ _ e,sV a _,#[_,Ha _ rfl,rfl,rfl],λb d=>?_,q]
    have e:b=s1.heap.objs.size:=by simpa using d
    subst e
    exact c.fpOk (Hi _) (c.hok.fresh (Hi _))
section
variable {K:FG} {G G0:Gm} {W W0:D->Sto->Prop} {H H':Hp} {Y:St} {Z Z':Sto} {T T':List It3} {g:Nat->Option It3} {x y z:It3} {α β:Type} {X:Cx}
theorem Ar.item2 (w:Wf K G H Y Z (Ts++T) g) (a:Ar Y r v Ts) (e:der r Z=some (.ok d,Z)):∃ y,y.d=d/\y.v=v/\((∃ i,i∈pls [r]/\g i=some y)\/y∈Ts):=by
 cases a with
 | @pl i v h =>
  have j:der (.pl i) Z=((Z[i]?).join).map λp=>(.ok p.1,Z):=rfl
  rw[j] at e
  cases q:(Z[i]?).join with
  | none=>rw[q] at e;exact nsE e
  | some p =>
   rw[q] at e
   obtain ⟨y,e1,k,l,b⟩:=w.slot (d:=p.1) (f:=p.2) q
   have c:p.1=d:=by cases e;rfl
   rw[h] at b
   injection b with b
   injection b with b
   exact #[y,k.trans c,b.symm,.inl #[i,GX,e1]]
 | val x=>cases e;exact #[x,rfl,rfl,.inr (by simp)]
theorem o6 (m:Reps (Rep K H1) ds vs l) (w:∀ c∈l,cY [y] c) (s:∀ c∈l,c∈y.L) (f:∀ (M:Addr->Prop) (H':Hp),(∀ b,M b->MutAt H1 b)->(∀ b o,H1 b=some o->¬ M b->H' b=some o)->(∀ b∈y.L,¬ M b)->(∀ (i:Nat) (v:V),vs[i]?=some v->J.go i H'/\∀ x a,J.yld i H' x a->a=H'/\x=v)/\J.stop vs.length H'):Walk K J H1 [y] ds:=by
 obtain ⟨ws,h1,h2,h3⟩:=Reps.split m
 refine #[ws,λx g=>#[(h3 x g).1,(h3 x g).2.1,λc h=>w c ((h3 x g).2.2 c h)],λM H' hm e k=>?_]
 obtain ⟨go,stop⟩:=f M H' hm e (k y GX)
 refine #[λi d hd=>?_,by rw[m.len];exact stop]
 have hi:∃ u,ws[i]?=some u/\u.d=d:=by
  grind
 obtain ⟨u,j,t⟩:=hi
 have r:vs[i]?=some u.v:=by rw[<- h2,Hh,j];rfl
 obtain ⟨g1,g2⟩:=go i u.v r
 refine #[g1,λx a q=>?_]
 obtain ⟨e1,n⟩:=g2 x a q
 subst e1 n
 have hu:=He j
 refine #[u,#[Same.refl _,(h3 u hu).2.1.keep e hm λb p=>k y GX b (s b ((h3 u hu).2.2 b p)),λc h=>.inr #[u,hu,h],λhf=>absurd (h3 u hu).1 hf],t,(h3 u hu).1,rfl]
theorem nO {y:It3} {a:Addr} {ds:List D} {c:List V} (k:∀ H',SqL K H' a c->True) (j:∀ (M:Addr->Prop) (H':Hp),(∀ b,M b->MutAt H b)->(∀ b o,H b=some o->¬ M b->H' b=some o)->(∀ b∈y.L,¬ M b)->SqL K H' a c) :
  ∀ (M:Addr->Prop) (H':Hp),(∀ b,M b->MutAt H b)->(∀ b o,H b=some o->¬ M b->H' b=some o)->(∀ b∈y.L,¬ M b)->(∀ (i:Nat) (v:V),c[i]?=some v->(Itl K a).go i H'/\∀ x d,(Itl K a).yld i H' x d->d=H'/\x=v)/\(Itl K a).stop c.length H':=λM H' hm h g=>by
 have sq:SqL K H' a c:=j M H' hm h g
 refine #[λi v e=>#[#[c,v,sq,e],λx d #[e1,f]=>#[e1,?_]],#[c,sq,Hi _]]
 have:=f c sq
 rw[e] at this
 injection this with this
 exact this.symm
theorem En (h:tI K G0 W0 (b9 m) Y H R):iSeq K (tE K G0 W0 m) Y H R:=by
 obtain ⟨G,W,le,Z,T,g,o,Z',w,e,q⟩:=h
 have n:∀ x,o=.error x->W x Z':=λx P=>by subst P;exact q
 refine tE.seq le w e n λra Z1 e1 v H1 #[Ts,g1,D,a1]=>?_
 obtain ⟨d,N,s⟩:=aQ e1
 obtain ⟨p,F,rfl,rfl⟩:=bJ s
 obtain ⟨ds,k,τ⟩:=G3.mp F
 subst τ
 obtain ⟨y,V,φ,L⟩:=a1.item2 D N
 have S:Itm (Ts++T) g1 y:=by
  rcases L with ⟨i,_,X⟩ | h
  .exact .inl #[i,X]
  .exact .inr (G4 _ h)
 have E:=(D.itm S).arg
 have B:∀ J,Walk K J H1 [y] ds->R J H1:=λJ hw=>q J H1 [v] Ts g1 [y] D (by simpa using Ars.cons a1 .nil) (λz hz=>by rw[Hy.mp hz];exact L) hw
 clear e1 s F q
 subst V φ
 have f:=E
 obtain ⟨da,ρ,t,C⟩:=y
 obtain ⟨u,σ⟩:=E
 dsimp only at u k
 cases da with
 | tup xs =>
  obtain ⟨a,j,rfl,b,rs⟩:=u.view
  cases k
  refine .inr #[a,rfl,#[_,SqT.of b],B _ (o6 rs (kz (y:=#[.tup ds,.ref a,t,C]) GX f rfl) (λc l=>l) λM H' hm r A=>?_)]
  have sq:SqT K H' a j:=SqT.of (r a _ b λz=>(hm a z).notup b)
  refine #[λi v I=>#[#[j,v,sq,I],λx Q #[e1,s]=>#[e1,?_]],#[j,sq,Hi _]]
  have:=s j sq
  rw[I] at this
  injection this with this
  exact this.symm
 | lst xs =>
  obtain ⟨a,j,t,rfl,rfl,b,rs⟩:=u.view
  cases k
  refine .inl #[a,rfl,#[_,SqL.of b],B _ (o6 rs (pZ (y:=#[.lst ds,.ref a,a::t,C]) GX f rfl rfl) (λc l=>GY _ l) (nO (ds:=ds) (λ_ _=>trivial) λM H' hm r A=>SqL.of (r a _ b (A a GX))))]
 | fls xs =>
  obtain ⟨a,j,rfl,b,rs⟩:=u.view
  cases k
  refine .inl #[a,rfl,#[_,b.sq],B _ (o6 rs (kz (y:=#[.fls ds,.ref a,t,C]) GX f rfl) (λc l=>l) (nO (ds:=ds) (λ_ _=>trivial) λM H' hm r A=>(b.keep r hm).sq))]
 | _=>exact nsE k
theorem EZ (h:RE X G0 W0 l m):RI X G0 W0 tg l (b9 m):=#[PI.imp (Fs h.h) λ_ _ _ h=>En h]
def aS (lo:Int) (n:Nat):List D:=(List.range n).map λ(k:Nat)=>D.int (lo+(k:Int))
theorem qE {lo:Int} {n:Nat}:Walk K (Itr lo n) H1 ys (aS lo n):=by
 refine #[[],λx h=>(by cases h),λM H' _ _ _=>#[λi d hd=>?_,?_]]
 .unfold aS at hd
  rw[Hh] at hd
  obtain ⟨k,a,b⟩:=G3.mp hd
  obtain ⟨c,e⟩:=Hc.mp a
  rw[List.getElem_range] at e
  subst e
  rw[List.length_range] at c
  refine #[c,λx f #[e1,g]=>?_]
  subst e1
  exact #[#[d,x,[],.z],dj (by rw[<- b,g];exact .int _),rfl,rfl,rfl]
 .show n<=(aS lo n).length
  unfold aS
  simp
def cy (j:Int):Bool:=decide (-(2 ^ 62)<=j/\j < 2 ^ 62)
def bV:List D->Option (List D)
 | [.int j]=>if cy j then some (aS 0 j.toNat) else none
 | _=>none
def fh:List D->Option (List D)
 | [.int i,.int j]=>if cy i && cy j then some (aS i (j - i).toNat) else none
 | _=>none
def aP (f:List D->Option (List D)) (ms:M3 (List R3)):IM:=af ms λrs=>af (c8 rs) λds=>bc ((f ds).map λxs=>([],xs))
theorem BA (h:tI K G0 W0 (aP bV ms) Y H R):DG (tA K G0 W0 ms) Y H R:=by
 obtain ⟨G,W,le,Z,T,g,o,Z',w,e,q⟩:=h
 have b:∀ x,o=.error x->W x Z':=λx f=>by subst f;exact q
 refine tA.seq le w e b λrs Z1 e1 u H1 Ts g1 k a1=>?_
 obtain ⟨ds,n,t⟩:=bD e1
 obtain ⟨p,s,rfl,rfl⟩:=bJ t
 obtain ⟨xs,a,m⟩:=G3.mp s
 subst m
 obtain ⟨ys,i,f1,f2⟩:=a1.items k (λx f=>G4 _ f) n
 subst f1 f2
 match ys,a,i,a1 with
 | [],a,_,_=>exact nsE a
 | y::z::r,a,_,_=>cases hd:y.d <;> (rw[Hm,Hm,hd] at a;exact nsE a)
 | [y],a,i,a1 =>
  have l:=(k.itm (i y GX)).rep
  cases hd:y.d <;> (rw[Hm,hd] at a;try (exact nsE a))
  rename_i j
  rw[hd] at l
  have a:(if cy j then some (aS 0 j.toNat) else none)=some xs:=a
  split at a
  .rename_i c
   cases a
   have c:=of_decide_eq_true c
   refine #[j,by show [y.v]=_;rw[l.int_inv],c.1,c.2,?_]
   exact q _ H1 [] [] g1 [] (k.sub (Hf Ts T)) .nil (λ_ h=>by cases h) qE
  .exact nsE a
theorem Bz (h:tI K G0 W0 (aP fh ms) Y H R):DF (tA K G0 W0 ms) Y H R:=by
 obtain ⟨G,W,le,Z,T,g,o,Z',w,e,q⟩:=h
 have b:∀ x,o=.error x->W x Z':=λx l=>by subst l;exact q
 refine tA.seq le w e b λrs Z1 e1 F H1 Ts g1 k a1=>?_
 obtain ⟨ds,E,C⟩:=bD e1
 obtain ⟨p,B,rfl,rfl⟩:=bJ C
 obtain ⟨xs,A,t⟩:=G3.mp B
 subst t
 obtain ⟨ys,f,f1,f2⟩:=a1.items k (λx l=>G4 _ l) E
 subst f1 f2
 have inv:∀ {ds:List D},fh ds=some xs->∃ i j,ds=[.int i,.int j]/\cy i=true/\cy j=true/\xs=aS i (j - i).toNat:=λ{ds} h=>by
  unfold fh at h
  split at h
  .rename_i i j
   split at h
   .rename_i m
    cases h
    simp only[Bool.and_eq_true] at m
    exact #[i,j,rfl,m.1,m.2,rfl]
   .exact nsE h
  .exact nsE h
 obtain ⟨i,j,a,hi,c,rfl⟩:=inv A
 match ys,a,f,a1 with
 | [],a,_,_=>cases a
 | [y],a,_,_=>exact absurd (congrArg List.length a) (by simp)
 | y::z::u::r,a,_,_=>exact absurd (congrArg List.length a) (by simp)
 | [y,z],a,f,a1 =>
  have s:=(k.itm (f y GX)).rep
  have n:=(k.itm (f z (GY _ GX))).rep
  have h1:y.d=.int i:=by injection a
  have h2:z.d=.int j:=by injection a with _ h;injection h
  rw[h1] at s
  rw[h2] at n
  have hi:=of_decide_eq_true hi
  have c:=of_decide_eq_true c
  refine #[i,j,by show [y.v,z.v]=_;rw[s.int_inv,n.int_inv],#[hi.1,hi.2,c.1,c.2],?_]
  exact q _ H1 [] [] g1 [] (k.sub (Hf Ts T)) .nil (λ_ h=>by cases h) qE
theorem B5 (b:Gl X "range") (hm:X.mg "range"=none) (c:RA X G0 W0 [a] ms) (d:starEach [a] X.env=[(false,eval a X.env)]):RI X G0 W0 tg (.Call (.Name "range" p) [a] [] pos) (aP bV ms):=#[PI.imp (wQ b hm c.h d) λ_ _ _ h=>BA h]
theorem B4 (d:Gl X "range") (hm:X.mg "range"=none) (e:RA X G0 W0 [a,b] ms) (f:starEach [a,b] X.env=[(false,eval a X.env),(false,eval b X.env)]) (c:starEach [b] X.env=[(false,eval b X.env)]):RI X G0 W0 tg (.Call (.Name "range" p) [a,b] [] pos) (aP fh ms):=#[PI.imp (wP d hm e.h f c) λ_ _ _ h=>Bz h]
end
section
variable {K:FG} {G G0:Gm} {W W0:D->Sto->Prop} {H H':Hp} {Y:St} {Z Z':Sto} {T T':List It3} {g:Nat->Option It3} {x y z:It3} {α β:Type} {X:Cx} {L:List Addr}
def nv (bnd:D->Sto->Option Sto) (m:EM):SM:=af m λr=>af (dO r) λp=>λZ=>(bnd p.1 Z).map λZ1=>(.ok .nx,Z1)
theorem Ej (i:Bnd K G0.pr tg bnd) (h:tS K G0 W0 (nv bnd m) E Y H):yx (tE K G0 W0 m) tg E Y H:=by
 refine h.use λG W le Z T g r Z' w e q=>?_
 refine tE.seq le w e q.err λra Z1 e1 v H1 #[Ts,g1,n,a1]=>?_
 obtain ⟨p,Z2,g2,x,c,k,f1,_,_,f⟩:=a1.take n e1
 have j:=Wf.lowT (Ts:=[x]) k
 obtain ⟨Z3,b,a⟩:=G3.mp c
 cases a
 rw[<- f]
 exact i G H1 Y Z2 _ T g2 (dm x) _ le.pr rfl j (by show bnd x.d Z2=_;rw[f1];exact b) λY2 g3 l=>q _ _ _ l
theorem EW (c:RG X G0.pr tg bnd) (he:RE X G0 W0 e m) (d:swapsWithSole [tg] e pos.line X.env=pure false) (hw:swappedStores [tg] e X.env=pure none) (h1:(assignEach [tg] X.env).map (·.2)=[assign tg X.env]):RS X G0 W0 (.Assign [tg] e pos) (nv bnd m):=by
 obtain ⟨g,a,b⟩:=c.h
 exact #[PS.imp (zD he.h a d hw h1) λ_ _ _ h=>Ej b h]
theorem tK {i:Nat} {y:Str} (l:X.N.Nodup) (k:X.N[i]?=some y) (f:Loc X.env.scope y) (NY:List Str) (ix:List (Option Nat)) (m:X.calm=true) (hi:RI X G0 W0 tg iter im) (g:∀ s H C fp,PTs (aM X NY scope s H C fp) ifs (tT X.K (bh ix) noX cm)) (he:∀ s H C fp,RE (aM X NY scope s H C fp) (bh ix) noX elt em) (e:iP scope X.N X.env.scope NY ix=true) (d:Inj ix) (c:swapsWith (.ListComp elt [#[tg,iter,ifs,0]] scope pos) (some (.Name y py)) spos.line X.env=pure true) (hf:X.fn y=true\/X.env.scope.names.lookup y=some .local) (n:∀ x,foldedSetIterable iter X.env x=pure x) (j:G0.pr i=false) (b:∃ a,Bnd X.K (bh ix).pr a bnd/\∀ s H C fp,PG (aM X NY scope s H C fp) tg a):RS X G0 W0 (.Assign [.Name y py] (.ListComp elt [#[tg,iter,ifs,0]] scope pos) spos) (aZ i (bz im bnd cm em ix)):=by
 obtain ⟨a,b1,b2⟩:=b
 exact #[PS.imp (tV l k f NY ix m hi.h b2 g (λs H C fp=>(he s H C fp).h) e c hf n) λ_ _ _ h=>sZ szl d b1 j h]
def isL:D->Bool
 | .lst _=>true
 | _=>false
theorem p4:∀ d v L H,isL d=true->Rep K H d v L->tyV K "list" v H:=λd v L H h r=>by
 cases r with
 | lst ha _=>exact .inl #[rfl,_,SqL.of ha]
 | _=>cases h
def xY:D->List D->Option (D×D)
 | .lst xs,[d]=>if xs.length < 16777216 then some (.lst (xs++[d]),.non) else none
 | _,_=>none
theorem F2:MutD K vm xY:=λa d l as H Q p r m na ra i e q=>by
 cases d with
 | lst xs =>
  obtain ⟨_,g,_,e1,s,k,rs⟩:=r.view
  cases e1
  cases s
  match as,e,ra,i with
  | [],e,_,_=>exact nsE e
  | _::_::_,e,_,_=>exact nsE e
  | [y],e,ra,i =>
   have e:(if xs.length < 16777216 then some (D.lst (xs++[y.d]),D.non) else none)=some p:=e
   split at e
   .rename_i t
    cases e
    refine #[a,g,y.v,rfl,rfl,k,by rw[<- rs.len,<- szl];exact t,?_]
    have u:=ra y GX
    have w:=i y GX
    have ma:MutAt H a:=.inl #[_,k]
    have keep:∀ {d v L},Rep K H d v L->a ∉ L->Rep K (upd H a (.lst (g++[y.v]))) d v L:=λ{d v L} r n=>r.keep (M:=λb=>b=a) (λb o f h=>by rw[aq h];exact f) (λb e=>by rw[e];exact ma) λb f e=>n (by rw[<- e];exact f)
    have keeps:Reps (Rep K (upd H a (.lst (g++[y.v])))) xs g l:=rs.keep (M:=λb=>b=a) (λb o f h=>by rw[aq h];exact f) (λb e=>by rw[e];exact ma) λb f e=>na (by rw[<- e];exact f)
    exact q (.lst (g++[y.v])) (l++(y.L++[])) #[.non,.non,[],.z] (.lst aE (keeps.append (.cons (keep u w) .nil))) rfl (λc j=>by
     rcases G9.mp j with h | h
     .exact .inl h
     .rw[List.append_nil] at h;exact .inr #[y,GX,h]) rfl rfl .non λc j=>by cases j
   .exact nsE e
 | _=>exact nsE e
def AI:D->List D->Option (D×D)
 | .lst xs,[.lst ys]=>if xs.length+ys.length<=16777216 then some (.lst (xs++ys),.non) else none
 | _,_=>none
theorem ext2 (a:D):AI (.lst xs) (a::b::r)=none:=by cases a <;> rfl
theorem F1:MutD K vh AI:=λa d w as H Q p r m na ra j e q=>by
 cases d with
 | lst xs =>
  obtain ⟨_,l,_,e1,v,t,rs⟩:=r.view
  cases e1
  cases v
  match as,e,ra,j with
  | [],e,_,_=>exact nsE e
  | y::_::_,e,_,_=>exact nsE ((ext2 y.d).symm.trans e)
  | [y],e,ra,j =>
   have s:=ra y GX
   have u:=j y GX
   obtain ⟨x,C,F,E⟩:=y
   dsimp only at s u e
   cases x with
   | lst ys =>
    obtain ⟨b,ws,B,rfl,rfl,g,i⟩:=s.view
    have e:(if xs.length+ys.length<=16777216 then some (D.lst (xs++ys),D.non) else none)=some p:=e
    split at e
    .rename_i A
     cases e
     refine #[a,b,l,ws,rfl,rfl,t,g,by rw[<- rs.len,<- i.len,<- szl];exact A,?_]
     have ma:MutAt H a:=.inl #[_,t]
     have keeps:∀ {ds f L},Reps (Rep K H) ds f L->a ∉ L->Reps (Rep K (upd H a (.lst (l++ws)))) ds f L:=λ{ds f L} r n=>r.keep (M:=λb=>b=a) (λb o g h=>by rw[aq h];exact g) (λb e=>by rw[e];exact ma) λb g e=>n (by rw[<- e];exact g)
     exact q (.lst (l++ws)) (w++B) #[.non,.non,[],.z] (.lst aE ((keeps rs na).append (keeps i λh=>u (GY _ h)))) rfl (λc k=>by
      rcases G9.mp k with h | h
      .exact .inl h
      .exact .inr #[_,GX,GY _ h]) rfl rfl .non λc k=>by cases k
    .exact nsE e
   | _=>exact nsE e
 | _=>exact nsE e
def qW:D->List D->Option (D×D)
 | .lst xs,[.int i,d]=>(ixN xs.length i).map λj=>(.lst (xs.set j d),.non)
 | _,_=>none
theorem Reps.set:∀ {ds:List D} {b:List V} {L L':List Addr} {d:D} {v:V} (j:Nat),Reps (Rep K H) ds b L->Rep K H d v L'->∃ L2,Reps (Rep K H) (ds.set j d) (b.set j v) L2/\∀ c∈L2,c∈L\/c∈L'
 | _,_,_,_,_,_,j,.nil,_=>#[[],.nil,λc a=>by cases a]
 | _,_,_,L',_,_,0,.cons (L:=L1) (L':=L1') r rs,r'=>⟨L'++L1',.cons r' rs,λc a=>by
  rcases G9.mp a with h | h
  .exact .inr h
  .exact .inl (G5 _ h)⟩
 | _,_,_,L',_,_,j+1,.cons (L:=L1) (L':=L1') r rs,r'=>by
  obtain ⟨L2,h1,h2⟩:=Reps.set j rs r'
  refine #[L1++L2,.cons r h1,λc a=>?_]
  rcases G9.mp a with h | h
  .exact .inl (G4 _ h)
  .rcases h2 c h with h | h
   .exact .inl (G5 _ h)
   .exact .inr h
theorem set1 (a:D):qW (.lst xs) [a]=none:=by cases a <;> rfl
theorem set3' (a:D):qW (.lst xs) (a::b::c::r)=none:=by cases a <;> rfl
theorem CO:MutD K (mi mf) qW:=λa d A as H Q p r m na ra l e q=>by
 cases d with
 | lst xs =>
  obtain ⟨_,g,_,e1,w,u,rs⟩:=r.view
  cases e1
  cases w
  match as,e,ra,l with
  | [],e,_,_=>exact nsE e
  | [y],e,_,_=>exact nsE ((set1 y.d).symm.trans e)
  | y::_::_::_,e,_,_=>exact nsE ((set3' y.d).symm.trans e)
  | [k,y],e,ra,l =>
   have t:=ra k GX
   have x:=ra y (GY _ GX)
   have C:=l y (GY _ GX)
   obtain ⟨kd,E,F,G⟩:=k
   dsimp only at t
   cases kd with
   | int i =>
    obtain ⟨rfl,rfl⟩:=t.view
    obtain ⟨j,h1,h2⟩:=G3.mp (show (ixN xs.length i).map (λj=>(D.lst (xs.set j y.d),D.non))=some p from e)
    subst h2
    refine #[.int i,y.v,rfl,a,g,i,j,rfl,rfl,u,by rw[<- rs.len];exact h1,?_]
    have ma:MutAt H a:=.inl #[_,u]
    have s:Rep K (upd H a (.lst (g.set j y.v))) y.d y.v y.L:=x.keep (M:=λb=>b=a) (λb o f h=>by rw[aq h];exact f) (λb e=>by rw[e];exact ma) λb f e=>C (by rw[<- e];exact f)
    have keeps:Reps (Rep K (upd H a (.lst (g.set j y.v)))) xs g A:=rs.keep (M:=λb=>b=a) (λb o f h=>by rw[aq h];exact f) (λb e=>by rw[e];exact ma) λb f e=>na (by rw[<- e];exact f)
    obtain ⟨L2,h3,B⟩:=keeps.set j s
    exact q (.lst (g.set j y.v)) L2 #[.non,.non,[],.z] (.lst aE h3) rfl (λc n=>(B c n).imp id λh=>#[y,GY _ GX,h]) rfl rfl .non λc n=>by cases n
   | _=>exact nsE e
 | _=>exact nsE e
theorem u9 {i:Nat} {x:Str} {id:String} (n:PlainAttrs Ty) (slot:Slot Ty nm id) (j:typeOf (.builtin id)=pure (.type "method_descriptor")) (hm:MtR X id r) (k:MutD X.K r f) (hok:∀ d v L H,ok d=true->Rep X.K H d v L->tyV X.K Ty v H) (l:PE X (.Name x pn) (ww i)) (m:RA X G0 W0 (e::es) ms) (b:attributeBase (.Name x pn) nm X.env (eval (.Name x pn) X.env)=eval (.Name x pn) X.env) (g:((backTo cpos (starEach (e::es) X.env)).all (λx=>!x.1) && (backToKw cpos (keywordEach [] X.env)).all (λx=>x.1.isSome) && decide ((e::es).length+([]:List Keyword).length+(if ([]:List Keyword).isEmpty then 0 else 1) < 30))=true) (c:(apos.endLine == cpos.line)=true) (o:starEach (e::es) X.env=(false,eval e X.env)::starEach es X.env) (a:(backTo cpos (starEach es X.env)).any (·.1)=false):RE X G0 W0 (.Call (.Attribute (.Name x pn) nm apos) (e::es) [] cpos) (sg ok f i ms) :=
 #[PE.imp (Dw n slot j hm l m.h b g c o a) λ_ _ _ h=>Es k hok h]
theorem y8 {i:Nat} {x:Str} (m:Bf X t) (c:MutD X.K (mi t) f) (g:PE X (.Name x pn) (ww i)) (l:RE X G0 W0 k mk) (d:RE X G0 W0 e mv) (j:∀ v,assign (.Subscript (.Name x pn) k p2) X.env v=(do
   let a <- holding [v] (eval (.Name x pn) X.env)
   let b <- holding [v,a] (eval k X.env)
   standAt p2
   holding [v,a,b] (setItem a b v)
   release [v,a,b] [])) (h1:swapsWithSole [.Subscript (.Name x pn) k p2] e pos.line X.env=pure false) (h2:swappedStores [.Subscript (.Name x pn) k p2] e X.env=pure none) (h3:(assignEach [.Subscript (.Name x pn) k p2] X.env).map (·.2)=[assign (.Subscript (.Name x pn) k p2) X.env]):RS X G0 W0 (.Assign [.Subscript (.Name x pn) k p2] e pos) (lu f i mk mv) :=
 #[PS.imp (zD d.h (Ft g l.h m j) h1 h2 h3) λ_ _ _ h=>Ec c h]
end
section
variable {K:FG} {G G0:Gm} {W W0:D->Sto->Prop} {H H':Hp} {Y:St} {Z Z':Sto} {T T':List It3} {g:Nat->Option It3} {x y z:It3} {α β:Type} {X:Cx} {L:List Addr}
theorem zd:PTs σ [] (tT K (bh ix) noX fI):=λpins s Y H Q I h=>Ci pins s Y H Q I (DZ h)
theorem zc (h:RT σ (bh ix) noX c m):PTs σ [c] (tT σ.K (bh ix) noX m):=Ch h.h
theorem uo (h:(ix.filterMap id).Nodup):Inj ix:=by
 intro j k i a b
 induction ix generalizing j k with
 | nil=>simp at a
 | cons o ix ih =>
  grind
def yQ:SM:=λ_=>none
theorem zb:RS X G0 W0 st yQ:=⟨PS.imp zC λ_ _ _ h=>by
 refine h.use λG W le Z T g r Z' w e q=>?_
 cases e⟩
theorem qM (ho:OpD K r f) (v:OpD K r' f') (h:tE K G0 W0 (eA f f' ma mb mc) Y H Q):o8 r r' (tE K G0 W0 ma) (tE K G0 W0 mb) (tE K G0 W0 mc) Y H Q:=by
 refine h.use λG W le Z T g o Z' w e q=>?_
 refine tE.seq le w e q.err λra Z1 e1 va H1 #[Ts,g1,w1,a1]=>?_
 refine tE.seq le w1 e1 q.err λrb Z2 e2 vb H2 #[Us,g2,j,a2]=>?_
 obtain ⟨da,d1,e3⟩:=aQ e2
 obtain ⟨db,d2,ρ⟩:=aQ e3
 obtain ⟨k,X,C⟩:=ky ρ
 obtain ⟨E,P,f1,f2⟩:=a1.item j (λx b=>G5 _ (G4 _ b)) d1
 obtain ⟨N,L,f3,f4⟩:=a2.item j (λx b=>G4 _ b) d2
 obtain ⟨p,J,e8⟩:=Hx.mp X
 have hp:=A9 e8
 subst f1 f2 f4
 rw[<- f3] at J
 refine ho E N H2 _ p (j.itm P).arg (j.itm L).arg J λu H3 τ ud uf=>?_
 have w3:=j.push τ λc h=>j.kids (ys:=[E,N]) (λy i=>by
  rcases G6.mp i with h | i
  .rw[h];exact P
  .rw[Hy.mp i];exact L) h
 have I:=τ.rep
 rw[ud,hp] at I
 refine #[k,I.bl_eq.1,?_]
 have V:=w3.sub (List.sublist_cons_self u _)
 cases k with
 | false =>
  cases C
  have d:=V.sub (T':=T) ((Hf Ts T).trans (Hf Us _))
  exact q _ _ (d.const (.bl false))
 | true =>
  simp only[if_true] at C ⊢
  refine tE.seq le V C q.err λrc Z5 e9 vc H5 #[m,S,d,a5]=>?_
  obtain ⟨t,σ,B⟩:=aQ e9
  obtain ⟨dc,d4,z⟩:=aQ B
  obtain ⟨p',a,rfl,rfl⟩:=bJ z
  obtain ⟨l,M,f5,f6⟩:=a2.item d (λx b=>G5 _ (G4 _ b)) σ
  obtain ⟨R,F,f7,f8⟩:=a5.item d (λx b=>G4 _ b) d4
  cases A:f' t dc with
  | none=>rw[A] at a;exact nsE a
  | some s =>
   rw[A] at a
   cases a
   have φ:=d
   rw[show m++(Us++(Ts++T))=(m++(Us++Ts))++T by simp] at φ
   have n:Itm ((m++(Us++Ts))++T) S l:=by simpa using M
   have D:Itm ((m++(Us++Ts))++T) S R:=by simpa using F
   rw[<- f6,<- f8]
   refine v l R H5 Q s (d.itm M).arg (d.itm F).arg (by rw[f5,f7];exact A) (oS φ (λy i=>?_) q)
   rcases G6.mp i with h | i
   .rw[h];exact n
   .rw[Hy.mp i];exact D
theorem zm (k:OpR X (compareOp op) r) (hd:OpD X.K r f) (e:OpR X (compareOp op') r') (d:OpD X.K r' f') (i:RE X G0 W0 a ma) (j:RE X G0 W0 b mb) (g:RE X G0 W0 c mc) (h:PE X a (tE X.K G0 W0 ma)->PE X b (tE X.K G0 W0 mb)->PE X c (tE X.K G0 W0 mc)->PE X (.Compare a [op,op'] [b,c] pos) (o8 r r' (tE X.K G0 W0 ma) (tE X.K G0 W0 mb) (tE X.K G0 W0 mc))):RE X G0 W0 (.Compare a [op,op'] [b,c] pos) (eA f f' ma mb mc):=#[PE.imp (h i.h j.h g.h) λ_ _ _ h=>qM hd d h]
theorem md (d:OpR X (compareOp op) r) (hd:OpD X.K r f) (c:RE X G0 W0 a ma) (e:RE X G0 W0 b mb) (hm:behindInMarks op b=false):RT X G0 W0 (.Compare a [op] [b] pos) (cB (aj f ma mb)):=#[PT.imp (Cj d c.h e.h hm) λ_ _ _ h=>lW hd (Eb h)]
theorem yY (i:OpR X (compareOp op) r) (hd:OpD X.K r f) (d:OpR X (compareOp op') r') (e:OpD X.K r' f') (j:RE X G0 W0 a ma) (k:RE X G0 W0 b mb) (g:RE X G0 W0 c mc) (hm:lastMarks [op,op'] [b,c]=false):RT X G0 W0 (.Compare a [op,op'] [b,c] pos) (cB (eA f f' ma mb mc)):=#[PT.imp (zw i d j.h k.h g.h hm) λ_ _ _ h=>qM hd e (Eb h)]
def iO (n:Nat):List D->List D
 | []=>[]
 | d::ds=>.tup [.int n,d]::iO (n+1) ds
theorem kG:∀ {ds:List D} {n i:Nat},(iO n ds)[i]?=(ds[i]?).map λd=>.tup [.int ((n+i:Nat):Int),d]
 | [],n,i=>by simp[iO]
 | d::ds,n,0=>by simp[iO]
 | d::ds,n,i+1=>by
  show (iO (n+1) ds)[i]?=_
  rw[kG]
  simp only[List.getElem?_cons_succ]
  rw[show n+1+i=n+(i+1) by lia]
theorem kF:∀ {ds:List D} {n:Nat},(iO n ds).length=ds.length
 | [],_=>rfl
 | d::ds,n=>by simp[iO,kF]
def mK (ms:M3 (List R3)):IM:=af ms λrs=>af (c8 rs) λds=>bc (match ds with
 | [.lst xs]=>some (rs,iO 0 xs)
 | _=>none)
theorem BB (h:tI K G0 W0 (mK ms) Y H R):DH K (tA K G0 W0 ms) Y H R:=by
 obtain ⟨G,W,le,Z,T,g,o,Z',w,e,q⟩:=h
 have s:∀ x,o=.error x->W x Z':=λx m=>by subst m;exact q
 refine tA.seq le w e s λrs Z1 e1 l H1 Ts g1 B a1=>?_
 obtain ⟨ds,j,E⟩:=bD e1
 obtain ⟨p,t,rfl,rfl⟩:=bJ E
 have inv:∃ xs,ds=[.lst xs]/\p=(rs,iO 0 xs):=by
  split at t
  .cases t;exact #[_,rfl,rfl]
  .exact nsE t
 obtain ⟨xs,rfl,rfl⟩:=inv
 match rs,j,a1,q with
 | [],j,_,_=>cases j
 | r::r'::rs,j,_,_ =>
  obtain ⟨_,_,f⟩:=aQ (k:=λd=>af (c8 (r'::rs)) λds=>aT (d::ds)) j
  obtain ⟨ax,e6,e7⟩:=bD f
  obtain ⟨_,_,e8⟩:=aQ (k:=λd=>af (c8 rs) λds=>aT (d::ds)) e6
  obtain ⟨ae,_,e9⟩:=bD e8
  cases e9
  cases e7
 | [r],j,a1,q =>
  obtain ⟨d,A,f⟩:=aQ (k:=λd=>af (c8 []) λds=>aT (d::ds)) j
  have hd:d=.lst xs:=by
   have f:some ((.ok [d],Z'):Except D (List D)×Sto)=some (.ok [.lst xs],Z'):=f
   cases f;rfl
  subst hd
  cases a1 with
  | @cons _ v Ts1 _ vs1 Us1 a as =>
   cases as with
   | nil =>
    obtain ⟨y,S,y2,φ⟩:=Ar.item2 (T:=T) (by simpa using B) a A
    have hy:Itm (([]++Ts1)++T) g1 y:=by
     rcases φ with ⟨i,_,ei⟩ | h
     .exact .inl #[i,ei]
     .exact .inr (by simpa using G4 T h)
    have τ:=(B.itm hy).arg
    have qq:∀ J,Walk K J H1 [y] (iO 0 xs)->R J H1:=λJ hw=>q J H1 [v] ([]++Ts1) g1 [y] B (.cons a .nil) (λz hz=>by
     rw[Hy.mp hz]
     rcases φ with h | h
     .exact .inl h
     .exact .inr (by simpa using h)) hw
    clear q
    subst y2
    have C:=τ
    obtain ⟨yd,yv,yL,yf⟩:=y
    obtain ⟨V,oo⟩:=τ
    dsimp only at V S
    subst S
    cases V with
    | @lst _ pa l La ha rs =>
     refine #[pa,rfl,#[_,SqL.of ha],qq _ ?_]
     obtain ⟨ws,h1,h2,h3⟩:=Reps.split rs
     refine #[ws,λx m=>#[(h3 x m).1,(h3 x m).2.1,λc F=>pZ (y:=#[.lst xs,.ref pa,pa::La,yf]) GX C rfl rfl c ((h3 x m).2.2 c F)],λM H' hm X P=>?_]
     have sq:SqL K H' pa l:=SqL.of (X pa _ ha (P _ GX pa GX))
     refine #[λi d hd=>?_,by rw[kF];exact #[l,sq,by rw[<- rs.len];exact Hi _]]
     rw[kG] at hd
     obtain ⟨N,n,rfl⟩:=G3.mp hd
     have hw:∃ u,ws[i]?=some u/\u.d=N:=by
      rw[<- h1,Hh] at n
      obtain ⟨u,a,b⟩:=G3.mp n
      exact #[u,a,b]
     obtain ⟨u,I,ud⟩:=hw
     have Q:l[i]?=some u.v:=by rw[<- h2,Hh,I];rfl
     have hu:=He I
     refine #[#[l,u.v,sq,Q],λx σ #[ρ,yv,e1,E,t,A]=>?_]
     have f:=A l sq
     rw[Q] at f
     cases f
     subst e1 t
     have ru:Rep K H' u.d u.v u.L:=(h3 u hu).2.1.keep X hm λb hb=>P _ GX b (GY _ ((h3 u hu).2.2 b hb))
     refine #[#[.tup [.int ((0+i:Nat):Int),N],.ref ρ,[]++(u.L++[]),.z],zV E (.cons (L:=[]) (by rw[Hr];exact .int _) (.cons (by rw[<- ud];exact ru) .nil)) (λc F=>#[u,hu,by simpa using F]),rfl,rfl,rfl]
theorem B6 {k:Nat} (b:Gl X "enumerate") (hm:X.mg "enumerate"=none) (c:RA X G0 W0 [a] ms) (d:starEach [a] X.env=[(false,eval a X.env)]):RI X G0 W0 (.Tuple elts k tp) (.Call (.Name "enumerate" p) [a] [] pos) (mK ms):=#[PI.imp (Cr b hm c.h d) λ_ _ _ h=>BB h]
end
end L3
namespace L3
theorem Cm {i:Nat} (h:mask.length<=i):prM mask i=false:=by
 unfold prM
 rw[List.getElem?_eq_none h]
end L3
end
section
namespace L3
open PySem L2
structure Bl (mg:Str->Option Value):Prop where
 len:mg "len"=none
 range:mg "range"=none
 abs:mg "abs"=none
 divmod:mg "divmod"=none
 enumerate:mg "enumerate"=none
 tuple:mg "tuple"=none
 isinstance:mg "isinstance"=none
 int:mg "int"=none
 bool:mg "bool"=none
 all:mg "all"=none
 str:mg "str"=none
 max:mg "max"=none
 min:mg "min"=none
 list:mg "list"=none
 dict:mg "dict"=none
 repr:mg "repr"=none
 sorted:mg "sorted"=none
 set:mg "set"=none
 zip:mg "zip"=none
 reversed:mg "reversed"=none
theorem b_len:bootBuiltins "len"=some (.builtin "len"):=by decide +kernel
theorem b_abs:bootBuiltins "abs"=some (.builtin "abs"):=by decide +kernel
theorem A8:bootBuiltins "divmod"=some (.builtin "divmod"):=by decide +kernel
theorem wb:bootBuiltins "tuple"=some (.type "tuple"):=by decide +kernel
theorem j6:bootBuiltins "isinstance"=some (.builtin "isinstance"):=by decide +kernel
theorem b_int:bootBuiltins "int"=some (.type "int"):=by decide +kernel
theorem GN:bootBuiltins "bool"=some (.type "bool"):=by decide +kernel
theorem b_all:bootBuiltins "all"=some (.builtin "all"):=by decide +kernel
theorem DQ:bootBuiltins "max"=some (.builtin "max"):=by decide +kernel
theorem b_min:bootBuiltins "min"=some (.builtin "min"):=by decide +kernel
theorem GM:bootBuiltins "list"=some (.type "list"):=by decide +kernel
theorem GL:bootBuiltins "repr"=some (.builtin "repr"):=by decide +kernel
theorem ng:bootBuiltins "sorted"=some (.builtin "sorted"):=by decide +kernel
theorem DP:bootBuiltins "set"=some (.type "set"):=by decide +kernel
section
variable {K:FG} {G G0:Gm} {W W0:D->Sto->Prop} {H H':Hp} {Y:St} {Z Z':Sto} {T T':List It3} {g:Nat->Option It3} {x y z:It3} {α β:Type} {X:Cx} {L:List Addr}
theorem uS (h:tE K G0 W0 m Y H Q) (f:∀ v H,Q v H->Q' v H):tE K G0 W0 m Y H Q':=by
 refine h.use λG W le Z T g o Z' w e q=>?_
 refine tE.mk le w e ?_
 cases o with
 | ok r=>exact λv H' g=>f v H' (q v H' g)
 | error x=>exact q
def oJ:D->Option String
 | .non=>some "NoneType" | .bl _=>some "bool" | .int _=>some "int" | .str _=>some "str"
 | .tup _=>some "tuple" | .lst _=>some "list" | .fls _=>some "list" | .dk _=>some "dict" | .dt _=>some "dict" | .exc _ _=>none
def kA (t:String) (d:D):Option (D×Fl):=(oJ d).map λk=>(.bl (lA k t),.z)
theorem Rep.kind (r:Rep K H d v L) (e:oJ d=some k):KindOf K H v k:=by
 cases r with
 | non=>cases e;exact .non
 | bl b=>cases e;exact .bool b
 | int i=>cases e;exact .int i
 | str s=>cases e;exact .str s
 | tup h _=>cases e;exact .tuple (SqT.of h)
 | lst h _=>cases e;exact .list (SqL.of h)
 | lstF h _=>cases e;exact .list h.sq
 | dK h _ _=>cases e;exact .dK h
 | dT h _ _=>cases e;exact .dT h
 | exc _ _=>cases e
 | excV _ _ _ _ _ _ _ _=>cases e
theorem tQ (j:CallR X (.builtin "isinstance") (λxs H Q=>∃ x k,xs=[x,.ty t]/\KindOf X.K H x k/\Q (.bl (lA k t)) H)) (i:Gl X "isinstance") (hm:X.mg "isinstance"=none) (g:PE X (.Name tn pT) (tC (.ty t))) (f:RE X G0 W0 a ma) (b:starEach [a,.Name tn pT] X.env=(false,eval a X.env)::starEach [.Name tn pT] X.env) (d:starEach [.Name tn pT] X.env=(false,eval (.Name tn pT) X.env)::starEach [] X.env) (c:(backTo pos (starEach [.Name tn pT] X.env)).any (·.1)=false):RE X G0 W0 (.Call (.Name "isinstance" p) [a,.Name tn pT] [] pos) (mUn (kA t) ma) :=
 ⟨PE.imp (iB j i hm j6 (f9 f.h (f9 g mq d) b) (by decide) (by decide) b c) λY H Q h=>by
  have h:=yt (r:=λx H Q=>∃ k,KindOf X.K H x k/\Q (.bl (lA k t)) H) (λa H Q p ra e q=>by
   obtain ⟨k,h1,h2⟩:=G3.mp e
   subst h2
   exact #[k,ra.rep.kind h1,q #[.bl (lA k t),.bl (lA k t),[],.z] H (dj (.bl _)) rfl rfl]) h
  refine uS h λx H1 #[k,l,q]=>?_
  exact ⟨x,k,rfl,l,q⟩⟩
def As:D->Option Key
 | .int i=>some (.inl i)
 | .str s=>some (.inr s)
 | _=>none
def fu:List D->Option (List Key)
 | []=>some []
 | d::ds=>match As d,fu ds with
  | some k,some ks=>some (k::ks)
  | _,_=>none
theorem xl (r:Rep K H d v L) (e:As d=some k):v=kV k:=by
 cases r <;> cases e <;> rfl
theorem iL:∀ {ds:List D} {a:List V} {L:List Addr} {ks:List Key},Reps (Rep K H) ds a L->fu ds=some ks->a=ks.map kV
 | _,_,_,ks,.nil,e=>by cases e;rfl
 | _,_,_,ks,.cons (d:=d) (ds:=ds) r rs,e=>by
  unfold fu at e
  cases h1:As d with
  | none=>rw[h1] at e;exact nsE e
  | some k =>
   cases h2:fu ds with
   | none=>rw[h1,h2] at e;exact nsE e
   | some ks' =>
    rw[h1,h2] at e
    cases e
    rw[xl r h1,iL rs h2];rfl
def cC (kvs:List (List Key×D)) (k:List Key):Option D:=(kvs.find? λa=>decide (a.1=k)).map (·.2)
def fj (kvs:List (List Key×D)) (k:List Key) (v:D):List (List Key×D) :=
 if (kvs.any λa=>decide (a.1=k))=true then kvs.map (λa=>if a.1=k then (a.1,v) else a) else kvs++[(k,v)]
theorem so:∀ {kvs:List (List Key×D)} {ps:List (List Key×V)} {L:List Addr} {k:List Key} {d:D},kvs.map (·.1)=ps.map (·.1)->Reps (Rep K H) (kvs.map (·.2)) (ps.map (·.2)) L->cC kvs k=some d->∃ v L',lq ps k=some v/\Rep K H d v L'/\∀ c∈L',c∈L
 | [],ps,L,k,d,hk,r,e=>by cases e
 | f::kvs,[],L,k,d,hk,r,e=>by cases hk
 | f::kvs,p::ps,L,k,d,hk,r,e=>by
  have b:f.1=p.1/\kvs.map (·.1)=ps.map (·.1):=by simpa using hk
  generalize i:(f::kvs).map (·.2)=xs at r
  generalize j:(p::ps).map (·.2)=ys at r
  cases r with
  | nil=>cases i
  | cons a as =>
   cases i
   cases j
   unfold cC at e
   rw[List.find?_cons] at e
   by_cases h:f.1=k
   .rw[Hn h] at e
    cases e
    exact #[_,_,jz (b.1.symm.trans h),a,λc g=>G4 _ g]
   .rw[Ho h] at e
    obtain ⟨v,L',h1,h2,h3⟩:=so b.2 as e
    exact #[v,L',by rw[jA (λz=>h (b.1.trans z))];exact h1,h2,λc g=>G5 _ (h3 c g)]
def lh:D->D->Option (D×Fl)
 | .dt kvs,.tup ks=>match fu ks with
  | some k=>(cC kvs k).map λd=>(d,.z)
  | none=>none
 | _,_=>none
def vi:R2:=λx y H Q=>∃ a v,x=.ref a/\DGet H a y (some v)/\Q v H
theorem CK:OpD K vi lh:=λa b H Q p ra rb e q=>by
 obtain ⟨da,B,u,m⟩:=a
 obtain ⟨db,x,A,s⟩:=b
 have g:=ra
 obtain ⟨ra,w⟩:=ra
 obtain ⟨rb,ob⟩:=rb
 dsimp only at ra rb e
 cases da with
 | dt kvs =>
  obtain ⟨h,ps,l,rfl,rfl,n,o,rs⟩:=ra.view
  cases db with
  | tup ks =>
   obtain ⟨r,ws,rfl,i,f⟩:=rb.view
   have e:(match fu ks with | some k=>(cC kvs k).map λd=>(d,Fl.z) | none=>none)=some p:=e
   cases h1:fu ks with
   | none=>rw[h1] at e;exact nsE e
   | some k =>
    rw[h1] at e
    obtain ⟨d,h2,h3⟩:=G3.mp (show (cC kvs k).map (λd=>(d,Fl.z))=some p from e)
    subst h3
    have hw:=iL f h1
    subst hw
    obtain ⟨v,L',g1,g2,g3⟩:=so o rs h2
    refine #[h,v,rfl,by rw[<- g1];exact DGet.t n i,q #[d,v,L',.z] H (rK g2 λc j=>?_) rfl rfl]
    exact pZ (y:=#[.dt kvs,.ref h,h::l,m]) GX g rfl rfl c (g3 c j)
  | _=>exact nsE e
 | _=>exact nsE e
open PySem.Spec PyProof.Rows in
theorem CZ (hu:X.A.units+1 < cLine):IxR X vi:=by
 intro value slice pins s Y H x y v u Q I d i h j
 obtain ⟨a,w,rfl,g,q⟩:=h
 cases d
 have c:=sC I g
 unfold subscriptTail
 refine GU ?_
 rw[getitemInPython_of_ne c.not_modules]
 refine GU (wpAny_specialOf c PySem.F.slot_dict_getitem.lookup ?_)
 have fin:wpAny (model X.prog X.w) X.A (subscripted slice false (.ref a) u) (λr e=>wpAny (model X.prog X.w) X.A (letTemporaryGo value (.ref a) r >>= λ_=>pure r) (EP X pins Y Q) X.xe e) X.xe s:=by
  rw[j]
  exact wpAny_operating (xF hu I g i λk s3 f b=>GU (wpAny_letTemporaryGo (GV #[w,H,f,b,q])))
 first
  | exact GV (GU fin)
  | exact GU (GV (GU fin))
  | exact GU fin
abbrev aH:=orD ixD lh
theorem FS:OpD K (λx y H Q=>(zu K x y H Q\/zt K x y H Q)\/vi x y H Q) aH:=od_ix.or CK
theorem Gk (hu:X.A.units+1 < cLine):IxR X (λx y H Q=>(zu X.K x y H Q\/zt X.K x y H Q)\/vi x y H Q):=ix_ok.or (CZ hu)
def pQ:EM:=aT (.val (.dt []) .u)
theorem zk:RE X G0 W0 (.Dict [] [] pos) pQ:=⟨PE.imp zK λY H Q h=>by
 refine h.use λG W le Z T g o Z' w e q=>?_
 cases e
 intro p a
 refine q _ _ (Wf.done (Us:=[]) (ys:=[]) (x:=#[.dt [],.ref p,[p],.u]) w (λ_ h=>(by cases h)) #[bf a,.dT aE rfl .nil,λc b=>?_,λ_=>#[rfl,p,[],rfl,rfl,(by simp),a]])
 rw[Hy.mp b];exact .inl a⟩
def kT:D->List D->Option (D×D)
 | .dt kvs,[.tup ks,v]=>match fu ks with
  | some k=>if kvs.length < 16777216 then some (.dt (fj kvs k v),.non) else none
  | none=>none
 | _,_=>none
def vf:GS:=λo i v H Q=>∃ a H',o=.ref a/\DPut H a i v H'/\Q H'
theorem yN (hu:X.A.units+1 < cLine):Bf X vf:=by
 intro pins s Y H o i v f j u Q I b c d h
 obtain ⟨a,H',rfl,g,q⟩:=h
 cases b
 exact xE hu I g c d λs' e=>#[H',e,q]
theorem rA:∀ {kvs:List (List Key×D)} {ps:List (List Key×V)} {L L':List Addr} {k:List Key} {d:D} {v:V},kvs.map (·.1)=ps.map (·.1)->Reps (Rep K H) (kvs.map (·.2)) (ps.map (·.2)) L->Rep K H d v L' ->
  ∃ L2,Reps (Rep K H) ((kvs.map λb=>if b.1=k then (b.1,d) else b).map (·.2)) ((ps.map λb=>if b.1=k then (b.1,v) else b).map (·.2)) L2/\(∀ c∈L2,c∈L\/c∈L')
 | [],[],L,L',k,d,v,hk,r,rd=>#[[],.nil,λc f=>by cases f]
 | [],_::_,_,_,_,_,_,hk,_,_=>by cases hk
 | _::_,[],_,_,_,_,_,hk,_,_=>by cases hk
 | b::kvs,p::ps,L,L',k,d,v,hk,r,rd=>by
  have e:b.1=p.1/\kvs.map (·.1)=ps.map (·.1):=by simpa using hk
  generalize g:(b::kvs).map (·.2)=xs at r
  generalize i:(p::ps).map (·.2)=ys at r
  cases r with
  | nil=>cases g
  | @cons _ _ L1 _ _ L1' a as =>
   cases g
   cases i
   obtain ⟨L2,h1,h2⟩:=rA (k:=k) e.2 as rd
   by_cases h:b.1=k
   .refine #[L'++L2,?_,λc f=>?_]
    .simp only[Hm,if_pos h,if_pos (e.1.symm.trans h)]
     exact .cons rd h1
    .rcases G9.mp f with z | z
     .exact .inr z
     .rcases h2 c z with y | y
      .exact .inl (G5 _ y)
      .exact .inr y
   .refine #[L1++L2,?_,λc f=>?_]
    .simp only[Hm,if_neg h,if_neg (λz=>h (e.1.trans z))]
     exact .cons a h1
    .rcases G9.mp f with z | z
     .exact .inl (G4 _ z)
     .rcases h2 c z with y | y
      .exact .inl (G5 _ y)
      .exact .inr y
theorem Ba {kvs:List (List Key×D)} {ps:List (List Key×V)} (b:kvs.map (·.1)=ps.map (·.1)):(kvs.any λa=>decide (a.1=k))=ps.any λa=>decide (a.1=k):=by
 have h1:(kvs.any λa=>decide (a.1=k))=(kvs.map (·.1)).any λx=>decide (x=k):=by rw[List.any_map];rfl
 have h2:(ps.any λa=>decide (a.1=k))=(ps.map (·.1)).any λx=>decide (x=k):=by rw[List.any_map];rfl
 rw[h1,h2,b]
theorem rW {kvs:List (List Key×α)} {d:α}:(kvs.map λa=>if a.1=k then (a.1,d) else a).map (·.1)=kvs.map (·.1):=by
 rw[HH]
 refine HI λa _=>?_
 show (if a.1=k then (a.1,d) else a).1=a.1
 split <;> rfl
theorem put1 (a:D):kT (.dt kvs) [a]=none:=by cases a <;> rfl
theorem put3' (a:D):kT (.dt kvs) (a::b::c::r)=none:=by cases a <;> rfl
theorem CP:MutD K (mi vf) kT:=λa d u as H Q p r m na ra n e q=>by
 cases d with
 | dt kvs =>
  obtain ⟨_,ps,_,e1,B,x,j,rs⟩:=r.view
  cases e1
  cases B
  match as,e,ra,n with
  | [],e,_,_=>exact nsE e
  | [y],e,_,_=>exact nsE ((put1 y.d).symm.trans e)
  | y::_::_::_,e,_,_=>exact nsE ((put3' y.d).symm.trans e)
  | [k,y],e,ra,n =>
   have w:=ra k GX
   have C:=ra y (GY _ GX)
   have F:=n y (GY _ GX)
   obtain ⟨kd,G,I,J⟩:=k
   dsimp only at w
   cases kd with
   | tup ks =>
    obtain ⟨A,ws,rfl,f,s⟩:=w.view
    have e:(match fu ks with | some k=>if kvs.length < 16777216 then some (D.dt (fj kvs k y.d),D.non) else none | none=>none)=some p:=e
    cases h1:fu ks with
    | none=>rw[h1] at e;exact nsE e
    | some key =>
     rw[h1] at e
     dsimp only at e
     split at e
     .rename_i E
      cases e
      have hw:=iL s h1
      subst hw
      have hlen:kvs.length=ps.length:=by have:=congrArg List.length j;simpa using this
      refine #[.ref A,y.v,rfl,a,_,rfl,DPut.t x f (by rw[<- hlen,<- szl];exact E),?_]
      have ma:MutAt H a:=.inr (.inr #[_,x])
      have g:Rep K (upd H a (.dT (fY ps key y.v))) y.d y.v y.L:=C.keep (M:=λb=>b=a) (λb o f h=>by rw[aq h];exact f) (λb e=>by rw[e];exact ma) λb f e=>F (by rw[<- e];exact f)
      have keeps:Reps (Rep K (upd H a (.dT (fY ps key y.v)))) (kvs.map (·.2)) (ps.map (·.2)) u:=rs.keep (M:=λb=>b=a) (λb o f h=>by rw[aq h];exact f) (λb e=>by rw[e];exact ma) λb f e=>na (by rw[<- e];exact f)
      have fin:∃ l,Reps (Rep K (upd H a (.dT (fY ps key y.v)))) ((fj kvs key y.d).map (·.2)) ((fY ps key y.v).map (·.2)) l/\(∀ c∈l,c∈u\/c∈y.L)/\(fj kvs key y.d).map (·.1)=(fY ps key y.v).map (·.1):=by
       generalize upd H a (HO.dT (fY ps key y.v))=H2 at keeps g ⊢
       unfold fj fY
       rw[Ba j]
       split
       .obtain ⟨L2,g1,g2⟩:=rA (k:=key) j keeps g
        exact #[L2,g1,g2,by rw[rW,rW];exact j]
       .refine #[u++(y.L++[]),?_,λc i=>?_,by rw[List.map_append,List.map_append,j];rfl]
        .rw[List.map_append,List.map_append]
         exact keeps.append (.cons g .nil)
        .rcases G9.mp i with z | z
         .exact .inl z
         .rw[List.append_nil] at z;exact .inr z
      obtain ⟨l,g1,g2,g3⟩:=fin
      exact q (.dT (fY ps key y.v)) l #[.non,.non,[],.z] (.dT aE g3 g1) rfl (λc i=>(g2 c i).imp id λh=>#[y,GY _ GX,h]) rfl rfl .non λc i=>by cases i
     .exact nsE e
   | _=>exact nsE e
 | _=>exact nsE e
def tZ (f g:D->List D->Option (D×D)) (a:D) (b:List D):Option (D×D):=match f a b with
 | some p=>some p
 | none=>g a b
theorem MutD.or {f g:D->List D->Option (D×D)} (h:MutD K r f) (h':MutD K r' g):MutD K (λx y H Q=>r x y H Q\/r' x y H Q) (tZ f g):=λa d i as H Q p r m na ra c e q=>by
 unfold tZ at e
 cases b:f d (as.map (·.d)) with
 | some p'=>rw[b] at e;cases e;exact .inl (h a d i as H Q _ r m na ra c b q)
 | none=>rw[b] at e;exact .inr (h' a d i as H Q p r m na ra c e q)
abbrev tz:=tZ qW kT
theorem Aa:MutD K (mi λo i v H Q=>mf o i v H Q\/vf o i v H Q) tz:=λa d c as H Q p r m na ra b e q=>by
 rcases MutD.or CO CP a d c as H Q p r m na ra b e q with ⟨k,v,h1,h2⟩ | ⟨k,v,h1,h2⟩
 .exact #[k,v,h1,.inl h2]
 .exact #[k,v,h1,.inr h2]
theorem uW (hu:X.A.units+1 < cLine):Bf X (λo i v H Q=>mf o i v H Q\/vf o i v H Q):=by
 intro pins s Y H o i v a b u Q I c d e h
 rcases h with h | h
 .exact yK pins s Y H o i v a b u Q I c d e h
 .exact yN hu pins s Y H o i v a b u Q I c d e h
end
section
open PySem.Spec PyProof.Rows HT
variable {prog:Program} {w:World} {A:Around} {E:Value->Shared->Prop} {s:Shared}
theorem je {lo hi:Option Int} (a:IsTup s.heap t items) (e:s.heap.IsSliceOf sl vl vu .none) (pl:IsPart vl lo) (pu:IsPart vu hi) (hw:sIx items.size 0 lo=0/\sIx items.size items.size hi=items.size) (h:Q (.ref t) s) (hsz:items.size<=sizeLine):wpAny (model prog w) A (getItem (.ref t) (.ref sl)) Q E s:=by
 obtain ⟨os,c,b,f⟩:=id e
 have d:s.TypeIs (.ref sl) "slice":=#[os,c,b]
 unfold getItem
 try with_reducible refine GW ?_
 first | refine GU (GV ?_) | skip
 refine GU (wpAny_sequenceKey a.typeIs (by decide) ?_)
 refine GU (wpAny_callSpecial?_slot (name:=Str.ofString "__getitem__") a.typeIs PyProof.Rows.slot_tuple_getitem
  (wpAny_call_entry PyProof.Rows.slot_tuple_getitem a.typeIs entry_tuple_getitem ?_ (args_tuple_getitem _ _)))
 show wpAny _ _ (Builtin.Tuple.tupleItemsOf (.ref t) >>= _) _ _ s
 refine GU (tupleItemsOf_ a ?_)
 refine GU (wpAny_typeOf d ?_)
 rw[if_pos (by decide)]
 refine GU (fD e pl pu ?_)
 show wpAny _ _ (if (((sIx items.size 0 lo:Nat):Int) == 0 && (1:Int) == 1 && (sIx items.size items.size hi - sIx items.size 0 lo) == items.size)=true then _ else _) _ _ s
 rw[if_pos (by simp[hw.1,hw.2])]
 refine GU ?_
 unfold Builtin.Tuple.tupleIsExact
 refine GU (wpAny_typeOf a.typeIs ?_)
 refine GV ?_
 rw[if_pos (by decide)]
 exact GU (wpAny_rule (GV #[_,rfl,GV h]))
end
section
variable {K:FG} {G G0:Gm} {W W0:D->Sto->Prop} {H H':Hp} {Y:St} {Z Z':Sto} {T T':List It3} {g:Nat->Option It3} {x y z:It3} {α β:Type} {X:Cx} {L:List Addr}
def zq (K:FG):V->Option Int->Option Int->Hp->VK->Prop:=λx lo hi H Q=>∃ a xs,x=.ref a/\SqT K H a xs/\(HT.sIx xs.length 0 lo=0/\HT.sIx xs.length xs.length hi=xs.length)/\Q (.ref a) H
theorem BI:SlR X (zq X.K):=by
 intro pins s Y H x v g f lo hi sl Q I c e pl pu h
 obtain ⟨a,xs,rfl,d,hw,q⟩:=h
 cases c
 obtain ⟨its,r,b,hz⟩:=I.tuple d
 have hlen:its.toArray.size=xs.length:=by rw[Hl];exact r.length.symm
 refine #["tuple",_,PyProof.Rows.slot_tuple_getitem.lookup,b.typeIs,?_]
 exact je b e pl pu (by rw[hlen];exact hw) #[.ref a,H,I,rfl,q] (by rw[hlen];exact hz)
def asI:D->Option Int
 | .int i=>some i
 | _=>none
def oA:M3 (Option Int):=aT none
def ot (m:EM):M3 (Option Int):=af m λr=>af (der r) λd=>bc ((asI d).map some)
def EndP (K:FG) (G:Gm) (W:D->Sto->Prop) (Y:St) (T:List It3) (Z':Sto) (Q:Option Int->Hp->Prop):Except D (Option Int)->Prop
 | .ok b=>∀ H' g',Wf K G H' Y Z' T g'->Q b H'
 | .error e=>W e Z'
def tP (K:FG) (G0:Gm) (W0:D->Sto->Prop) (m:M3 (Option Int)):TO:=λY H Q=>∃ G W,Le K G W G0 W0/\∃ Z T g r Z',Wf K G H Y Z T g/\m Z=some (r,Z')/\EndP K G W Y T Z' Q r
structure RP (X:Cx) (G0:Gm) (W0:D->Sto->Prop) (e:Option Expr) (m:M3 (Option Int)):Prop where
 h:PO X e (tP X.K G0 W0 m)
theorem PO.imp (h:PO X e t) (f:∀ Y H Q,t' Y H Q->t Y H Q):PO X e t':=λpins s Y H Q I q=>h pins s Y H Q I (f Y H Q q)
theorem B0:RP X G0 W0 none oA:=⟨PO.imp Co λY H Q h=>by
 obtain ⟨G,W,le,Z,T,g,r,Z',w,e,q⟩:=h
 cases e
 exact q _ _ w⟩
theorem BZ (h:RE X G0 W0 e m):RP X G0 W0 (some e) (ot m):=⟨PO.imp (Cn h.h) λY H Q h=>by
 obtain ⟨G,W,le,Z,T,g,r,Z',w,e,q⟩:=h
 have a:∀ x,r=.error x->W x Z':=λx b=>by subst b;exact q
 refine tE.seq le w e a λra Z1 e1 v H1 #[Ts,g1,f,a1]=>?_
 obtain ⟨d,s,n⟩:=aQ e1
 obtain ⟨o,l,rfl,rfl⟩:=bJ n
 obtain ⟨i,k,j⟩:=G3.mp l
 subst j
 obtain ⟨y,p,f1,f2⟩:=a1.item f (λx b=>G4 _ b) s
 have c:=(f.itm p).rep
 rw[f1] at c
 have hd:d=.int i:=by cases d <;> cases k;rfl
 rw[hd] at c
 refine ⟨i,by rw[<- f2];exact c.int_inv,q _ _ (f.sub (Hf Ts T))⟩⟩
def mSl (f:D->Option Int->Option Int->Option (D×Fl)) (ma:EM) (pl pu:M3 (Option Int)):EM:=af ma λra=>af pl λlo=>af pu λhi=>af (der ra) λd=>bc ((f d lo hi).map λp=>R3.val p.1 p.2)
def SlD (K:FG) (r:V->Option Int->Option Int->Hp->VK->Prop) (f:D->Option Int->Option Int->Option (D×Fl)):Prop:=∀ (a:It3) (lo hi:Option Int) (H:Hp) (Q:VK) (p:D×Fl),Arg K H a->f a.d lo hi=some p ->
 (∀ w H',New K H H' (cY [a]) w->w.d=p.1->w.f=p.2->Q w.v H')->r a.v lo hi H Q
theorem tP.seq (le:Le K G W G0 W0) (w:Wf K G H Y Z T g) (e:af ma k Z=some (r,Z')) (he:∀ x,r=.error x->W x Z') (h:∀ b Z1,k b Z1=some (r,Z')->∀ H1 g1,Wf K G H1 Y Z1 T g1->P b H1):tP K G0 W0 ma Y H P:=by
 unfold af at e
 cases q:ma Z with
 | none=>rw[q] at e;exact nsE e
 | some p =>
  obtain ⟨o,Z1⟩:=p
  rw[q] at e
  cases o with
  | error x=>cases e;exact #[G,W,le,Z,T,g,.error x,Z',w,q,he x rfl]
  | ok ra=>exact #[G,W,le,Z,T,g,.ok ra,Z1,w,q,h ra Z1 e]
theorem tE_sl (hd:SlD K r f) (h:tE K G0 W0 (mSl f ma pl pu) Y H Q):tSl r (tE K G0 W0 ma) (tP K G0 W0 pl) (tP K G0 W0 pu) Y H Q:=by
 refine h.use λG W le Z T g o Z' w e q=>?_
 refine tE.seq le w e q.err λra Z1 e1 A H1 #[Ts,g1,v,a1]=>?_
 refine tP.seq le v e1 q.err λlo Z2 l H2 g2 t=>?_
 refine tP.seq le t l q.err λhi Z3 k n g3 b=>?_
 obtain ⟨d,u,j⟩:=aQ k
 obtain ⟨p,a,rfl,rfl⟩:=bJ j
 obtain ⟨y,i,f1,f2⟩:=a1.item b (λx m=>G4 _ m) u
 subst f1 f2
 cases c:f y.d lo hi with
 | none=>rw[c] at a;exact nsE a
 | some s =>
  rw[c] at a
  cases a
  exact hd y lo hi n Q s (b.itm i).arg c (oS b (λz hz=>by rw[Hy.mp hz];exact i) q)
theorem Reps.take:∀ {ds:List D} {b:List V} {L:List Addr} (n:Nat),Reps (Rep K H) ds b L->∃ L',Reps (Rep K H) (ds.take n) (b.take n) L'/\∀ c∈L',c∈L
 | _,_,_,0,_=>#[[],by simpa using Reps.nil,λc a=>by cases a]
 | _,_,_,n+1,.nil=>#[[],by simpa using Reps.nil,λc a=>by cases a]
 | _,_,_,n+1,.cons (L:=L1) r rs=>by
  obtain ⟨L',h1,h2⟩:=Reps.take n rs
  exact ⟨L1++L',by simpa using Reps.cons r h1,λc a=>by
   rcases G9.mp a with h | h
   .exact G4 _ h
   .exact G5 _ (h2 c h)⟩
theorem Reps.drop:∀ {ds:List D} {b:List V} {L:List Addr} (n:Nat),Reps (Rep K H) ds b L->∃ L',Reps (Rep K H) (ds.drop n) (b.drop n) L'/\∀ c∈L',c∈L
 | _,_,L,0,r=>#[L,by simpa using r,λc a=>a]
 | _,_,_,n+1,.nil=>#[[],by simpa using Reps.nil,λc a=>by cases a]
 | _,_,_,n+1,.cons r rs=>by
  obtain ⟨L',h1,h2⟩:=Reps.drop n rs
  exact #[L',by simpa using h1,λc a=>G5 _ (h2 c a)]
theorem Reps.cut (lo hi:Option Int) (r:Reps (Rep K H) ds vs L):∃ L',Reps (Rep K H) (qh ds lo hi) (sD vs lo hi) L'/\∀ c∈L',c∈L:=by
 unfold qh sD
 rw[<- r.len]
 obtain ⟨d,h1,h2⟩:=r.drop (HT.sIx ds.length 0 lo)
 obtain ⟨L2,h3,a⟩:=h1.take (HT.sIx ds.length ds.length hi - HT.sIx ds.length 0 lo)
 exact #[L2,h3,λc b=>h2 c (a c b)]
def slD:D->Option Int->Option Int->Option (D×Fl)
 | .lst xs,lo,hi=>some (.lst (qh xs lo hi),.u)
 | .fls xs,lo,hi=>some (.lst (qh xs lo hi),.u)
 | .tup xs,lo,hi=>#v[.tup (qh xs lo hi)]
 | _,_,_=>none
theorem sd_sl:SlD K (λx lo hi H Q=>Ff K x lo hi H Q\/(Fe K x lo hi H Q\/zq K x lo hi H Q)) slD:=λa lo hi H Q p ra e q=>by
 obtain ⟨da,n,k,j⟩:=a
 have f:=ra
 obtain ⟨ra,m⟩:=ra
 dsimp only at ra e
 cases da with
 | lst xs =>
  obtain ⟨b,d,l,rfl,rfl,g,rs⟩:=ra.view
  cases e
  obtain ⟨L',h1,h2⟩:=rs.cut lo hi
  exact .inl #[b,d,rfl,SqL.of g,λp i=>q #[_,.ref p,p::L',.u] _ (rJ i h1 λc h=>pZ (y:=#[.lst xs,.ref b,b::l,j]) GX f rfl rfl c (h2 c h)) rfl rfl]
 | fls xs =>
  obtain ⟨b,d,rfl,g,rs⟩:=ra.view
  cases e
  obtain ⟨L',h1,h2⟩:=rs.cut lo hi
  exact .inl #[b,d,rfl,g.sq,λp i=>q #[_,.ref p,p::L',.u] _ (rJ i h1 λc h=>kz (y:=#[.fls xs,.ref b,k,j]) GX f rfl c (h2 c h)) rfl rfl]
 | tup xs =>
  obtain ⟨b,d,rfl,g,rs⟩:=ra.view
  cases e
  by_cases hw:HT.sIx d.length 0 lo=0/\HT.sIx d.length d.length hi=d.length
  .have h:qh xs lo hi=xs:=by
    unfold qh
    rw[rs.len,hw.1,hw.2,<- rs.len]
    simp
   rw[h] at q
   exact .inr (.inr #[b,d,rfl,SqT.of g,hw,q #[.tup xs,.ref b,k,.z] H (rK (.tup g rs) (kz (y:=#[.tup xs,.ref b,k,j]) GX f rfl)) rfl rfl])
  .obtain ⟨L',h1,h2⟩:=rs.cut lo hi
   exact .inr (.inl #[b,d,rfl,SqT.of g,hw,λp i=>q #[_,.ref p,L',.z] _ (zV i h1 λc h=>kz (y:=#[.tup xs,.ref b,k,j]) GX f rfl c (h2 c h)) rfl rfl])
 | _=>exact nsE e
theorem Ey:SlR X (λx lo hi H Q=>Ff X.K x lo hi H Q\/(Fe X.K x lo hi H Q\/zq X.K x lo hi H Q)):=sl_list.or (sl_tup.or BI)
theorem zj (he:RE X G0 W0 e m) (a:RP X G0 W0 lo pl) (hu:RP X G0 W0 hi pu):RE X G0 W0 (.Subscript e (.Slice lo hi none p2) pos) (mSl slD m pl pu):=#[PE.imp (zI Ey he.h a.h hu.h) λ_ _ _ h=>tE_sl sd_sl h]
end
mutual
def pyD:D->Option PyData
 | .non=>some .none
 | .bl b=>some (.bool b)
 | .int i=>some (.int i)
 | .str x=>some (.str x)
 | .tup xs=>(nB xs).map .tuple
 | .lst xs=>(nB xs).map .list
 | .fls xs=>(nB xs).map .list
 | .dk _=>none
 | .dt _=>none
 | .exc _ _=>none
def nB:List D->Option (List PyData)
 | []=>some []
 | d::ds=>match pyD d,nB ds with
  | some p,some ps=>some (p::ps)
  | _,_=>none
end
section
variable {K:FG} {H:Hp} {Ks:Addr->Prop} {d:D} {v:V} {L:List Addr} {X:Cx}
theorem Rep.dv (r:Rep K H d v L):∀ p,pyD d=some p->DV K H v p:=by
 refine Rep.rec (motive_1:=λd v _ _=>∀ p,pyD d=some p->DV K H v p) (motive_2:=λds c _ _=>∀ ps,nB ds=some ps->DVs K H c ps) ?_ ?_ ?_ ?_ ?_ ?_ ?_ ?_ ?_ ?_ ?_ ?_ ?_ r
 .intro p e;unfold pyD at e;cases e;exact .non
 .intro _ p e;unfold pyD at e;cases e;exact .bl _
 .intro _ p e;unfold pyD at e;cases e;exact .int _
 .intro _ p e;unfold pyD at e;cases e;exact .str _
 .intro xs a c L h _ b p e
  unfold pyD at e
  obtain ⟨ps,e1,rfl⟩:=G3.mp e
  exact .tup (SqT.of h) (b ps e1)
 .intro xs a c L h _ b p e
  unfold pyD at e
  obtain ⟨ps,e1,rfl⟩:=G3.mp e
  exact .lst (SqL.of h) (b ps e1)
 .intro xs a c L h _ b p e
  unfold pyD at e
  obtain ⟨ps,e1,rfl⟩:=G3.mp e
  exact .lst h.sq (b ps e1)
 .intro _ _ _ _ _ _ _ _ p e;unfold pyD at e;exact nsE e
 .intro _ _ _ _ _ _ _ _ p e;unfold pyD at e;exact nsE e
 .intros;rename_i e;unfold pyD at e;exact nsE e
 .intros;rename_i e;unfold pyD at e;exact nsE e
 .intro ps e;unfold nB at e;cases e;exact .nil
 .intro d v L ds c L' _ _ g f ps e
  unfold nB at e
  cases h1:pyD d with
  | none=>rw[h1] at e;exact nsE e
  | some p =>
   cases h2:nB ds with
   | none=>rw[h1,h2] at e;exact nsE e
   | some qs=>rw[h1,h2] at e;cases e;exact .cons (g p h1) (f qs h2)
def eqP (a b:D):Option Bool:=match pyD a,pyD b with
 | some p,some q=>if p.canLay0 && q.canLay0 && decide (min p.depth q.depth<=30) then some (PyData.eqv p q) else none
 | _,_=>none
def eqA (a b:D):Option Bool:=match eqS a b with
 | some k=>some k
 | none=>eqP a b
abbrev eqX (a b:D):Option (D×Fl):=(eqA a b).map λk=>(.bl k,.z)
abbrev neX (a b:D):Option (D×Fl):=(eqA a b).map λk=>(.bl (!k),.z)
def rEqP:R2:=λx y H Q=>∃ p q,DV X.K H x p/\DV X.K H y q/\p.canLay0=true/\q.canLay0=true/\min p.depth q.depth<=30/\Q (.bl (PyData.eqv p q)) H
def rNeP:R2:=λx y H Q=>∃ p q,DV X.K H x p/\DV X.K H y q/\p.canLay0=true/\q.canLay0=true/\min p.depth q.depth<=30/\Q (.bl (!PyData.eqv p q)) H
theorem zQ (hu:X.A.units+64 < cLine):OpR X (compareOp .Eq) (λx y H Q=>rEq x y H Q\/rEqP (X:=X) x y H Q):=by
 intro pins s Y H x y v u Q I a b h
 rcases h with h | ⟨p,q,h1,h2,h3,d,e,c⟩
 .exact op_eq pins s Y H x y v u Q I a b h
 .obtain ⟨as,ra⟩:=DV.reads I h1 a
  obtain ⟨bs,rb⟩:=DV.reads I h2 b
  exact PySem.SeqAt.compareEq_reads ra rb h3 d (by lia) #[.bl _,H,I,rfl,c]
theorem FL (hu:X.A.units+64 < cLine):OpR X (compareOp .NotEq) (λx y H Q=>rNe x y H Q\/rNeP (X:=X) x y H Q):=by
 intro pins s Y H x y v u Q I a b h
 rcases h with h | ⟨p,q,h1,h2,h3,d,e,c⟩
 .exact op_ne pins s Y H x y v u Q I a b h
 .obtain ⟨as,ra⟩:=DV.reads I h1 a
  obtain ⟨bs,rb⟩:=DV.reads I h2 b
  exact PySem.SeqAt.compareNe_reads ra rb h3 d (by lia) #[.bl _,H,I,rfl,c]
theorem vQ (e:eqP a b=some k):∃ p q,pyD a=some p/\pyD b=some q/\p.canLay0=true/\q.canLay0=true/\min p.depth q.depth<=30/\k=PyData.eqv p q:=by
 unfold eqP at e
 cases h1:pyD a with
 | none=>rw[h1] at e;exact nsE e
 | some p =>
  cases h2:pyD b with
  | none=>rw[h1,h2] at e;exact nsE e
  | some q =>
   rw[h1,h2] at e
   dsimp only at e
   split at e
   .rename_i h
    cases e
    simp only[Bool.and_eq_true,decide_eq_true_eq] at h
    exact #[p,q,rfl,rfl,h.1.1,h.1.2,h.2,rfl]
   .exact nsE e
theorem zT:OpD X.K (λx y H Q=>rEq x y H Q\/rEqP (X:=X) x y H Q) eqX:=λa b H Q p ra rb e q=>by
 obtain ⟨k,h1,h2⟩:=G3.mp e
 subst h2
 unfold eqA at h1
 cases c:eqS a.d b.d with
 | some k' =>
  rw[c] at h1
  cases h1
  obtain ⟨s,l⟩:=AK ra.rep rb.rep c
  exact .inl #[s,by rw[<- l];exact q #[.bl k,.bl k,[],.z] H (dj (.bl k)) rfl rfl]
 | none =>
  rw[c] at h1
  obtain ⟨p,f,e1,j,i,h,g,rfl⟩:=vQ h1
  exact .inr #[p,f,ra.rep.dv p e1,rb.rep.dv f j,i,h,g,q #[.bl _,.bl _,[],.z] H (dj (.bl _)) rfl rfl]
theorem FT:OpD X.K (λx y H Q=>rNe x y H Q\/rNeP (X:=X) x y H Q) neX:=λa b H Q p ra rb e q=>by
 obtain ⟨k,h1,h2⟩:=G3.mp e
 subst h2
 unfold eqA at h1
 cases c:eqS a.d b.d with
 | some k' =>
  rw[c] at h1
  cases h1
  obtain ⟨s,l⟩:=AK ra.rep rb.rep c
  exact .inl #[s,by rw[<- l];exact q #[.bl (!k),.bl (!k),[],.z] H (dj (.bl _)) rfl rfl]
 | none =>
  rw[c] at h1
  obtain ⟨p,f,e1,j,i,h,g,rfl⟩:=vQ h1
  exact .inr #[p,f,ra.rep.dv p e1,rb.rep.dv f j,i,h,g,q #[.bl _,.bl _,[],.z] H (dj (.bl _)) rfl rfl]
theorem AL (h:pyD a=some p) (b:p.canLay0=true) (hd:p.depth<=30):eqP a a=some true:=by
 unfold eqP
 rw[h]
 simp[b,hd,PySem.SeqAt.eqv_refl p b]
end
theorem Gs {k:Nat} {nn:Nat} (F:Fun K x x st f fd) (S:FnScope N ps (ad st)) (c:mask.length=ps.length) (b:N.length=nn) (body:∀ (a:Value) (A:Around) (outer:List Env) (s:Shared) (H:Hp) (E:XK) (f:Addr) (G:Gm),Room k (A.deeper (PyProof.Rows.envOfC x (ad st) s.heap.objs.size f a))->G.pr=prM mask->RSs (dN CX0 P w K mg base N x (ad st) f a A outer s H E).nox G noX (aB st) m) :
  FnOk P w K mg base CX0 (k+1) f fd ps (s9 K (fnM mask nn m)):=by
 refine F.ok S (λe H Q E h=>?_) λa A outer s H e Q E d h=>?_
 .obtain ⟨l,p,fs,rfl,_,_,g,_⟩:=h
  unfold fnM at g
  grind
 .have hle:mask.length<=nn:=by
   rw[c,<- b]
   have:=congrArg List.length S.pre
   rw[Hv] at this
   omega
  obtain ⟨G,j,i⟩:=qc hle h
  subst b
  exact #[_,(body a A outer s H E f G d j).h,i]
def yB (K:FG):Sp:=λb H Q _=>∃ (a:Addr) (ns:List Int),b=[.ref a]/\SqL K H a (ns.map V.int)/\Dk H/\ns.length<=63/\∀ H',Q (.bl true) H'
theorem oj:∀ ns:List Int,Reps (Rep K H) (ns.map D.int) (ns.map V.int) []
 | []=>.nil
 | n::ns=>.cons (L:=[]) (.int n) (oj ns)
theorem CU (f:∀ ns:List Int,ns.length<=63->∃ fs,F [(.fls (ns.map .int),.z)]=some (.ok (.bl true,.z),fs)) (h:yB K vs H Q E):s9 K F vs H Q E:=by
 obtain ⟨a,ns,rfl,d,b,j,q⟩:=h
 obtain ⟨fs,e⟩:=f ns j
 have c:FzL K H a (ns.map V.int):=by
  rcases d with (h | h) | h
  .rcases b a with z | ⟨o,xs,z⟩
   .rw[h] at z;cases z
   .rw[h] at z;cases z
  .exact .inl h
  .exact .inr h
 refine #[[#[.fls (ns.map .int),.ref a,[],.z]],(.bl true,.z),fs,rfl,λp g=>?_,.cons (λ_ h=>by cases h) .nil,e,λx qs H' B i k _=>?_]
 .rw[Hy.mp g]
  exact #[.lstF c (oj ns),λh=>absurd rfl h]
 .have r:=B.rep
  rw[i] at r
  have inv:∀ {v:V} {L:List Addr},Rep K H' (.bl true) v L->v=.bl true:=λr=>by cases r;rfl
  rw[inv r]
  exact q H'
def vC (ok:D->Bool) (f:List D->Option (D×Fl)) (c:EM) (ms:M3 (List R3)):EM:=af c λa=>af (der a) λb=>if ok b then af ms λrs=>af (c8 (a::rs)) λds=>bc ((f ds).map λp=>R3.val p.1 p.2) else λ_=>none
section
variable {K:FG} {G G0:Gm} {W W0:D->Sto->Prop} {H H':Hp} {Y:St} {Z Z':Sto} {T T':List It3} {g:Nat->Option It3} {x y z:It3} {α β:Type} {X:Cx} {v:V} {d:D} {L:List Addr}
theorem BD (D:c6 K (λxs H Q=>∃ x k,xs=x::k/\r x k H Q) f) (hok:∀ d v L H,ok d=true->Rep K H d v L->tyV K Ty v H) (h:tE K G0 W0 (vC ok f mo ms) Y H Q) :
  tBM K Ty r (tE K G0 W0 mo) (tA K G0 W0 ms) Y H Q:=by
 refine h.use λG W le Z T g o Z' w e q=>?_
 refine tE.seq le w e q.err λN Z1 e1 I H1 #[Ts,g1,m,a1]=>?_
 obtain ⟨n,J,b⟩:=aQ e1
 cases l:ok n with
 | false=>rw[l] at b;exact nsE b
 | true =>
  rw[l] at b
  obtain ⟨y0,A,f0,f1⟩:=a1.item m (λx i=>G4 _ i) J
  refine #[hok n I _ H1 l (by rw[<- f0,<- f1];exact (m.itm A).rep),?_]
  refine tA.seq le m b q.err λrs Z2 z k H2 Us g2 c a2=>?_
  obtain ⟨ds,F,u⟩:=bD z
  obtain ⟨p,a,rfl,rfl⟩:=bJ u
  rw[<- List.append_assoc] at c
  obtain ⟨ys,t,f2,E⟩:=(Ars.cons a1 a2).items c (λx i=>G4 _ i) F
  subst f2
  cases j:f (ys.map (·.d)) with
  | none=>rw[j] at a;exact nsE a
  | some s =>
   rw[j] at a
   cases a
   obtain ⟨M,C,h1,h2⟩:=D ys H2 Q s (λy B=>(c.itm (t y B)).arg) j (oS c t q)
   rw[E] at h1
   cases h1
   exact h2
theorem vd {id:String} (n:PlainAttrs Ty) (slot:Slot Ty nm id) (i:typeOf (.builtin id)=pure (.type "method_descriptor")) (hm:MtR X id r) (k:c6 X.K (λxs H Q=>∃ x j,xs=x::j/\r x j H Q) f) (hok:∀ d v L H,ok d=true->Rep X.K H d v L->tyV X.K Ty v H) (l:RE X G0 W0 o mo) (m:RA X G0 W0 (e::es) ms) (b:attributeBase o nm X.env (eval o X.env)=eval o X.env) (g:((backTo cpos (starEach (e::es) X.env)).all (λx=>!x.1) && (backToKw cpos (keywordEach [] X.env)).all (λx=>x.1.isSome) && decide ((e::es).length+([]:List Keyword).length+(if ([]:List Keyword).isEmpty then 0 else 1) < 30))=true) (c:(apos.endLine == cpos.line)=true) (p:starEach (e::es) X.env=(false,eval e X.env)::starEach es X.env) (a:(backTo cpos (starEach es X.env)).any (·.1)=false):RE X G0 W0 (.Call (.Attribute o nm apos) (e::es) [] cpos) (vC ok f mo ms) :=
 #[PE.imp (Dw n slot i hm l.h m.h b g c p a) λ_ _ _ h=>BD k hok h]
def bd:List D->Option (List Int)
 | []=>some []
 | .int i::ds=>(bd ds).map (i::·)
 | _=>none
theorem fG:∀ {ds:List D} {ns:List Int},bd ds=some ns->ds=ns.map D.int
 | [],ns,e=>by cases e;rfl
 | d::ds,ns,e=>by
  cases d <;> try (exact nsE e)
  rename_i b
  obtain ⟨r,h1,h2⟩:=G3.mp (show (bd ds).map (b::·)=some ns from e)
  subst h2
  rw[fG h1];rfl
theorem Reps.ints:∀ {ns:List Int} {a:List V} {L:List Addr},Reps (Rep K H) (ns.map D.int) a L->a=ns.map V.int
 | [],_,_,.nil=>rfl
 | b::bs,_,_,.cons r rs=>by
  rw[Reps.ints rs]
  cases r;rfl
def leastI:List Int->Option Int
 | []=>none
 | x::xs=>some (xs.foldl (λa b=>if b < a then b else a) x)
def rM:List Int->Option Int
 | []=>none
 | x::xs=>some (xs.foldl (λa b=>if a < b then b else a) x)
theorem su:∀ (xs:List Int) (x:Int),(xs.foldl (λa b=>if b < a then b else a) x)∈x::xs/\∀ n∈x::xs,(xs.foldl (λa b=>if b < a then b else a) x)<=n
 | [],x=>#[GX,λn h=>by simp at h;subst h;exact Int.le_refl _]
 | y::xs,x=>by
  obtain ⟨h1,h2⟩:=su xs (if y < x then y else x)
  rw[List.foldl_cons]
  refine #[?_,λn c=>?_]
  .rcases G6.mp h1 with h | h
   .rw[h];split <;> simp
   .exact GY _ (GY _ h)
  .have h3:=h2 _ GX
   have d:(if y < x then y else x)<=x/\(if y < x then y else x)<=y:=by split <;> lia
   rcases G6.mp c with h | c
   .subst h;exact Int.le_trans h3 d.1
   .rcases G6.mp c with h | c
    .subst h;exact Int.le_trans h3 d.2
    .exact h2 n (GY _ c)
theorem gk:∀ (xs:List Int) (x:Int),(xs.foldl (λa b=>if a < b then b else a) x)∈x::xs/\∀ n∈x::xs,n<=(xs.foldl (λa b=>if a < b then b else a) x)
 | [],x=>#[GX,λn h=>by simp at h;subst h;exact Int.le_refl _]
 | y::xs,x=>by
  obtain ⟨h1,h2⟩:=gk xs (if x < y then y else x)
  rw[List.foldl_cons]
  refine #[?_,λn c=>?_]
  .rcases G6.mp h1 with h | h
   .rw[h];split <;> simp
   .exact GY _ (GY _ h)
  .have h3:=h2 _ GX
   have d:x<=(if x < y then y else x)/\y<=(if x < y then y else x):=by split <;> lia
   rcases G6.mp c with h | c
   .subst h;exact Int.le_trans d.1 h3
   .rcases G6.mp c with h | c
    .subst h;exact Int.le_trans d.2 h3
    .exact h2 n (GY _ c)
theorem z5 {m:Int} (h:rM ns=some m):ns≠[]/\∀ k,k∈ns->(∀ n∈ns,n<=k)->k=m:=by
 cases ns with
 | nil=>exact nsE h
 | cons x xs =>
  cases h
  obtain ⟨h1,h2⟩:=gk xs x
  grind
end
section
variable {K:FG} {G G0:Gm} {W W0:D->Sto->Prop} {H H':Hp} {Y:St} {Z Z':Sto} {T T':List It3} {g:Nat->Option It3} {x y z:It3} {α β:Type} {X:Cx} {v:V} {d:D} {L:List Addr}
def Dt (g:List Int->Option Int):D->D->Option (D×Fl)
 | .lst xs,.non=>(bd xs).map λns=>match g ns with
  | some m=>(.int m,.z)
  | none=>(.non,.z)
 | .lst xs,.int k=>(bd xs).map λns=>match g ns with
  | some m=>(.int m,.z)
  | none=>(.int k,.z)
 | _,_=>none
abbrev pL:=Dt rM
theorem CF {g:List Int->Option Int} (f:∀ ns m,g ns=some m->ns≠[]/\∀ k,k∈ns->P ns k->k=m) (h0:∀ ns,g ns=none->ns=[]):OpD K (λx d H Q=>vg K P x d H Q) (Dt g):=λa b H Q p ra rb e q=>by
 obtain ⟨da,y,l,t⟩:=a
 obtain ⟨db,v,w,r⟩:=b
 obtain ⟨ra,s⟩:=ra
 obtain ⟨rb,ob⟩:=rb
 dsimp only at ra rb e
 cases da with
 | lst xs =>
  obtain ⟨h,u,l,rfl,rfl,o,rs⟩:=ra.view
  have key:∀ (dd:D) (dv:V),Rep K H dd dv []->((bd xs).map λns=>match g ns with | some m=>((.int m,.z):D×Fl) | none=>(dd,.z))=some p->vg K P (.ref h) dv H Q:=λdd dv i e=>by
   obtain ⟨ns,h1,h2⟩:=G3.mp e
   have:=fG h1
   subst this
   have:=rs.ints
   subst this
   refine #[h,ns,rfl,SqL.of o,λn=>?_,λm hm j=>?_]
   .cases c:g ns with
    | some m=>exact absurd n (f ns m c).1
    | none =>
     rw[c] at h2
     subst h2
     exact q #[dd,dv,[],.z] H (dj i) rfl rfl
   .cases c:g ns with
    | none=>rw[h0 ns c] at hm;cases hm
    | some m' =>
     rw[c] at h2
     subst h2
     rw[(f ns m' c).2 m hm j]
     exact q #[.int m',.int m',[],.z] H (dj (.int _)) rfl rfl
  cases db with
  | non =>
   obtain ⟨rfl,rfl⟩:=rb.view
   exact key .non .non .non e
  | int k =>
   obtain ⟨rfl,rfl⟩:=rb.view
   exact key (.int k) (.int k) (.int k) e
  | _=>exact nsE e
 | _=>first | exact nsE e | (cases db <;> exact nsE e)
theorem CJ:OpD K (λx d H Q=>vg K (λns m=>∀ n∈ns,n<=m) x d H Q) pL:=CF (λ_ _=>z5) λns h=>by cases ns with | nil=>rfl | cons=>cases h
theorem Fb {id:String} {e d:Expr} {r:V->V->Hp->VK->Prop} (c:∀ {pins:List (Addr×Obj)} {s:Shared} {Y:St} {H:Hp} {x d:V} {u l:Value} {Q:VK},Inv X pins Y H s->RelV x u->RelV d l->r x d H Q->wpAny (model X.prog X.w) X.A (call (.builtin id) [u] [("default",l)]) (EP X pins Y Q) X.xe s) (m:OpD X.K (λx d H Q=>r x d H Q) f) (n:Gl X nm) (hm:X.mg nm=none) (q:bootBuiltins nm=some (.builtin id)) (he:RE X G0 W0 e ma) (hd:RE X G0 W0 d mb) (o:nm≠"__name__") (k:(nm == ("__debug__":Str))=false) (t:backTo pos (starEach [e] X.env)=(false,eval e X.env)::backTo pos (starEach [] X.env)) (g:backTo pos (starEach [] X.env)=[]) (a:(backTo pos (starEach [e] X.env)).any (·.1)=false) (b:(backToKw pos (keywordEach [#[some "default",d,kpos]] X.env)).all (·.1.isSome)=true) (i:(backToKw pos (keywordEach [#[some "default",d,kpos]] X.env)).any (·.1.isNone)=false) (j:(backToKw pos (keywordEach [#[some "default",d,kpos]] X.env)).filterMap (·.1)=(["default"]:List Str)) :
  RE X G0 W0 (.Call (.Name nm p) [e] [#[some "default",d,kpos]] pos) (aj f ma mb):=#[PE.imp (FC c n hm q he.h hd.h o k t g a b i j) λ_ _ _ h=>lW m h]
theorem Reps.rep (r:Reps (Rep K H) ds vs L):∀ n:Nat,∃ L',Reps (Rep K H) (List.replicate n ds).flatten (List.replicate n vs).flatten L'/\∀ c∈L',c∈L
 | 0=>#[[],.nil,λ_ h=>by cases h]
 | n+1=>by
  obtain ⟨L',h1,h2⟩:=Reps.rep r n
  refine #[L++L',?_,λc a=>?_]
  .rw[List.replicate_succ,List.replicate_succ,List.flatten_cons,List.flatten_cons];exact r.append h1
  .rcases G9.mp a with h | h
   .exact h
   .exact h2 c h
def Bk (i j:Int):Prop:=0 < j/\j < 1267650600228229401496703205376
theorem zP:OpR X (binaryOp .FloorDiv) (rI Bk λi j=>.int (i / j)):=opI λi j _ _ _ _ _ a q=>by
 have h1:(0:Int) < j:=a.1
 have h2:j < 1267650600228229401496703205376:=a.2
 refine PyProof.Rows.floordiv_int (by lia) (by rw[Int.fdiv_eq_ediv_of_nonneg i (by lia)];exact q) (.inl (PyProof.noPylong_of_log2 ?_))
 have h3:j.natAbs < 2 ^ 100:=by lia
 exact Nat.lt_trans ((Nat.log2_lt (by lia)).mpr h3) (by decide)
abbrev xD:=dn (λ_ j=>decide (0 < j/\j < 1267650600228229401496703205376)) λi j=>.int (i / j)
theorem CL:OpD K (rI Bk λi j=>.int (i / j)) xD:=jY (λi j h=>by simpa[Bk] using h) λi j _=>.int _
end
section
variable {K:FG} {G G0:Gm} {W W0:D->Sto->Prop} {H H':Hp} {Y:St} {Z Z':Sto} {T T':List It3} {g:Nat->Option It3} {x y z:It3} {α β:Type} {X:Cx} {v:V} {d:D} {L:List Addr}
def yP (i j:Nat) (ms:M3 (List R3)):SM:=af ms λrs=>af (gives rs) λds=>λZ=>match ds with
 | [a,b]=>if i < Z.length/\j < Z.length then some (.ok .nx,(Z.set i #v[a]).set j #v[b]) else none
 | _=>none
theorem Wf.again (w:Wf K G H Y Z T g) (a:Itm T g y) (hz:y.f=.z):Wf K G H Y Z (y::T) g :=
 w.push (Ks:=cY [y]) #[Same.refl _,(w.itm a).rep,λc b=>.inr #[y,GX,b,λh=>absurd hz h],λh=>absurd hz h] λc h=>w.kids (λu hu=>by rw[Hy.mp hu];exact a) h
theorem Eg {i j:Nat} (hi:G0.pr i=false) (I:G0.pr j=false) (h:tS K G0 W0 (yP i j ms) E Y H):Ek i j (tA K G0 W0 ms) E Y H:=by
 refine h.use λG W le Z T g r Z' w e q=>?_
 refine tA.seq le w e q.err λrs Z1 e1 L H1 Ts g1 J a1=>?_
 obtain ⟨ds,Z2,g2,c,_,D,_,ys,l,f1,f2⟩:=a1.gives J e1
 match ds,c,ys,f1,l,f2 with
 | [],c,_,_,_,_=>exact nsE c
 | [_],c,_,_,_,_=>exact nsE c
 | _::_::_::_,c,_,_,_,_=>exact nsE c
 | [a,b],c,[],f1,_,_=>cases f1
 | [a,b],c,[_],f1,_,_=>cases f1
 | [a,b],c,_::_::_::_,f1,_,_=>cases f1
 | [a,b],c,[y1,m],f1,l,f2 =>
  have c:(if i < Z2.length/\j < Z2.length then some (Except.ok Flw.nx,(Z2.set i (some (a,Fl.z))).set j (some (b,Fl.z))) else none)=some (r,Z'):=c
  split at c
  .rename_i s
   cases c
   obtain ⟨x,A⟩:=l y1 GX
   obtain ⟨B,y⟩:=l m (GY _ GX)
   have u:=D.again B y
   have n:Itm (m::(Ts.map dm++T)) g2 y1:=x.imp id λh=>GY _ h
   have F:=u.again n A
   have t:=F.store (f:=.z) s.1 (by rw[le.pr];exact hi) (.inr rfl) (by intro h;cases h)
   have C:=t.store (f:=.z) (i:=j) (by rw[List.length_set];exact s.2) (by rw[le.pr];exact I) (.inr rfl) (by intro h;cases h)
   have o:=C.sub (Hf (Ts.map dm) T)
   have k:y1.d=a/\m.d=b:=by injection f1 with p q;injection q with q _;exact #[p,q]
   rw[k.1,k.2] at o
   exact #[y1.v,m.v,f2.symm,q _ _ _ o]
  .exact nsE c
theorem EU (i j:Nat) {x y:Str} (g:X.calm=true) (e:X.N.Nodup) (hi:X.N[i]?=some x) (l:X.N[j]?=some y) (c:i≠j) (m:X.env.scope.names.lookup x=some .local) (d:X.env.scope.names.lookup y=some .local) (k:RA X G0 W0 [a,b] ms) (hw:swappedStores [.Tuple [.Name x px,.Name y py] kt pt] (.Tuple [a,b] k2 pt2) X.env=pure (some [x,y])) (n:swapsWithSole [.Tuple [.Name x px,.Name y py] kt pt] (.Tuple [a,b] k2 pt2) pos.line X.env=pure false) (pi:G0.pr i=false) (f:G0.pr j=false) :
  RS X G0 W0 (.Assign [.Tuple [.Name x px,.Name y py] kt pt] (.Tuple [a,b] k2 pt2) pos) (yP i j ms):=#[PS.imp (zB g e hi l c m d k.h hw n) λ_ _ _ h=>Eg pi f h]
end
section
variable {K:FG} {G G0:Gm} {W W0:D->Sto->Prop} {H H':Hp} {Y:St} {Z Z':Sto} {T T':List It3} {g:Nat->Option It3} {x y z:It3} {α β:Type} {X:Cx}
def jJ (hi:Int) (n:Nat):List D:=(List.range n).map λ(k:Nat)=>D.int (hi - (k:Int))
theorem wm {hi:Int} {n:Nat}:Walk K (Itd hi n) H1 ys (jJ hi n):=by
 refine #[[],λx h=>(by cases h),λM H' _ _ _=>#[λi d hd=>?_,?_]]
 .unfold jJ at hd
  rw[Hh] at hd
  obtain ⟨k,a,b⟩:=G3.mp hd
  obtain ⟨c,e⟩:=Hc.mp a
  rw[List.getElem_range] at e
  subst e
  rw[List.length_range] at c
  refine #[c,λx f #[e1,g]=>?_]
  subst e1
  exact #[#[d,x,[],.z],dj (by rw[<- b,g];exact .int _),rfl,rfl,rfl]
 .show n<=(jJ hi n).length
  unfold jJ
  simp
def tN:List D->Option (List D)
 | [.int i,.int j,.int c]=>if cy i && cy j && (c == -1) then some (jJ i (i - j).toNat) else none
 | _=>none
theorem By (h:tI K G0 W0 (aP tN ms) Y H R):DE (tA K G0 W0 ms) Y H R:=by
 obtain ⟨G,W,le,Z,T,g,o,Z',w,e,q⟩:=h
 have f:∀ x,o=.error x->W x Z':=λx m=>by subst m;exact q
 refine tA.seq le w e f λrs Z1 e1 J H1 Ts g1 k a1=>?_
 obtain ⟨ds,I,F⟩:=bD e1
 obtain ⟨p,E,rfl,rfl⟩:=bJ F
 obtain ⟨xs,C,B⟩:=G3.mp E
 subst B
 obtain ⟨ys,b,f1,f2⟩:=a1.items k (λx m=>G4 _ m) I
 subst f1 f2
 have inv:∀ {ds:List D},tN ds=some xs->∃ i j,ds=[.int i,.int j,.int (-1)]/\cy i=true/\cy j=true/\xs=jJ i (i - j).toNat:=λ{ds} h=>by
  unfold tN at h
  split at h
  .rename_i i j c
   split at h
   .rename_i s
    cases h
    simp only[Bool.and_eq_true,beq_iff_eq] at s
    obtain ⟨⟨h1,h2⟩,rfl⟩:=s
    exact #[i,j,rfl,h1,h2,rfl]
   .exact nsE h
  .exact nsE h
 obtain ⟨i,j,a,hi,l,rfl⟩:=inv C
 match ys,a,b,a1 with
 | [],a,_,_=>cases a
 | [y],a,_,_=>exact absurd (congrArg List.length a) (by simp)
 | [y,z],a,_,_=>exact absurd (congrArg List.length a) (by simp)
 | y::z::u::v::r,a,_,_=>exact absurd (congrArg List.length a) (by simp)
 | [y,z,u],a,b,a1 =>
  have A:=(k.itm (b y GX)).rep
  have t:=(k.itm (b z (GY _ GX))).rep
  have n:=(k.itm (b u (GY _ (GY _ GX)))).rep
  have h1:y.d=.int i:=by injection a
  have h2:z.d=.int j:=by injection a with _ h;injection h
  have h3:u.d=.int (-1):=by injection a with _ h;injection h with _ h;injection h
  rw[h1] at A
  rw[h2] at t
  rw[h3] at n
  have hi:=of_decide_eq_true hi
  have l:=of_decide_eq_true l
  refine #[i,j,by show [y.v,z.v,u.v]=_;rw[A.int_inv,t.int_inv,n.int_inv],#[hi.1,hi.2,l.1,l.2],?_]
  exact q _ H1 [] [] g1 [] (k.sub (Hf Ts T)) .nil (λ_ h=>by cases h) wm
theorem B3 (e:Gl X "range") (hm:X.mg "range"=none) (f:RA X G0 W0 [a,b,c] ms) (g:starEach [a,b,c] X.env=(false,eval a X.env)::starEach [b,c] X.env) (d:(backTo pos (starEach [b,c] X.env)).any (·.1)=false):RI X G0 W0 tg (.Call (.Name "range" p) [a,b,c] [] pos) (aP tN ms):=#[PI.imp (wO e hm f.h g d) λ_ _ _ h=>By h]
end
end L3
theorem L2.Room.hu {k:Nat} (a:L2.Room k A):A.units+1 < PySem.cLine:=L2.hu_of a
end
section
namespace L3
open PySem L2
section
variable {K:FG} {G G0:Gm} {W W0:D->Sto->Prop} {H H':Hp} {Y:St} {Z Z':Sto} {T T':List It3} {g:Nat->Option It3} {x y z:It3} {α β:Type} {X:Cx} {v:V} {d:D} {L:List Addr}
def popF:D->List D->Option (D×D)
 | .lst xs,[]=>match xs.getLast? with
  | some (.int i)=>some (.lst xs.dropLast,.int i)
  | _=>none
 | _,_=>none
def idxQ:D->D->Option (D×Fl)
 | .lst xs,.bl true=>(eZ xs).bind λbs=>if bs.findIdx id < bs.length then #v[.int (bs.findIdx id:Nat)] else none
 | _,_=>none
abbrev idxD:=c2 idxQ
theorem A0:c6 K (λxs H Q=>∃ x f,xs=x::f/\∃ (a:Addr) (xs:List V) (k:V) (j:Nat),x=.ref a/\f=[k]/\SqL K H a xs/\ic k=true/\xs.all ic=true/\(∃ y,xs[j]?=some y/\eqV y k=true)/\(∀ (i:Nat) (y:V),i < j->xs[i]?=some y->eqV y k=false)/\Q (.int j) H) idxD:=λys H Q p ra e q=>by
 obtain ⟨y,z,rfl,c⟩:=m5 e
 clear e
 have h:=(ra y GX).rep
 have l:=(ra z (GY _ GX)).rep
 obtain ⟨da,C,u,A⟩:=y
 obtain ⟨db,B,E,t⟩:=z
 dsimp only at h l c
 cases da with
 | lst xs =>
  obtain ⟨m,f,v,rfl,rfl,s,rs⟩:=h.view
  cases l with
  | bl b =>
   cases b with
   | false=>exact nsE c
   | true =>
    obtain ⟨bs,h1,h2⟩:=Hx.mp (show ((eZ xs).bind λbs=>if bs.findIdx id < bs.length then some ((.int (bs.findIdx id:Nat),.z):D×Fl) else none)=some p from c)
    split at h2
    .rename_i n
     cases h2
     have r:=j5 h1
     subst r
     have o:=rs.bls
     subst o
     refine #[.ref m,[.bl true],rfl,m,bs.map V.bl,.bl true,bs.findIdx id,rfl,rfl,SqL.of s,rfl,by simp[ic],#[.bl (bs[bs.findIdx id]),by rw[Hh,G7 n];rfl,?_],λi w hi hw=>?_,q #[.int _,.int _,[],.z] H (dj (.int _)) rfl rfl]
     .have:=List.findIdx_getElem (p:=id) (w:=n)
      show (bs[bs.findIdx id] == true)=true
      simpa using this
     .rw[Hh] at hw
      obtain ⟨b,g,rfl⟩:=G3.mp hw
      have d:i < bs.length:=by lia
      have:=List.not_of_lt_findIdx (p:=id) hi
      rw[G7 d] at g
      cases g
      show (bs[i] == true)=false
      simpa using this
    .exact nsE h2
  | _=>exact nsE c
 | _=>exact nsE c
def um (x:Int):List Int->List Int
 | []=>[x]
 | y::ys=>if x<=y then x::y::ys else y::um x ys
def srt:List Int->List Int
 | []=>[]
 | x::xs=>um x (srt xs)
theorem kD (x:Int):∀ l:List Int,(um x l).Perm (x::l)
 | []=>.refl _
 | y::ys=>by
  unfold um
  split
  .exact .refl _
  .exact ((kD x ys).cons y).trans (.swap x y ys)
theorem iq:∀ l:List Int,(srt l).Perm l
 | []=>.refl _
 | x::xs=>(kD x (srt xs)).trans ((iq xs).cons x)
theorem lc (x:Int):∀ {l:List Int},l.Pairwise (·<=·)->(um x l).Pairwise (·<=·)
 | [],_=>by simp[um]
 | y::ys,h=>by
  unfold um
  have h1:=List.pairwise_cons.mp h
  split
  .rename_i a
   refine List.pairwise_cons.mpr #[λz hz=>?_,h]
   rcases G6.mp hz with rfl | hz
   .exact a
   .have:=h1.1 z hz
    lia
  .rename_i a
   refine List.pairwise_cons.mpr #[λz hz=>?_,lc x h1.2]
   rcases G6.mp ((kD x ys).subset hz) with rfl | hz
   .lia
   .exact h1.1 z hz
theorem d7:∀ l:List Int,(srt l).Pairwise (·<=·)
 | []=>.nil
 | x::xs=>lc x (d7 xs)
theorem dy:∀ {l c:List Int},l.Perm c->l.Pairwise (·<=·)->c.Pairwise (·<=·)->l=c
 | [],c,p,_,_=>by rw[List.nil_perm.mp p]
 | a::l,[],p,_,_=>by cases p.length_eq
 | a::l,b::c,p,h,h'=>by
  have h1:=List.pairwise_cons.mp h
  have h2:=List.pairwise_cons.mp h'
  have e:a=b:=by
   have f:=p.subset (GX (a:=a) (l:=l))
   have d:=p.symm.subset (GX (a:=b) (l:=c))
   rcases G6.mp f with e | f
   .exact e
   .rcases G6.mp d with e | d
    .exact e.symm
    .have:=h2.1 a f
     have:=h1.1 b d
     lia
  subst e
  rw[dy (List.Perm.cons_inv p) h1.2 h2.2]
theorem iz:∀ ns:List Int,Reps (Rep K H) (ns.map D.int) (ns.map V.int) []
 | []=>.nil
 | n::ns=>.cons (L:=[]) (.int n) (iz ns)
end
def XA (K:FG):D->Value->Option Addr->Hp->Prop:=λe cls da H=>∃ c C fs,e=.exc c fs/\cls=.ref C/\XName K c C/\PayX K H da fs
abbrev lF (P:Program) (w:World) (K:FG) (mg:Str->Option Value) (base:Heap) (x:Str) (k:Nat) (ps:List Str) (F:Fn):Prop:=CalleeX P w K mg base x k ps (spF (XA K) K F)
abbrev Dl (P:Program) (w:World) (K:FG) (mg:Str->Option Value) (base:Heap) (x:Str) (k:Nat) (ps:List Str) (F:Fn):Prop:=CalleeN P w K mg base x k ps (s9 K F)
structure Pas (X:Cx) (G0:Gm) (W0:D->Sto->Prop):Prop where
 fly:∀ (pins:List (Addr×Obj)) (Y:St) (H:Hp) (s:Shared) (e:Value) (s':Shared),Inv X pins Y H s->CXe X.prog X.w X.stack H s (EX (XA X.K) X.K G0 W0 Y) e s'->X.xe e s'
structure Mak (X:Cx) (G0:Gm) (W0:D->Sto->Prop):Prop where
 made:∀ (pins:List (Addr×Obj)) (Y:St) (H:Hp) (s s':Shared) (a C:Addr) (vs:List Value),Inv X pins Y H s->EX (XA X.K) X.K G0 W0 Y (.ref C) none H->Heap.MadeExcOf s.heap s'.heap a (.ref C) vs->s'.os=s.os->s'.gens=s.gens->X.xe (.ref a) s'
 madeV:∀ (pins:List (Addr×Obj)) (Y:St) (H:Hp) (s:Shared) (a t d C:Addr),Inv X pins Y H s->EX (XA X.K) X.K G0 W0 Y (.ref C) (some d) H->s.heap.get? a=some (excA C t (some d))->X.s₀.heap.get? a=none->H a=none->X.xe (.ref a) s
section
variable {X:Cx} {G G0:Gm} {W W0:D->Sto->Prop} {K:FG} {H H':Hp} {Y:St} {Z Z':Sto} {T T':List It3} {g:Nat->Option It3} {m:SM} {ms:M3 (List R3)} {st:Stmt} {sts:List Stmt} {x:Str} {p pos:Pos} {e:Expr} {es:List Expr} {k:Nat} {ps:List Str} {F:Fn}
theorem zn (c:lF X.prog X.w X.K X.mg X.base x k ps F) (f:Room k X.A) (g:Pas X G0 W0) (i:RA X G0 W0 (e::es) ms) (d:Gl X x) (b:(x == ("__debug__":Str))=false)
  (he:starEach (e::es) X.env=(false,eval e X.env)::starEach es X.env) (a:(backTo pos (starEach es X.env)).any (·.1)=false):RE X G0 W0 (.Call (.Name x p) (e::es) [] pos) (ib F ms) :=
 #[PE.imp (FE c f g.fly i.h d b he a) λ_ _ _ h=>BF h]
theorem zo (c:Dl X.prog X.w X.K X.mg X.base x k ps F) (f:RoomN k X.A) (g:Hd X) (i:RA X G0 W0 (e::es) ms) (d:Gl X x) (b:(x == ("__debug__":Str))=false)
  (he:starEach (e::es) X.env=(false,eval e X.env)::starEach es X.env) (a:(backTo pos (starEach es X.env)).any (·.1)=false):RE X G0 W0 (.Call (.Name x p) (e::es) [] pos) (au F ms) :=
 #[PE.imp (FF c f g i.h d b he a) λ_ _ _ h=>qN h]
def pv (c:String) (ms:M3 (List R3)):SM:=af ms λrs=>λZ=>if rs.length<=1000 then some (.error (.exc c []),Z) else none
theorem Ars.lenV (a:Ars Y rs vs Ts):rs.length=vs.length:=by
 induction a with
 | nil=>rfl
 | cons _ _ ih=>rw[Hu,Hu,ih]
theorem yq (n:XName K c C) (h:tS K G0 W0 (pv c ms) E Y H):yr (λY H1=>EX (XA K) K G0 W0 Y (.ref C) none H1) (tA K G0 W0 ms) E Y H:=by
 refine h.use λG W le Z T g r Z' w e q=>?_
 refine tA.seq le w e q.err λrs Z1 e1 k H1 Ts g1 j a1=>?_
 rcases Decidable.em (rs.length<=1000) with a | a
 .rw[if_pos a] at e1
  cases e1
  obtain ⟨Z5,d,f,b,i⟩:=le.ex H1 Y _ _ g1 _ j q
  exact #[by rw[<- a1.lenV];exact a,_,Z5,d,f,b,#[c,C,[],rfl,rfl,n,trivial],i]
 .rw[if_neg a] at e1;exact nsE e1
theorem za (n:XName X.K c C) (cl:ECls X.K X.mg x C) (mk:Mak X G0 W0) (g:X.calm=true) (f:Gl X x) (hd:(x == ("__debug__":Str))=false) (b:RA X G0 W0 [e] ms) (he:starEach [e] X.env=[(false,eval e X.env)]) :
  RS X G0 W0 (.Raise (some (.Call (.Name x np) [e] [] cpos)) none pos) (pv c ms) :=
 #[PS.imp (zA cl g f hd b.h _ (λpins Y H s s' a d I q hm h1 h2=>mk.made pins Y H s s' a C d I q hm h1 h2) he) λ_ _ _ h=>yq n h]
def tS1 (K:FG) (G:Gm) (W:D->Sto->Prop) (m:SM):TS:=λE Y H=>∃ Z g r Z',Wf K G H Y Z [] g/\m Z=some (r,Z')/\EndS K G W [] Z' E r
theorem tS1.all (h:tS1 K G W m E Y H):tS K G W m E Y H:=by
 obtain ⟨Z,g,r,Z',w,e,q⟩:=h
 exact tS.mk (Le.refl K _ _) w e q
structure RS1 (X:Cx) (G0:Gm) (W0:D->Sto->Prop) (s:Stmt) (m:SM):Prop where
 h:PS X s (tS1 X.K G0 W0 m)
structure RSs1 (X:Cx) (G0:Gm) (W0:D->Sto->Prop) (s:List Stmt) (m:SM):Prop where
 h:PSs X s (tS1 X.K G0 W0 m)
theorem y6 (h:RS1 X G0 W0 st m):RSs1 X G0 W0 [st] m:=#[vn h.h]
end
theorem sy {n:Nat} {E:XK} {ps:List It3} (hn:mask.length<=n) (ρ:∀ p∈ps,Arg K H p) (hp:ps.Pairwise Apart3) (q:match o with
   | .ok p=>∀ x qs H',Behind K H H' ps qs x->x.d=p.1->x.f=p.2->qs.map (λq=>(q.d,q.f))=fs->Q x.v H'
   | .error e=>∀ qs H' cls da,BehindX K H H' ps qs->qs.map (λq=>(q.d,q.f))=fs->XA K e cls da H'->E cls da H') (l:fnM mask n m (ps.map λp=>(p.d,p.f))=some (o,fs)) :
  ∃ (G:Gm) (W:D->Sto->Prop),G.pr=prM mask/\(∀ e Z,W e Z->∃ e',o=.error e')/\(∀ Y cls da H',EX (XA K) K G W Y cls da H'->E cls da H')/\tS1 K G W m { nx:=λ_ H'=>Q .non H',rt:=Q } ((ps.map (·.v)).map some++List.replicate (n - (ps.map (·.v)).length) none) H:=by
 unfold fnM at l
 rw[Hb] at l
 split at l
 .rename_i hl
  rw[<- kr] at l
  generalize y:List.zipWith cw mask ps=g at l
  have σ:g.length=ps.length:=by rw[<- y,List.length_zipWith];lia
  have T:g.map (·.v)=ps.map (·.v):=by
   refine List.ext_getElem? λi=>?_
   rw[Hh,Hh]
   cases e:ps[i]? with
   | none=>rw[List.getElem?_eq_none (by have:=List.getElem?_eq_none_iff.mp e;lia)]
   | some u =>
    obtain ⟨b,_,t⟩:=jT (mask:=mask) hl e
    rw[y] at t
    rw[t]
    show some (cw b u).v=some u.v
    rw[(bq b u).2.1]
  have up:∀ (i:Nat) (u:It3),g[i]?=some u->∃ b s,mask[i]?=some b/\ps[i]?=some s/\u=cw b s:=λi u e=>by rw[<- y] at e;exact oI e
  have F:∀ u∈g,∃ b s,s∈ps/\u=cw b s:=λu hu=>by
   obtain ⟨i,hi,e⟩:=List.mem_iff_getElem.mp hu
   obtain ⟨b,s,_,t,A⟩:=up i u (by rw[G7 hi,e])
   exact #[b,s,He t,A]
  have J:∀ u∈g,Arg K H u:=λu hu=>by
   obtain ⟨b,s,h0,rfl⟩:=F u hu
   obtain ⟨e1,t,A,φ⟩:=bq b s
   refine #[by rw[e1,t,A];exact (ρ s h0).rep,λhf=>?_]
   rw[e1,t,A]
   refine (ρ s h0).own λz=>hf ?_
   rcases φ with f | f
   .rw[f];exact z
   .exact f
  have I:g.Pairwise Apart3:=by
   rw[List.pairwise_iff_getElem]
   intro i j hi hj lt
   obtain ⟨b,s,_,t,A⟩:=up i _ (G7 hi)
   obtain ⟨M,ae,_,ax,ar⟩:=up j _ (G7 hj)
   have ap:=cu hp (λ_ _=>Apart3.symm) (Hk lt) t ax
   rw[A,ar]
   obtain ⟨_,a2,a3,a4⟩:=bq b s
   obtain ⟨_,b2,b3,b4⟩:=bq M ae
   exact #[ap.1.low a2 a4 b3,ap.2.low b2 b4 a3]
  have C:∀ (i:Nat) (u:It3),g[i]?=some u->u.f≠.z->prM mask i=true:=λi u e hf=>by
   obtain ⟨b,s,e1,t,A⟩:=up i u e
   unfold prM
   rw[e1]
   cases b with
   | false=>rfl
   | true=>rw[A] at hf;exact absurd rfl hf
  have alls:∀ c,c9 g c->c9 ps c:=λc #[u,hu,P]=>by
   obtain ⟨b,s,h0,rfl⟩:=F u hu
   exact #[s,h0,by rw[<- (bq b s).2.2.1];exact P]
  have lift:∀ {H':Hp} {qs:List It3},BehindX K H H' g qs->BehindX K H H' ps qs:=λ{H' qs} B=>by
   refine #[λb o hb hn=>B.frame b o hb λu hu hf T=>?_,Paired.ofGet ?_ λk u v eu ev=>?_,B.apart]
   .obtain ⟨M,s,h0,rfl⟩:=F u hu
    obtain ⟨_,t,_,φ⟩:=bq M s
    rcases φ with f | f
    .exact hn s h0 (by rw[<- f];exact hf) (by rw[<- t];exact T)
    .rw[f] at hf;cases hf
   .rw[<- σ];exact Paired.length B.back
   .obtain ⟨b,_,t⟩:=jT (mask:=mask) hl eu
    rw[y] at t
    have b1:=Paired.at B.back t ev
    obtain ⟨a1,a2,a3,a4⟩:=bq b u
    refine #[λhz=>?_,by rw[b1.v,a2],?_,b1.arg,λc P=>(b1.src c P).imp id (alls c),λhf M τ=>?_]
    .have:cw b u=u:=by
      cases b
      .rfl
      .obtain ⟨d,v,L,f⟩:=u
       have hz:f=.z:=hz
       subst hz;rfl
     rw[<- this]
     exact b1.z (by rw[this];exact hz)
    .rcases b1.f with h | h
     .rcases a4 with f | f
      .exact .inl (h.trans f)
      .exact .inr (h.trans f)
     .exact .inr h
    .rcases a4 with f | f
     .exact b1.there (by rw[f];exact hf) M (by rw[a2];exact τ)
     .-- lowered: as it was
      obtain ⟨_,a,L',v1,v2,_⟩:=(ρ u (He eu)).own (by rw[hf];intro q;cases q)
      rw[τ] at v1;cases v1
      have N:=b1.z f
      have r:=b1.arg.rep
      rw[N,a1,a2,a3] at r
      exact (r.inH M (by rw[v2];exact GX)).ex
  have V:g.length<=n:=by lia
  have wf:=qD (K:=K) (H:=H) (n:=n) (pr:=prM mask) V J I C
  rw[T] at wf
  have h0:∀ (i:Nat) (u:It3),g[i]?=some u->((ps.map (·.v)).map some++List.replicate (n - (ps.map (·.v)).length) none)[i]?=some (some u.v):=λi u e=>ke (by rw[<- T];exact vB e)
  unfold fn0 at l
  cases e:m (eD n (g.map λp=>(p.d,p.f))) with
  | none=>rw[e] at l;exact nsE l
  | some rr =>
   obtain ⟨r,Z2⟩:=rr
   rw[e] at l
   refine #[gOf H (prM mask) ((ps.map (·.v)).map some++List.replicate (n - (ps.map (·.v)).length) none) g,λR Z=>r=.error R/\Z=Z2,rfl,λR Z hw=>?_,λY' cls da H' hx=>?_,eD n (g.map λp=>(p.d,p.f)),_,r,Z2,wf,e,?_]
   .obtain ⟨rfl,_⟩:=hw
    dsimp only at l
    cases w:dM Z2 0 (g.map λp=>(p.d,p.f)) with
    | none=>rw[w] at l;exact nsE l
    | some fs'=>rw[w] at l;cases l;exact #[R,rfl]
   .obtain ⟨R,Z',T',g',w',xa,rfl,rfl⟩:=hx
    dsimp only at l
    cases w:dM Z' 0 (g.map λp=>(p.d,p.f)) with
    | none=>rw[w] at l;exact nsE l
    | some fs' =>
     rw[w] at l
     cases l
     obtain ⟨qs,BX,N,_⟩:=lp (n:=n) J I C h0 w' w
     exact q qs H' cls da (lift BX) N xa
   have fin:∀ {x:It3} {Y':St} {H':Hp} {g':Nat->Option It3} {d:D} {f:Fl},Wf K (gOf H (prM mask) ((ps.map (·.v)).map some++List.replicate (n - (ps.map (·.v)).length) none) g) H' Y' Z2 [x] g'->x.d=d->x.f=f ->
     ((dM Z2 0 (g.map λp=>(p.d,p.f))).map λfs=>((.ok (d,f),fs):Except D (D×Fl)×List (D×Fl)))=some (o,fs)->Q x.v H':=λ{x Y' H' g' d f} S xd xf l=>by
    cases w:dM Z2 0 (g.map λp=>(p.d,p.f)) with
    | none=>rw[w] at l;exact nsE l
    | some fs' =>
     rw[w] at l
     cases l
     obtain ⟨qs,B,N⟩:=m9 (n:=n) J I C h0 S w
     have BX:=lift B.toBehindX
     exact q x qs H' #[BX,B.rep,B.own,λc P=>(B.src c P).imp id (alls c),B.apx] xd xf N
   cases r with
   | error R=>exact #[rfl,rfl]
   | ok fl =>
    cases fl with
    | nx =>
     intro Y' H' g' S
     obtain ⟨Ts,g2,w2,a2⟩:=S.const .non
     obtain ⟨x,rfl,x1,X,x3⟩:=a2.val_inv
     have:=fin w2 x1 X l
     rw[x3] at this
     exact this
    | br=>exact nsE l
    | ct=>exact nsE l
    | rt d f =>
     intro x Y' H' g' S x1 X
     exact fin S x1 X l
 .exact nsE l
theorem qd {n:Nat} {ps:List It3} (h:fnM mask n m (ps.map λp=>(p.d,p.f))=some r):ps.length=mask.length:=by
 unfold fnM at h
 rw[Hb] at h
 rcases Decidable.em (ps.length=mask.length) with q | q
 .exact q
 .rw[if_neg q] at h;exact nsE h
section
variable {P:Program} {w:World} {K:FG} {mg:Str->Option Value} {base:Heap} {x:Str} {st:Stmt} {k:Nat} {N ps:List Str} {mask:List Bool} {m:SM} {nn:Nat}
theorem pM (S:FnScope N ps (ad st)) (a:mask.length=ps.length) (b:N.length=nn):mask.length<=nn:=by
 rw[a,<- b]
 have:=congrArg List.length S.pre
 rw[Hv] at this
 lia
theorem lO (D:Def K mg x st) (S:FnScope N ps (ad st)) (g:mask.length=ps.length) (c:N.length=nn) (r:∀ (kV doc pm:Value) (an:Option Addr) (b ct:Value) (us:List Value),us.length=ps.length->bindArgs (PySem.W.fnOf x x (aK st) (aB st) (ad st) .none kV doc pm an b ct) #[us,[]]=pure (ps.zip us))
  (body:∀ (b:Value) (A:Around) (outer:List Env) (s:Shared) (H:Hp) (E:XK) (f:Addr) (G:Gm) (W:L3.D->Sto->Prop),Room k (A.deeper (PyProof.Rows.envOfC x (ad st) s.heap.objs.size f b))->G.pr=prM mask->Pas (dN (CXe P w) P w K mg base N x (ad st) f b A outer s H E) G W->Mak (dN (CXe P w) P w K mg base N x (ad st) f b A outer s H E) G W->RSs (dN (CXe P w) P w K mg base N x (ad st) f b A outer s H E) G W (aB st) m) :
  lF P w K mg base x (k+1) ps (fnM mask nn m):=by
 refine D.calleeX r λf fd F=>F.okX S (λn H Q E h=>?_) λb A outer s H n Q E z h=>?_
 .obtain ⟨j,o,fs,rfl,_,_,i,_⟩:=h
  rw[Hb,qd i,g]
 .obtain ⟨j,o,fs,rfl,L,v,i,q⟩:=h
  obtain ⟨G,W,y,_,l,u⟩:=sy (E:=E) (pM S g c) L v q i
  subst c
  refine #[_,(body b A outer s H E f G W z y #[λpins Y H1 s1 e s' I hf=>DT I hf λcls da H'=>l Y cls da H'] #[λpins Y H1 s1 s' a C n I he hm h1 h2=>Bp I hm h1 h2 (l Y _ none _ he),λpins Y H1 s1 a t d C I he J p B=>x6 I J rfl rfl rfl rfl p B (l Y _ _ _ he)]).h,u.all]
theorem C6 (D:Def K mg x st) (S:FnScope N ps (ad st)) (c:mask.length=ps.length) (b:N.length=nn) (n:∀ (kV doc pm:Value) (an:Option Addr) (a ct:Value) (us:List Value),us.length=ps.length->bindArgs (PySem.W.fnOf x x (aK st) (aB st) (ad st) .none kV doc pm an a ct) #[us,[]]=pure (ps.zip us))
  (body:∀ (a:Value) (A:Around) (outer:List Env) (s:Shared) (H:Hp) (E:XK) (f:Addr) (G:Gm),Room k (A.deeper (PyProof.Rows.envOfC x (ad st) s.heap.objs.size f a))->G.pr=prM mask->RSs1 (dN CX0 P w K mg base N x (ad st) f a A outer s H E).nox G noX (aB st) m) :
  aL P w K mg base x (k+1) ps (fnM mask nn m):=by
 refine D.callee n λf fd F=>F.ok S (λB H Q E h=>?_) λa A outer s H B Q E u h=>?_
 .obtain ⟨i,p,fs,rfl,_,_,d,_⟩:=h
  rw[Hb,qd d,c]
 .obtain ⟨i,p,fs,rfl,y,o,d,q⟩:=h
  obtain ⟨G,W,t,v,C,Z,g,r,Z',l,e,j⟩:=sy (E:=E0) (pM S c b) y o q d
  subst b
  refine #[_,(body a A outer s H E f G u t).h,Z,g,r,Z',l,e,?_]
  cases r with
  | error er=>obtain ⟨_,z⟩:=v _ _ j;cases z
  | ok fl=>cases fl <;> exact j
theorem C5 (D:Def K mg x st) (S:FnScope N ps (ad st)) (c:mask.length=ps.length) (b:N.length=nn) (e:∀ (kV doc pm:Value) (an:Option Addr) (a ct:Value) (us:List Value),us.length=ps.length->bindArgs (PySem.W.fnOf x x (aK st) (aB st) (ad st) .none kV doc pm an a ct) #[us,[]]=pure (ps.zip us))
  (body:∀ (a:Value) (A:Around) (outer:List Env) (s:Shared) (H:Hp) (f:Addr) (G:Gm),RoomN k (A.deeper (PyProof.Rows.envOfC x (ad st) s.heap.objs.size f a))->Hd ((dN CX0 P w K mg base N x (ad st) f a A outer s H E0).loud.wish λ_ _=>False)->G.pr=prM mask->RSs ((dN CX0 P w K mg base N x (ad st) f a A outer s H E0).loud.wish λ_ _=>False) G noX (aB st) m) :
  Dl P w K mg base x (k+1) ps (fnM mask nn m):=by
 refine D.calleeN e λf fd F=>F.okN S (λo H Q E h=>?_) λa A outer s H o Q n d h=>?_
 .obtain ⟨l,p,fs,rfl,_,_,g,_⟩:=h
  rw[Hb,qd g,c]
 .obtain ⟨G,j,i⟩:=qc (pM S c b) h
  subst b
  exact #[_,(body a A outer s H f G n d j).h,i]
end
abbrev Cx.tried (X:Cx) (E:Value->Shared->Prop) (pn:List (Addr×Obj)):Cx:={ X with xe:=E,pn:=pn }
section
variable {X:Cx} {pins pins' pn:List (Addr×Obj)} {Y:St} {H H':Hp} {s:Shared} {E:Value->Shared->Prop}
theorem xr (I:Inv X pins Y H s) (E:Value->Shared->Prop):Inv (Cx.tried X E (X.pn++pins)) [] Y H s :=
 #[#[I.ok.mod,I.ok.kind,I.ok.glob,I.ok.blt,I.ok.above,I.ok.inj,I.ok.has,I.ok.cab,I.ok.hd,I.ok.frames,I.ok.stk,I.ok.exf,I.ok.bs,I.ok.bsz,I.ok.noex,I.ok.exfs,I.ok.funs,I.ok.frf],I.os,I.bare,I.base,I.loc,I.cell,I.free,I.freeC,(λp a=>I.pin p (by rw[List.append_nil] at a;exact a)),I.hok,I.len]
theorem iM (I:Inv (Cx.tried X E (X.pn++pins)) pins' Y H s):Inv X pins Y H s :=
 #[#[I.ok.mod,I.ok.kind,I.ok.glob,I.ok.blt,I.ok.above,I.ok.inj,I.ok.has,I.ok.cab,I.ok.hd,I.ok.frames,I.ok.stk,I.ok.exf,I.ok.bs,I.ok.bsz,I.ok.noex,I.ok.exfs,I.ok.funs,I.ok.frf],I.os,I.bare,I.base,I.loc,I.cell,I.free,I.freeC,(λp a=>I.pin p (G4 _ a)),I.hok,I.len]
end
theorem Gq {X:Cx} {a:Addr} {ob:Obj} {cls:Value} (h:Hd (X.caught a ob cls)):PySem.W.notCls ob=true:=by
 obtain ⟨c,b,u,h1,h2,d,h3,_⟩:=h
 cases (show some (Value.ref a)=some (Value.ref c) from h1)
 cases (show upd X.H₀ a (iN ob a cls) a=some (.frz b u) from h2).symm.trans aE
 unfold PySem.W.notCls
 rw[h3]
def pq (cs:List String) (i:Nat) (mb mh:SM):SM:=λZ=>match mb Z with
 | some (.error (.exc c fs),Z1)=>if c∈cs then (match mh (Z1.set i #v[.exc c fs]) with
  | some (.ok (.rt d f),Z2)=>some (.ok (.rt d f),Z2)
  | _=>none) else none
 | some (.ok (.rt d f),Z1)=>some (.ok (.rt d f),Z1)
 | some (.ok .nx,Z1)=>some (.ok .nx,Z1)
 | _=>none
section
variable {X:Cx} {G0:Gm} {W0:D->Sto->Prop} {cs:List String} {i:Nat} {mb mh:SM} {cx n:Str} {CB:Addr} {cp hpos pos:Pos} {b0:Stmt} {body suite:List Stmt}
theorem ES (T:X.stack=X.env::X.outer) (τ:X.env.frame=some X.env.locals) (hex:X.ex=[]) (hN:X.N.Nodup) (hg:Gl X cx) (hd:(cx == ("__debug__":Str))=false) (hm:X.mg cx=some (.ref CB))
  (R:∀ c∈cs,∀ C,XName X.K c C->PySem.W.exmOne X.K (.ref C) (.ref CB)=some true) (hi:X.N[i]?=some n) (hl:X.env.scope.names.lookup n=some .local\/(X.env.scope.names.lookup n=some .cell/\X.fn n=true)) (ρ:G0.pr i=false)
  (hb:∀ (E:Value->Shared->Prop) (pn:List (Addr×Obj)) (W:D->Sto->Prop),Pas (Cx.tried X E pn) G0 W->RSs (Cx.tried X E pn) G0 W body mb) (hh:∀ a ob cls,Hd (X.caught a ob cls)->RSs (X.caught a ob cls) G0 noX (b0::suite) mh) :
  RS1 X G0 W0 (.Try body [.ExceptHandler (some (.Name cx cp)) (some n) (b0::suite) hpos] [] [] pos) (pq cs i mb mh):=by
 refine #[λpins s Y H D I h=>?_]
 obtain ⟨Z,g,r,Z',w,e,q⟩:=h
 refine wpAny_Try_except ?_
 have M:i < X.N.length:=(Hc.mp hi).1
 have G:Pas (Cx.tried X (λe s₁=>wpAny (model X.prog X.w) X.A (noteFrame e X.env) (λ_ s₂=>wpAny (model X.prog X.w) X.A (setFlight e none) (λ_ s₃=>wpAny (model X.prog X.w) X.A (handleBy e X.env [.ExceptHandler (some (.Name cx cp)) (some n) (b0::suite) hpos]) (SP X pins D) X.xe s₃) X.xe s₂) X.xe s₁) (X.pn++pins)) G0 (λt Z1=>mb Z=some (.error t,Z1)):=by
  refine #[λpins' Y' H1 s1 e' s' V hf=>?_]
  obtain ⟨a,cls,da,H2,rfl,F,t,Z1,T',g',φ,⟨c,C,fs,rfl,rfl,nm,Q⟩,L⟩:=hf
  have J:=iM V
  unfold pq at e
  rw[L] at e
  dsimp only at e
  rcases Decidable.em (c∈cs) with B | B
  .rw[if_pos B] at e
   cases P:mh (Z1.set i #v[.exc c fs]) with
   | none=>rw[P] at e;exact nsE e
   | some z =>
    obtain ⟨o,Z2⟩:=z
    rw[P] at e
    cases o with
    | error _=>exact nsE e
    | ok fl =>
     cases fl with
     | nx=>exact nsE e
     | br=>exact nsE e
     | ct=>exact nsE e
     | rt d f =>
      cases e
      have hρ:i < Z1.length:=by rw[<- φ.len,V.len];exact M
      have nw:∀ ob,ob.dict=da->Hd (X.caught a ob (.ref C))->New X.K H2 (upd H2 a (iN ob a (.ref C))) (λ_=>False) #[.exc c fs,.ref a,[],.z]:=λob b k=>#[bf F.free,.excP nm aE (b ▸ Q.same (bf F.free)) (Gq k),λ_ h=>(by cases h),λh=>absurd rfl h]
      have w2:=λob (b:ob.dict=da) (k:Hd (X.caught a ob (.ref C)))=>(φ.push (nw ob b k) λ_ h=>h.elim).store (f:=.z) hρ ρ (.inr rfl) (by intro h;cases h)
      refine ut (X:=X) (I:=J) F T τ hex hN hg hd hm (R c B C nm) hi hl λs5 ob b k J5=>?_
      refine wpAny_mono ((hh a ob _ k).h pins s5 _ _ { nx:=λ_ _=>False,rt:=D.rt } J5 (tS.mk (Le.refl _ _ _) (w2 ob b k) P λx Y3 H3 g3 σ xd xf=>q x Y3 H3 g3 (σ.sub (List.Sublist.cons_cons x (List.nil_sublist _))) xd xf)) (λf s6 y=>?_) λ_ _ z=>z.elim
      cases f with
      | ret u=>obtain ⟨v,Y6,m,p,S,l⟩:=y;exact #[v,u,Y6,m,rfl,p,S,l]
      | next=>obtain ⟨_,_,_,z⟩:=y;exact z.elim
      | brk=>obtain ⟨_,_,_,z⟩:=y;exact z.elim
      | cont=>obtain ⟨_,_,_,z⟩:=y;exact z.elim
  .rw[if_neg B] at e;exact nsE e
 have j:∀ (o:Except L3.D Flw) (Z1:Sto),mb Z=some (o,Z1)->EndS X.K G0 (λt Z1=>mb Z=some (.error t,Z1)) [] Z1 { nx:=D.nx,rt:=D.rt } o:=λo Z1 em=>by
  unfold pq at e
  rw[em] at e
  cases o with
  | error t=>exact em
  | ok fl =>
   cases fl with
   | nx=>cases e;exact q
   | br=>exact nsE e
   | ct=>exact nsE e
   | rt d f=>cases e;exact q
 cases em:mb Z with
 | none=>unfold pq at e;rw[em] at e;exact nsE e
 | some z =>
  obtain ⟨o,Z1⟩:=z
  refine wpAny_mono ((hb _ _ _ G).h [] s Y H { nx:=D.nx,rt:=D.rt } (xr I _) (tS.mk (Le.refl _ _ _) w em (j o Z1 em))) (λf s1 h1=>?_) λ_ _ z=>z
  cases f with
  | ret u=>obtain ⟨v,Y6,m,p,S,l⟩:=h1;exact #[v,Y6,m,iM p,S,l]
  | next=>obtain ⟨Y6,m,p,l⟩:=h1;refine wpAny_of_eq (show execs [] X.env=pure .next from by simp only[execs]) ?_;exact #[Y6,m,iM p,l]
  | brk=>obtain ⟨_,_,_,z⟩:=h1;exact z.elim
  | cont=>obtain ⟨_,_,_,z⟩:=h1;exact z.elim
end
theorem xT (f:∀ u,RelV t u->u=cv):CallR X (.builtin "isinstance") (λxs H Q=>∃ a c C b ob,xs=[.ref a,t]/\H a=some (iN ob a (.ref C))/\XName X.K c C/\PySem.W.kitOne X.K (.ref C) cv=some b/\Q (.bl b) H):=by
 intro pins s Y H xs us Q I r h
 obtain ⟨a,c,C,b,ob,rfl,e,nm,j,q⟩:=h
 obtain ⟨u,v,rfl,i,g⟩:=lV r
 cases (show u=Value.ref a from i)
 cases f v g
 have d:=(I.hok a _ e).2.1
 exact PySem.W.kia_one (Ao (x:=a) nm.ex) I.kIn #[d] j (by intro z;cases z) λtk=>#[.bl b,H,I.tok _,rfl,q]
def jU (cs:List (String×Bool)):D->Option (D×Fl)
 | .exc c _=>(cs.lookup c).map λb=>(.bl b,.z)
 | _=>none
section
variable {X:Cx} {G0:Gm} {W0:D->Sto->Prop}
theorem ve (g:∀ u,RelV t u->u=cv) (hf:∀ c b,cs.lookup c=some b->∀ C,XName X.K c C->PySem.W.kitOne X.K (.ref C) cv=some b) (l:Gl X "isinstance") (hm:X.mg "isinstance"=none) (k:PE X (.Name tn pT) (tC t)) (o:RE X G0 W0 a ma) (d:starEach [a,.Name tn pT] X.env=(false,eval a X.env)::starEach [.Name tn pT] X.env) (i:starEach [.Name tn pT] X.env=(false,eval (.Name tn pT) X.env)::starEach [] X.env) (f:(backTo pos (starEach [.Name tn pT] X.env)).any (·.1)=false):RE X G0 W0 (.Call (.Name "isinstance" p) [a,.Name tn pT] [] pos) (mUn (jU cs) ma) :=
 ⟨PE.imp (iB (xT g) l hm j6 (f9 o.h (f9 k mq i) d) (by decide) (by decide) d f) λY H Q h=>by
  have h:=yt (r:=λx H Q=>∃ a c C b ob,x=.ref a/\H a=some (iN ob a (.ref C))/\XName X.K c C/\PySem.W.kitOne X.K (.ref C) cv=some b/\Q (.bl b) H) (λa H Q p ra e q=>by
   obtain ⟨da,w,s,v⟩:=a
   have ra:=ra.rep
   dsimp only at ra
   cases da with
   | exc c fs =>
    obtain ⟨rfl,m,C,ob,rfl,nm,n,_,_⟩:=ra.view
    obtain ⟨b,h1,h2⟩:=G3.mp (show (cs.lookup c).map (λb=>((.bl b,.z):D×Fl))=some p from e)
    subst h2
    exact #[m,c,C,b,ob,rfl,n,nm,hf c b h1 C nm,q #[.bl b,.bl b,[],.z] H (dj (.bl _)) rfl rfl]
   | _=>exact nsE e) h
  refine uS h λx H1 #[a,c,C,b,ob,j,h1,h2,h3,q]=>?_
  exact ⟨a,c,C,b,ob,by rw[j],h1,h2,h3,q⟩⟩
end
def cntBQ:D->D->Option (D×Fl)
 | .lst xs,.bl k=>(eZ xs).map λbs=>(.int (bs.count k:Nat),.z)
 | _,_=>none
abbrev DN:=c2 cntBQ
theorem xJ:c6 K (λxs H Q=>∃ x c,xs=x::c/\∃ (a:Addr) (bs:List Bool) (k:Bool),x=.ref a/\c=[.bl k]/\SqL K H a (bs.map V.bl)/\Q (.int (bs.count k:Nat)) H) DN:=λys H Q p ra e q=>by
 obtain ⟨y,z,rfl,b⟩:=m5 e
 clear e
 have d:=(ra y GX).rep
 have f:=(ra z (GY _ GX)).rep
 obtain ⟨da,r,o,m⟩:=y
 obtain ⟨db,n,s,l⟩:=z
 dsimp only at d f b
 cases da with
 | lst xs =>
  cases db with
  | bl k =>
   obtain ⟨j,c,t,rfl,rfl,i,rs⟩:=d.view
   obtain ⟨rfl,rfl⟩:=f.view
   obtain ⟨bs,h1,h2⟩:=G3.mp (show (eZ xs).map (λbs=>((.int (bs.count k:Nat),.z):D×Fl))=some p from b)
   subst h2
   have h:=j5 h1
   subst h
   have g:=rs.bls
   subst g
   exact #[_,_,rfl,j,bs,k,rfl,rfl,SqL.of i,q #[_,_,[],.z] H (dj (.int _)) rfl rfl]
  | _=>exact nsE b
 | _=>exact nsE b
def nZ (p:PyData):Option (D×Fl):=if p.showable && !p.hasDict && decide (p.depth<=16) && decide (p.shown.length<=16777216) then #v[.str p.shown] else none
def reprQ:D->Option (D×Fl)
 | .str t=>if (reprText t).length<=16777216 then #v[.str (reprText t)] else none
 | .tup xs=>(pyD (.tup xs)).bind nZ
 | .lst xs=>(pyD (.lst xs)).bind nZ
 | _=>none
abbrev jL:=c1 reprQ
def zr (K:FG):List V->Hp->VK->Prop:=λxs H Q=>(∃ (a:Addr) (d:PyData),xs=[.ref a]/\DV K H (.ref a) d/\d.showable=true/\d.hasDict=false/\d.depth<=16/\d.shown.length<=sizeLine/\Q (.str d.shown) H)\/∃ t:Str,xs=[.str t]/\(reprText t).length<=sizeLine/\Q (.str (reprText t)) H
theorem uD (a:X.A.guards=some []) (hu:X.A.units+64 < cLine):CallR X (.builtin "repr") (zr X.K):=(xP a hu).or uC
theorem Dc:c6 K (zr K) jL:=λys H Q p ra e q=>by
 obtain ⟨y,rfl,b⟩:=gq e
 have c:=(ra y GX).rep
 obtain ⟨da,o,n,m⟩:=y
 dsimp only at c b
 have fin:∀ {a:Addr} {d:PyData},nZ d=some p->DV K H (.ref a) d->zr K [.ref a] H Q:=λ{a d} h2 dv=>by
  unfold nZ at h2
  rcases hb:(d.showable && !d.hasDict && decide (d.depth<=16) && decide (d.shown.length<=16777216)) with _ | _
  .rw[hb] at h2;exact nsE h2
  .rw[hb] at h2
   cases h2
   obtain ⟨h3,j⟩:=Bool.and_eq_true_iff.mp hb
   obtain ⟨g,l⟩:=Bool.and_eq_true_iff.mp h3
   obtain ⟨i,k⟩:=Bool.and_eq_true_iff.mp g
   exact .inl #[a,d,rfl,dv,i,by simpa using k,of_decide_eq_true l,by rw[sizeLine_eq];exact of_decide_eq_true j,q #[_,_,[],.z] H (dj (.str _)) rfl rfl]
 cases da with
 | str t =>
  obtain ⟨rfl,rfl⟩:=c.view
  rcases Decidable.em ((reprText t).length<=16777216) with f | f
  .have b:=(if_pos f).symm.trans b
   cases b
   exact .inr #[t,rfl,by rw[sizeLine_eq];exact f,q #[_,_,[],.z] H (dj (.str _)) rfl rfl]
  .exact nsE ((if_neg f).symm.trans b)
 | tup xs =>
  obtain ⟨d,h1,h2⟩:=Hx.mp (show (pyD (.tup xs)).bind nZ=some p from b)
  have dv:=c.dv d h1
  obtain ⟨a,h,rfl,_⟩:=c.view
  exact fin h2 dv
 | lst xs =>
  obtain ⟨d,h1,h2⟩:=Hx.mp (show (pyD (.lst xs)).bind nZ=some p from b)
  have dv:=c.dv d h1
  obtain ⟨a,h,r,rfl,_⟩:=c.view
  exact fin h2 dv
 | _=>exact nsE b
theorem qx:bootBuiltins "ValueError"=some (.type "ValueError"):=by decide +kernel
def IsX (K:FG) (a:Value) (cs:List (String×Bool)):Prop:=∀ c b,cs.lookup c=some b->∀ C,XName K c C->PySem.W.kitOne K (.ref C) a=some b
def ExX (K:FG) (CB:Addr) (cs:List String):Prop:=∀ c∈cs,∀ C,XName K c C->PySem.W.exmOne K (.ref C) (.ref CB)=some true
theorem IsX.nil:IsX K cv []:=λ_ _ h=>nomatch h
theorem IsX.cons {K:FG} {d:Value} {r:String} {C:Addr} {b:Bool} {cs:List (String×Bool)} (n:XName K r C) (h:PySem.W.kitOne K (.ref C) d=some b) (t:IsX K d cs):IsX K d ((r,b)::cs):=λc i e g f=>by
 rw[List.lookup_cons] at e
 cases a:c == r with
 | true =>
  rw[a] at e
  cases e
  cases beq_iff_eq.mp a
  rw[f.inj n];exact h
 | false=>rw[a] at e;exact t c i e g f
theorem ExX.nil:ExX K CB []:=λ_ h=>nomatch h
theorem ExX.cons {K:FG} {CB:Addr} {r:String} {C:Addr} {cs:List String} (n:XName K r C) (h:PySem.W.exmOne K (.ref C) (.ref CB)=some true) (t:ExX K CB cs):ExX K CB (r::cs):=λc e b a=>by
 rcases G6.mp e with e | e
 .cases e;rw[a.inj n];exact h
 .exact t c e b a
end L3
namespace L2
theorem RoomN.units {k:Nat} (r:RoomN k A):A.units+64 < PySem.cLine:=by have:=r.un;omega
theorem RoomN.hu {k:Nat} (r:RoomN k A):A.units+1 < PySem.cLine:=by have:=r.un;omega
end L2
end
section
namespace L3
open PySem L2
section
variable {K:FG} {h:Heap} {mg:Str->Option Value}
theorem tO (e:ja K n=true):PySem.W.nsIn K mainGlobals n=some (some (.ref (ag K n))):=by
 unfold ja at e
 split at e
 .rename_i a b;unfold ag;rw[b]
 .cases e
theorem ee {l:List Str} (X:K.In h) (G:h.Ns mainGlobals mg) (e:l.map (ja K)=l.map λ_=>true) (i:Nat) (hi:l[i]?=some n):mg n=some (.ref (ag K n)):=PySem.W.mg_of X G (tO (my e i hi))
theorem dB {α:Type} {l r:List α} (e:l=r) (i:Nat) {a b:α} (h:l[i]?=some a) (k:r[i]?=some b):a=b:=by rw[e,k] at h;exact (HJ h).symm
theorem AW {l:List String} (X:K.In h) (G:h.Ns mainGlobals mg) (d:qg K=lQ) (e:l.map (λr:String=>vY K r)=l.map λ_:String=>qj) (i:Nat) (hi:l[i]?=some r):XName K r (ag K r)/\ECls K mg r (ag K r):=by
 have e:=my e i hi
 unfold vY qj at e
 unfold qg lQ at d
 simp only[Prod.mk.injEq] at e d
 obtain ⟨a,e1,g,f,c,b,j,k⟩:=e
 exact #[#[tO a,#[e1,g,f,c,d.1,d.2,b,j]],#[PySem.W.mg_of X G (tO a),k]]
end
section
variable {K:FG} {G G0:Gm} {W W0:D->Sto->Prop} {H H':Hp}
def ntD (n:List Int):D:=.tup (n.map D.int)
theorem ul:∀ n:List Int,bd (n.map D.int)=some n
 | []=>rfl
 | a::n=>by
  show (bd (n.map D.int)).map _=_
  rw[ul n];rfl
theorem jK:∀ n:List Int,Reps (Rep K H) (n.map D.int) (n.map V.int) []
 | []=>.nil
 | a::n=>.cons (L:=[]) (.int a) (jK n)
end
section
variable {K:FG} {H H':Hp}
theorem u7:∀ {ns:List (List Int)} {bs:List Addr},bs.length=ns.length->(∀ (i:Nat) (b:Addr) (n:List Int),bs[i]?=some b->ns[i]?=some n->H b=some (.tup (n.map V.int)))->Reps (Rep K H) (ns.map ntD) (bs.map V.ref) []
 | [],[],_,_=>.nil
 | [],_::_,h,_=>by cases h
 | _::_,[],h,_=>by cases h
 | n::ns,b::bs,h,q=>.cons (L:=[]) (.tup (q 0 b n rfl rfl) (jK n)) (u7 (by simpa using h) λi b n e1 a=>q (i+1) b n (by simpa using e1) (by simpa using a))
end
section
variable {K:FG} {H H':Hp}
def kO:List D->Option (List (List Int))
 | []=>some []
 | .tup ys::ds=>(bd ys).bind λn=>(kO ds).map (n::·)
 | _=>none
theorem qK:∀ {ds:List D} {ns:List (List Int)},kO ds=some ns->ds=ns.map ntD
 | [],ns,h=>by cases h;rfl
 | d::ds,ns,h=>by
  cases d with
  | tup ys =>
   obtain ⟨n,h1,h2⟩:=Hx.mp (show ((bd ys).bind λn=>(kO ds).map (n::·))=some ns from h)
   obtain ⟨ms,h3,a⟩:=G3.mp h2
   rw[qK h3,<- a,fG h1];rfl
  | _=>exact nsE h
def Au (ns:List (List Int)):Bool:=ns.all (λn=>!n.isEmpty) || (match ns with | []::_=>true | _=>false)
theorem CY (h:Au ns=true):kOk ns:=by
 rcases Bool.or_eq_true_iff.mp h with h | h
 .refine .inl λn a z=>?_
  have:=List.all_eq_true.mp h n a
  subst z;simp at this
 .refine .inr ?_
  grind
def Ex:D->Option (D×Fl)
 | .lst ds=>(kO ds).bind λns=>if (Au ns && decide (ns.length<=16777216))=true then (bA ns).bind λis=>if (decide (is.length<=16777216) && is.all λi=>decide (i < ns.length))=true then some (.lst (is.map λi=>ntD (ns.getD i [])),.u) else none else none
 | _=>none
abbrev lX:=c1 Ex
theorem oi:∀ {ns:List (List Int)} {c:List V} {L:List Addr},Reps (Rep K H) (ns.map ntD) c L->∃ bs:List Addr,c=bs.map V.ref/\ns.length=bs.length/\∀ (i:Nat) (b:Addr) (n:List Int),bs[i]?=some b->ns[i]?=some n->H b=some (.tup (n.map V.int))
 | [],_,_,.nil=>#[[],rfl,rfl,λi b n e=>by simp at e]
 | n::ns,_,_,.cons r rs=>by
  obtain ⟨bs,e1,g,d⟩:=oi rs
  cases r with
  | @tup _ a c _ ha hr =>
   have f:c=n.map V.int:=Reps.ints hr
   subst f e1
   refine #[a::bs,rfl,by simp[g],λi b m h1 h2=>?_]
   cases i with
   | zero=>cases h1;cases h2;exact ha
   | succ i=>exact d i b m (by simpa using h1) (by simpa using h2)
theorem AZ:c6 K (zp K) lX:=λys H Q p ra e q=>by
 obtain ⟨y,rfl,d⟩:=gq e
 clear e
 have e:=d
 clear d
 have l:=(ra y GX).rep
 obtain ⟨da,E,A,C⟩:=y
 dsimp only at l e
 cases da with
 | lst ds =>
  obtain ⟨ns,h1,h2⟩:=Hx.mp (show ((kO ds).bind λns=>_)=some p from e)
  by_cases f:(Au ns && decide (ns.length<=16777216))=true
  .rw[if_pos f] at h2
   obtain ⟨h3,w⟩:=Bool.and_eq_true_iff.mp f
   obtain ⟨is,t,g⟩:=Hx.mp h2
   by_cases hd:(decide (is.length<=16777216) && is.all λi=>decide (i < ns.length))=true
   .rw[if_pos hd] at g
    cases g
    obtain ⟨v,x⟩:=Bool.and_eq_true_iff.mp hd
    cases qK h1
    obtain ⟨a,D,B,rfl,rfl,s,rs⟩:=l.view
    obtain ⟨bs,rfl,o,k⟩:=oi rs
    refine #[a,bs,ns,is,rfl,SqL.of s,o,k,CY h3,t,by rw[sizeLine_eq];exact of_decide_eq_true w,by rw[sizeLine_eq];exact of_decide_eq_true v,λp m=>?_]
    have r:(is.map λi=>V.ref (bs.getD i 0))=(is.map λi=>bs.getD i 0).map V.ref:=by rw[HH];rfl
    have h:(is.map λi=>ntD (ns.getD i []))=(is.map λi=>ns.getD i []).map ntD:=by rw[HH];rfl
    rw[r]
    refine q #[.lst (is.map λi=>ntD (ns.getD i [])),.ref p,[p],.u] _ (rJ m ?_ λc f=>by cases f) rfl rfl
    rw[h]
    refine u7 (by simp) λi b n e1 d=>?_
    rw[Hh] at e1 d
    cases hi:is[i]? with
    | none=>rw[hi] at e1;cases e1
    | some j =>
     rw[hi] at e1 d
     have z:j < ns.length:=of_decide_eq_true (List.all_eq_true.mp x j (He hi))
     have g1:bs[j]?=some bs[j]:=G7 (by lia)
     have g2:ns[j]?=some ns[j]:=G7 z
     have e1:bs.getD j 0=b:=HJ e1
     have d:ns.getD j []=n:=HJ d
     rw[List.getD,g1] at e1
     rw[List.getD,g2] at d
     subst e1 d
     exact k j _ _ g1 g2
   .rw[if_neg hd] at g;exact nsE g
  .rw[if_neg f] at h2;exact nsE h2
 | _=>exact nsE e
end
section
variable {K:FG} {G0:Gm} {W0:D->Sto->Prop} {X:Cx}
def ssQ:D->Option (D×Fl)
 | .tup xs=>(bd xs).bind λns=>if ns.length < 64 then some (.lst ((srt (ns.foldl met [])).map .int),.u) else none
 | _=>none
abbrev ssD:=c1 ssQ
def rSS (X:Cx):List V->Hp->VK->Prop:=λxs H Q=>rSet X xs H λv H1=>tU X [v] H1 Q
theorem cd_ss:c6 X.K (rSS X) ssD:=λys H Q p ra e q=>by
 obtain ⟨y,rfl,f⟩:=gq e
 clear e
 have l:=(ra y GX).rep
 obtain ⟨da,A,s,t⟩:=y
 dsimp only at l f
 cases da <;> try (exact nsE f)
 rename_i xs
 obtain ⟨k,x,rfl,v,rs⟩:=l.view
 obtain ⟨ns,h1,h2⟩:=Hx.mp f
 split at h2
 .rename_i i
  cases h2
  have o:=fG h1
  subst o
  have n:=rs.ints
  subst n
  refine #[k,ns,rfl,SqT.of v,i,λa j=>#[a,ns.foldl met [],rfl,aE,?_,λb g r m p2=>?_]]
  .have:=rP ns []
   simp at this
   lia
  .rw[dy (m.trans (iq _).symm) p2 (d7 _)]
   have d:H b=none:=by
    by_cases z:b=a
    .rw[z];exact j
    .rw[aq z] at g;exact g
   have w:=rJ (K:=X.K) (Ks:=cY [#[.tup (ns.map .int),.ref k,s,t]]) g (iz (K:=X.K) (H:=upd H a (tw X a (ns.foldl met []))) (srt (ns.foldl met []))) (λc h=>by cases h)
   refine q #[.lst ((srt (ns.foldl met [])).map .int),.ref b,[b],.u] _ #[(bf j).trans w.same,w.rep,λc h=>?_,λ_=>#[rfl,b,[],rfl,rfl,List.not_mem_nil,d]] rfl rfl
   cases Hy.mp h
   exact .inl d
 .exact nsE h2
theorem re_ss (g:X.calm=true) (i:Gl X x) (hm:X.mg x=none) (k:bootBuiltins x=some (.builtin "sorted")) (a:Gl X y) (c:X.mg y=none) (d:bootBuiltins y=some (.type "set")) (l:RE X G0 W0 e m) (j:x≠"__name__") (hd:(x == ("__debug__":Str))=false) (b:y≠"__name__") (f:(y == ("__debug__":Str))=false) (s1:starEach [e] X.env=(false,eval e X.env)::starEach [] X.env) (s2:starEach [.Call (.Name y p') [e] [] pos'] X.env=(false,eval (.Call (.Name y p') [e] [] pos') X.env)::starEach [] X.env) :
  RE X G0 W0 (.Call (.Name x p) [.Call (.Name y p') [e] [] pos'] [] pos) (av ssD (aa m ah)) :=
 #[PE.imp (iB (mW g) i hm k (f9 (ki (xN g) a c d (pD l tR s1).h b f s1 rfl) mq s2) j hd s2 rfl) λY H Q h=>(jB (r:=rSS X) cd_ss h:tCB (rSS X) (tA X.K G0 W0 (aa m ah)) Y H Q)]
end
section
variable {K:FG} {X:Cx}
theorem sj:∀ {a b:List Int},a.map V.int=b.map V.int->a=b
 | [],[],_=>rfl
 | [],b::bs,e=>by cases e
 | a::as,[],e=>by cases e
 | a::as,b::bs,e=>by
  rw[Hm,Hm] at e
  injection e with e1 e2
  injection e1 with e1
  rw[e1,sj e2]
abbrev wj (H:Hp) (b:Addr) (ns:List Int):Prop:=H b=some (.tup (ns.map V.int))
def z9 (H:Hp) (ks:List Int) (w:Value):Bool:=@decide (∃ b,w=.ref b/\wj H b ks) (Classical.propDecidable _)
theorem z8 (h:wj H b ns):z9 H ks (.ref b)=decide (ns=ks):=by
 unfold z9
 by_cases e:ns=ks
 .grind
 .rw[Ho e]
  refine @Ho _ (Classical.propDecidable _) ?_
  rintro ⟨c,e1,h2⟩
  injection e1 with e1
  subst e1
  unfold wj at h h2
  rw[h] at h2
  injection h2 with h2
  injection h2 with h2
  exact e (sj h2)
inductive TupsAt (H:Hp):List V->List (List Int)->Prop
 | nil:TupsAt H [] []
 | cons {b:Addr} {ns:List Int} {vs:List V} {nss:List (List Int)}:wj H b ns->TupsAt H vs nss->TupsAt H (.ref b::vs) (ns::nss)
theorem TupsAt.any:∀ {a:List V} {nss:List (List Int)} {us:List Value},TupsAt H a nss->Vals a us->us.any (z9 H ks)=decide (ks∈nss)
 | _,_,_,.nil,.nil=>rfl
 | _,_,_,.cons (b:=b) (ns:=ns) (nss:=nss) h t,.cons r rs=>by
  have c:=TupsAt.any (ks:=ks) t rs
  cases r
  rw[List.any_cons,c,z8 h,Bool.eq_iff_iff]
  simp only[Bool.or_eq_true,decide_eq_true_eq,G6]
  constructor
  .rintro (h | h)
   .exact .inl h.symm
   .exact .inr h
  .rintro (h | h)
   .exact .inl h.symm
   .exact .inr h
end
end L3
end
section
namespace L2
open PySem PySem.Spec PyProof.Rows
variable {cmp:Nat->Nat->Option Bool} {α β:Type}
theorem ai {m:StateT SortSt Sem α} {f:α->StateT SortSt Sem β} {st st1:SortSt} {a:α} (h1:ev cmp (m.run st) none=some ((a,st1),none)) (h2:ev cmp ((f a).run st1) none=r):ev cmp ((m >>= f).run st) none=r:=by
 show ev cmp ((m.run st).bind λx=>(f x.1).run x.2) none=r
 rw[vO,h1]
 exact h2
theorem du {f:Nat->β->StateT SortSt Sem (ForInStep β)} {i:Nat} {st st1:SortSt} (h:ev cmp ((f i b).run st) none=some ((.yield b1,st1),none)) (h2:ev cmp ((forIn l b1 f).run st1) none=r):ev cmp ((forIn (i::l) b f).run st) none=r:=by
 rw[List.forIn_cons]
 exact ai h h2
theorem eX {f:Nat->β->StateT SortSt Sem (ForInStep β)} {i:Nat} {st st1:SortSt} (h:ev cmp ((f i b).run st) none=some ((.done b1,st1),none)):ev cmp ((forIn (i::l) b f).run st) none=some ((b1,st1),none):=by
 rw[List.forIn_cons]
 exact ai h rfl
def am (l:List Nat) (p:List (Nat×Nat×Nat)) (g:Nat):SortSt:=SortSt.mk' (aX true) ((l.map λi=>((Value.ref i,Value.ref i):Keyed)).toArray) p.toArray g none
theorem oC:∀ L:List Nat,(L.map λi=>((Value.ref i,Value.ref i):Keyed)).mapM mx=some L
 | []=>rfl
 | x::L=>by
  have a:=oC L
  rw[Hm,List.mapM_cons,a]
  rfl
theorem kP {n:Nat} {g:Nat} (h0:ns.length=n) (h:ev (bG ns) (sortRuns'.run (am (List.range n) [] 7)) none=some (((),am L1 p g),none)):bA ns=some L1:=by
 unfold bA
 subst h0
 have e:SortSt.mk' (aX true) (oD ns.length) (List.toArray []) 7 none=am (List.range ns.length) [] 7:=rfl
 rw[e,h]
 show (arrOf (am L1 p g)).toList.mapM mx=some L1
 show ((L1.map λi=>((Value.ref i,Value.ref i):Keyed)).toArray).toList.mapM mx=some L1
 rw[List.toList_toArray]
 exact oC L1
end L2
end
section
namespace L2
open PySem PySem.Spec PyProof.Rows
def φ6:List (List Int):=[[],[0],[1],[0,1],[2],[0,2],[1,2],[0,1,2],[3],[0,3],[1,3],[0,1,3],[2,3],[0,2,3],[1,2,3],[0,1,2,3],[4],[0,4],[1,4],[0,1,4],[2,4],[0,2,4],[1,2,4],[0,1,2,4],[3,4],[0,3,4],[1,3,4],[0,1,3,4],[2,3,4],[0,2,3,4],[1,2,3,4],[0,1,2,3,4],[5],[0,5],[1,5],[0,1,5],[2,5],[0,2,5],[1,2,5],[0,1,2,5],[3,5],[0,3,5],[1,3,5],[0,1,3,5],[2,3,5],[0,2,3,5],[1,2,3,5],[0,1,2,3,5],[4,5],[0,4,5],[1,4,5],[0,1,4,5],[2,4,5],[0,2,4,5],[1,2,4,5],[0,1,2,4,5],[3,4,5],[0,3,4,5],[1,3,4,5],[0,1,3,4,5],[2,3,4,5],[0,2,3,4,5],[1,2,3,4,5],[0,1,2,3,4,5]]
def L6_0:List Nat:=List.range 64
def L6_1:List Nat:=L6_0.take 2++([3,7,15,31,23,11,27,19,5,13,29,21,9,25,17,2,6,14,30,22,10,26,18,4,12,28,20,8,24,16]++L6_0.drop 32)
def L6_2:List Nat:=L6_1.take 32++([33,32]++L6_1.drop 34)
def gu:List Nat:=L6_2.take 32++[63,47,55,39,59,43,51,35,61,45,53,37,57,41,49,33,62,46,54,38,58,42,50,34,60,44,52,36,56,40,48,32]
def L6_4:List Nat:=[0,1,3,7,15,31,63,47,23,55,39,11,27,59,43,19,51,35,5,13,29,61,45,21,53,37,9,25,57,41,17,49,33,2,6,14,30,62,46,22,54,38,10,26,58,42,18,50,34,4,12,28,60,44,20,52,36,8,24,56,40,16,48,32]
theorem g6_0:ev (bG φ6) ((countRun' 0 64).run (am L6_0 [] 7)) none=some ((some 3,(am L6_0 [] 7)),none):=by kernel_rfl
theorem g6_1:ev (bG φ6) ((binarySort' 0 32 3).run (am L6_0 [] 7)) none=some ((true,(am L6_1 [] 7)),none):=by kernel_rfl
theorem g6_2:ev (bG φ6) ((countRun' 32 32).run (am L6_1 [(0,32,0)] 7)) none=some ((some 2,(am L6_2 [(0,32,0)] 7)),none):=by kernel_rfl
theorem g6_3:ev (bG φ6) ((binarySort' 32 32 2).run (am L6_2 [(0,32,0)] 7)) none=some ((true,(am gu [(0,32,0)] 7)),none):=by kernel_rfl
theorem g6_4:ev (bG φ6) ((mergeAt' 0).run (am gu [(0,32,1),(32,32,0)] 7)) none=some ((true,(am L6_4 [(0,64,1)] 7)),none):=by kernel_rfl
theorem runs6:ev (bG φ6) (sortRuns'.run (am L6_0 [] 7)) none=some (((),(am L6_4 [(0,64,1)] 7)),none):=by
 rw[sortRuns'_eq]
 refine ai (a:=(am L6_0 [] 7)) (st1:=(am L6_0 [] 7)) rfl ?_
 have b:(arrOf (am L6_0 [] 7)).size=64:=by kernel_rfl
 have c:minRun' 64 64 0=32:=rfl
 rw[b]
 try dsimp only
 rw[c]
 rw[Std.Legacy.Range.forIn_eq_forIn_range']
 refine ai (a:=(none,64)) (st1:=(am gu [(0,32,1),(32,32,0)] 7)) (du (b1:=(none,32)) (st1:=(am L6_1 [(0,32,0)] 7)) ?_ (du (b1:=(none,64)) (st1:=(am gu [(0,32,1),(32,32,0)] 7)) ?_ (eX (b1:=(none,64)) (st1:=(am gu [(0,32,1),(32,32,0)] 7)) ?_))) ?_
 .try dsimp only
  rw[if_neg (by decide)]
  refine ai g6_0 ?_
  try dsimp only
  rw[if_pos (by decide)]
  refine ai (a:=()) (st1:=(am L6_0 [] 7)) rfl ?_
  refine ai g6_1 ?_
  rw[if_neg (by decide)]
  refine ai (a:=(am L6_1 [] 7)) (st1:=(am L6_1 [] 7)) rfl ?_
  rw[show (pendingOf (am L6_1 [] 7)).back?=none from rfl]
  try dsimp only
  refine ai (a:=()) (st1:=(am L6_1 [(0,32,0)] 7)) rfl ?_
  exact rfl
 .try dsimp only
  rw[if_neg (by decide)]
  refine ai g6_2 ?_
  try dsimp only
  rw[if_pos (by decide)]
  refine ai (a:=()) (st1:=(am L6_2 [(0,32,0)] 7)) rfl ?_
  refine ai g6_3 ?_
  rw[if_neg (by decide)]
  refine ai (a:=(am gu [(0,32,0)] 7)) (st1:=(am gu [(0,32,0)] 7)) rfl ?_
  rw[show (pendingOf (am gu [(0,32,0)] 7)).back?=some (0,32,0) from rfl]
  try dsimp only
  rw[Std.Legacy.Range.forIn_eq_forIn_range']
  refine ai (a:=(none,())) (st1:=(am gu [(0,32,0)] 7)) (eX (b1:=(none,())) (st1:=(am gu [(0,32,0)] 7)) ?_) ?_
  .try dsimp only
   refine ai (a:=(am gu [(0,32,0)] 7)) (st1:=(am gu [(0,32,0)] 7)) rfl ?_
   rw[show (if (pendingOf (am gu [(0,32,0)] 7)).size > 1 then (pendingOf (am gu [(0,32,0)] 7))[(pendingOf (am gu [(0,32,0)] 7)).size - 2]? else none)=none from rfl]
   exact rfl
  try dsimp only
  refine ai (a:=()) (st1:=(am gu [(0,32,1)] 7)) rfl ?_
  refine ai (a:=()) (st1:=(am gu [(0,32,1),(32,32,0)] 7)) rfl ?_
  exact rfl
 .try dsimp only
  rw[if_pos (by decide)]
  exact rfl
 try dsimp only
 rw[Std.Legacy.Range.forIn_eq_forIn_range']
 refine ai (a:=(none,())) (st1:=(am L6_4 [(0,64,1)] 7)) (du (b1:=(none,())) (st1:=(am L6_4 [(0,64,1)] 7)) ?_ (eX (b1:=(none,())) (st1:=(am L6_4 [(0,64,1)] 7)) ?_)) ?_
 .try dsimp only
  refine ai (a:=(am gu [(0,32,1),(32,32,0)] 7)) (st1:=(am gu [(0,32,1),(32,32,0)] 7)) rfl ?_
  rw[if_neg (by decide)]
  refine ai g6_4 ?_
  rw[if_neg (by decide)]
  exact rfl
 .try dsimp only
  refine ai (a:=(am L6_4 [(0,64,1)] 7)) (st1:=(am L6_4 [(0,64,1)] 7)) rfl ?_
  rw[if_pos (by decide)]
  exact rfl
 exact rfl
theorem sort6:bA φ6=some L6_4:=kP (n:=64) rfl runs6
def φ7:List (List Int):=[[],[0],[1],[0,1],[2],[0,2],[1,2],[0,1,2],[3],[0,3],[1,3],[0,1,3],[2,3],[0,2,3],[1,2,3],[0,1,2,3],[4],[0,4],[1,4],[0,1,4],[2,4],[0,2,4],[1,2,4],[0,1,2,4],[3,4],[0,3,4],[1,3,4],[0,1,3,4],[2,3,4],[0,2,3,4],[1,2,3,4],[0,1,2,3,4],[5],[0,5],[1,5],[0,1,5],[2,5],[0,2,5],[1,2,5],[0,1,2,5],[3,5],[0,3,5],[1,3,5],[0,1,3,5],[2,3,5],[0,2,3,5],[1,2,3,5],[0,1,2,3,5],[4,5],[0,4,5],[1,4,5],[0,1,4,5],[2,4,5],[0,2,4,5],[1,2,4,5],[0,1,2,4,5],[3,4,5],[0,3,4,5],[1,3,4,5],[0,1,3,4,5],[2,3,4,5],[0,2,3,4,5],[1,2,3,4,5],[0,1,2,3,4,5],[6],[0,6],[1,6],[0,1,6],[2,6],[0,2,6],[1,2,6],[0,1,2,6],[3,6],[0,3,6],[1,3,6],[0,1,3,6],[2,3,6],[0,2,3,6],[1,2,3,6],[0,1,2,3,6],[4,6],[0,4,6],[1,4,6],[0,1,4,6],[2,4,6],[0,2,4,6],[1,2,4,6],[0,1,2,4,6],[3,4,6],[0,3,4,6],[1,3,4,6],[0,1,3,4,6],[2,3,4,6],[0,2,3,4,6],[1,2,3,4,6],[0,1,2,3,4,6],[5,6],[0,5,6],[1,5,6],[0,1,5,6],[2,5,6],[0,2,5,6],[1,2,5,6],[0,1,2,5,6],[3,5,6],[0,3,5,6],[1,3,5,6],[0,1,3,5,6],[2,3,5,6],[0,2,3,5,6],[1,2,3,5,6],[0,1,2,3,5,6],[4,5,6],[0,4,5,6],[1,4,5,6],[0,1,4,5,6],[2,4,5,6],[0,2,4,5,6],[1,2,4,5,6],[0,1,2,4,5,6],[3,4,5,6],[0,3,4,5,6],[1,3,4,5,6],[0,1,3,4,5,6],[2,3,4,5,6],[0,2,3,4,5,6],[1,2,3,4,5,6],[0,1,2,3,4,5,6]]
def L7_0:List Nat:=List.range 128
def L7_1:List Nat:=L7_0.take 2++([3,7,15,31,23,11,27,19,5,13,29,21,9,25,17,2,6,14,30,22,10,26,18,4,12,28,20,8,24,16]++L7_0.drop 32)
def L7_2:List Nat:=L7_1.take 32++([33,32]++L7_1.drop 34)
def L7_3:List Nat:=L7_2.take 32++([63,47,55,39,59,43,51,35,61,45,53,37,57,41,49,33,62,46,54,38,58,42,50,34,60,44,52,36,56,40,48,32]++L7_2.drop 64)
def L7_4:List Nat:=L7_3.take 64++([65,64]++L7_3.drop 66)
def L7_5:List Nat:=L7_4.take 64++([95,79,87,71,91,75,83,67,93,77,85,69,89,73,81,65,94,78,86,70,90,74,82,66,92,76,84,68,88,72,80,64]++L7_4.drop 96)
def L7_6:List Nat:=L7_5.take 6++([63,47,23,55,39,11,27,59,43,19,51,35,5,13,29,61,45,21,53,37,9,25,57,41,17,49,33,2,6,14,30,62,46,22,54,38,10,26,58,42,18,50,34,4,12,28,60,44,20,52,36,8,24,56,40,16]++L7_5.drop 62)
def L7_7:List Nat:=L7_6.take 96++([97,96]++L7_6.drop 98)
def L7_8:List Nat:=L7_7.take 96++[127,111,119,103,123,107,115,99,125,109,117,101,121,105,113,97,126,110,118,102,122,106,114,98,124,108,116,100,120,104,112,96]
def Bh:List Nat:=L7_8.take 64++[127,95,111,79,119,87,103,71,123,91,107,75,115,83,99,67,125,93,109,77,117,85,101,69,121,89,105,73,113,81,97,65,126,94,110,78,118,86,102,70,122,90,106,74,114,82,98,66,124,92,108,76,116,84,100,68,120,88,104,72,112,80,96,64]
def L7_10:List Nat:=[0,1,3,7,15,31,63,127,95,47,111,79,23,55,119,87,39,103,71,11,27,59,123,91,43,107,75,19,51,115,83,35,99,67,5,13,29,61,125,93,45,109,77,21,53,117,85,37,101,69,9,25,57,121,89,41,105,73,17,49,113,81,33,97,65,2,6,14,30,62,126,94,46,110,78,22,54,118,86,38,102,70,10,26,58,122,90,42,106,74,18,50,114,82,34,98,66,4,12,28,60,124,92,44,108,76,20,52,116,84,36,100,68,8,24,56,120,88,40,104,72,16,48,112,80,32,96,64]
theorem g7_0:ev (bG φ7) ((countRun' 0 128).run (am L7_0 [] 7)) none=some ((some 3,(am L7_0 [] 7)),none):=by kernel_rfl
theorem g7_1:ev (bG φ7) ((binarySort' 0 32 3).run (am L7_0 [] 7)) none=some ((true,(am L7_1 [] 7)),none):=by kernel_rfl
theorem g7_2:ev (bG φ7) ((countRun' 32 96).run (am L7_1 [(0,32,0)] 7)) none=some ((some 2,(am L7_2 [(0,32,0)] 7)),none):=by kernel_rfl
theorem g7_3:ev (bG φ7) ((binarySort' 32 32 2).run (am L7_2 [(0,32,0)] 7)) none=some ((true,(am L7_3 [(0,32,0)] 7)),none):=by kernel_rfl
theorem g7_4:ev (bG φ7) ((countRun' 64 64).run (am L7_3 [(0,32,2),(32,32,0)] 7)) none=some ((some 2,(am L7_4 [(0,32,2),(32,32,0)] 7)),none):=by kernel_rfl
theorem g7_5:ev (bG φ7) ((binarySort' 64 32 2).run (am L7_4 [(0,32,2),(32,32,0)] 7)) none=some ((true,(am L7_5 [(0,32,2),(32,32,0)] 7)),none):=by kernel_rfl
theorem g7_6:ev (bG φ7) ((mergeAt' 0).run (am L7_5 [(0,32,2),(32,32,0)] 7)) none=some ((true,(am L7_6 [(0,64,2)] 7)),none):=by kernel_rfl
theorem g7_7:ev (bG φ7) ((countRun' 96 32).run (am L7_6 [(0,64,1),(64,32,0)] 7)) none=some ((some 2,(am L7_7 [(0,64,1),(64,32,0)] 7)),none):=by kernel_rfl
theorem g7_8:ev (bG φ7) ((binarySort' 96 32 2).run (am L7_7 [(0,64,1),(64,32,0)] 7)) none=some ((true,(am L7_8 [(0,64,1),(64,32,0)] 7)),none):=by kernel_rfl
theorem g7_9:ev (bG φ7) ((mergeAt' 1).run (am L7_8 [(0,64,1),(64,32,2),(96,32,0)] 7)) none=some ((true,(am Bh [(0,64,1),(64,64,2)] 7)),none):=by kernel_rfl
theorem g7_10:ev (bG φ7) ((mergeAt' 0).run (am Bh [(0,64,1),(64,64,2)] 7)) none=some ((true,(am L7_10 [(0,128,1)] 7)),none):=by kernel_rfl
theorem runs7:ev (bG φ7) (sortRuns'.run (am L7_0 [] 7)) none=some (((),(am L7_10 [(0,128,1)] 7)),none):=by
 rw[sortRuns'_eq]
 refine ai (a:=(am L7_0 [] 7)) (st1:=(am L7_0 [] 7)) rfl ?_
 have b:(arrOf (am L7_0 [] 7)).size=128:=by kernel_rfl
 have c:minRun' 128 128 0=32:=rfl
 rw[b]
 try dsimp only
 rw[c]
 rw[Std.Legacy.Range.forIn_eq_forIn_range']
 refine ai (a:=(none,128)) (st1:=(am L7_8 [(0,64,1),(64,32,2),(96,32,0)] 7)) (du (b1:=(none,32)) (st1:=(am L7_1 [(0,32,0)] 7)) ?_ (du (b1:=(none,64)) (st1:=(am L7_3 [(0,32,2),(32,32,0)] 7)) ?_ (du (b1:=(none,96)) (st1:=(am L7_6 [(0,64,1),(64,32,0)] 7)) ?_ (du (b1:=(none,128)) (st1:=(am L7_8 [(0,64,1),(64,32,2),(96,32,0)] 7)) ?_ (eX (b1:=(none,128)) (st1:=(am L7_8 [(0,64,1),(64,32,2),(96,32,0)] 7)) ?_))))) ?_
 .try dsimp only
  rw[if_neg (by decide)]
  refine ai g7_0 ?_
  try dsimp only
  rw[if_pos (by decide)]
  refine ai (a:=()) (st1:=(am L7_0 [] 7)) rfl ?_
  refine ai g7_1 ?_
  rw[if_neg (by decide)]
  refine ai (a:=(am L7_1 [] 7)) (st1:=(am L7_1 [] 7)) rfl ?_
  rw[show (pendingOf (am L7_1 [] 7)).back?=none from rfl]
  try dsimp only
  refine ai (a:=()) (st1:=(am L7_1 [(0,32,0)] 7)) rfl ?_
  exact rfl
 .try dsimp only
  rw[if_neg (by decide)]
  refine ai g7_2 ?_
  try dsimp only
  rw[if_pos (by decide)]
  refine ai (a:=()) (st1:=(am L7_2 [(0,32,0)] 7)) rfl ?_
  refine ai g7_3 ?_
  rw[if_neg (by decide)]
  refine ai (a:=(am L7_3 [(0,32,0)] 7)) (st1:=(am L7_3 [(0,32,0)] 7)) rfl ?_
  rw[show (pendingOf (am L7_3 [(0,32,0)] 7)).back?=some (0,32,0) from rfl]
  try dsimp only
  rw[Std.Legacy.Range.forIn_eq_forIn_range']
  refine ai (a:=(none,())) (st1:=(am L7_3 [(0,32,0)] 7)) (eX (b1:=(none,())) (st1:=(am L7_3 [(0,32,0)] 7)) ?_) ?_
  .try dsimp only
   refine ai (a:=(am L7_3 [(0,32,0)] 7)) (st1:=(am L7_3 [(0,32,0)] 7)) rfl ?_
   rw[show (if (pendingOf (am L7_3 [(0,32,0)] 7)).size > 1 then (pendingOf (am L7_3 [(0,32,0)] 7))[(pendingOf (am L7_3 [(0,32,0)] 7)).size - 2]? else none)=none from rfl]
   exact rfl
  try dsimp only
  refine ai (a:=()) (st1:=(am L7_3 [(0,32,2)] 7)) rfl ?_
  refine ai (a:=()) (st1:=(am L7_3 [(0,32,2),(32,32,0)] 7)) rfl ?_
  exact rfl
 .try dsimp only
  rw[if_neg (by decide)]
  refine ai g7_4 ?_
  try dsimp only
  rw[if_pos (by decide)]
  refine ai (a:=()) (st1:=(am L7_4 [(0,32,2),(32,32,0)] 7)) rfl ?_
  refine ai g7_5 ?_
  rw[if_neg (by decide)]
  refine ai (a:=(am L7_5 [(0,32,2),(32,32,0)] 7)) (st1:=(am L7_5 [(0,32,2),(32,32,0)] 7)) rfl ?_
  rw[show (pendingOf (am L7_5 [(0,32,2),(32,32,0)] 7)).back?=some (32,32,0) from rfl]
  try dsimp only
  rw[Std.Legacy.Range.forIn_eq_forIn_range']
  refine ai (a:=(none,())) (st1:=(am L7_6 [(0,64,2)] 7)) (du (b1:=(none,())) (st1:=(am L7_6 [(0,64,2)] 7)) ?_ (eX (b1:=(none,())) (st1:=(am L7_6 [(0,64,2)] 7)) ?_)) ?_
  .try dsimp only
   refine ai (a:=(am L7_5 [(0,32,2),(32,32,0)] 7)) (st1:=(am L7_5 [(0,32,2),(32,32,0)] 7)) rfl ?_
   rw[show (if (pendingOf (am L7_5 [(0,32,2),(32,32,0)] 7)).size > 1 then (pendingOf (am L7_5 [(0,32,2),(32,32,0)] 7))[(pendingOf (am L7_5 [(0,32,2),(32,32,0)] 7)).size - 2]? else none)=some (0,32,2) from rfl]
   try dsimp only
   rw[if_neg (by decide)]
   refine ai g7_6 ?_
   rw[if_neg (by decide)]
   exact rfl
  .try dsimp only
   refine ai (a:=(am L7_6 [(0,64,2)] 7)) (st1:=(am L7_6 [(0,64,2)] 7)) rfl ?_
   rw[show (if (pendingOf (am L7_6 [(0,64,2)] 7)).size > 1 then (pendingOf (am L7_6 [(0,64,2)] 7))[(pendingOf (am L7_6 [(0,64,2)] 7)).size - 2]? else none)=none from rfl]
   exact rfl
  try dsimp only
  refine ai (a:=()) (st1:=(am L7_6 [(0,64,1)] 7)) rfl ?_
  refine ai (a:=()) (st1:=(am L7_6 [(0,64,1),(64,32,0)] 7)) rfl ?_
  exact rfl
 .try dsimp only
  rw[if_neg (by decide)]
  refine ai g7_7 ?_
  try dsimp only
  rw[if_pos (by decide)]
  refine ai (a:=()) (st1:=(am L7_7 [(0,64,1),(64,32,0)] 7)) rfl ?_
  refine ai g7_8 ?_
  rw[if_neg (by decide)]
  refine ai (a:=(am L7_8 [(0,64,1),(64,32,0)] 7)) (st1:=(am L7_8 [(0,64,1),(64,32,0)] 7)) rfl ?_
  rw[show (pendingOf (am L7_8 [(0,64,1),(64,32,0)] 7)).back?=some (64,32,0) from rfl]
  try dsimp only
  rw[Std.Legacy.Range.forIn_eq_forIn_range']
  refine ai (a:=(none,())) (st1:=(am L7_8 [(0,64,1),(64,32,0)] 7)) (eX (b1:=(none,())) (st1:=(am L7_8 [(0,64,1),(64,32,0)] 7)) ?_) ?_
  .try dsimp only
   refine ai (a:=(am L7_8 [(0,64,1),(64,32,0)] 7)) (st1:=(am L7_8 [(0,64,1),(64,32,0)] 7)) rfl ?_
   rw[show (if (pendingOf (am L7_8 [(0,64,1),(64,32,0)] 7)).size > 1 then (pendingOf (am L7_8 [(0,64,1),(64,32,0)] 7))[(pendingOf (am L7_8 [(0,64,1),(64,32,0)] 7)).size - 2]? else none)=some (0,64,1) from rfl]
   try dsimp only
   rw[if_pos (by decide)]
   exact rfl
  try dsimp only
  refine ai (a:=()) (st1:=(am L7_8 [(0,64,1),(64,32,2)] 7)) rfl ?_
  refine ai (a:=()) (st1:=(am L7_8 [(0,64,1),(64,32,2),(96,32,0)] 7)) rfl ?_
  exact rfl
 .try dsimp only
  rw[if_pos (by decide)]
  exact rfl
 try dsimp only
 rw[Std.Legacy.Range.forIn_eq_forIn_range']
 refine ai (a:=(none,())) (st1:=(am L7_10 [(0,128,1)] 7)) (du (b1:=(none,())) (st1:=(am Bh [(0,64,1),(64,64,2)] 7)) ?_ (du (b1:=(none,())) (st1:=(am L7_10 [(0,128,1)] 7)) ?_ (eX (b1:=(none,())) (st1:=(am L7_10 [(0,128,1)] 7)) ?_))) ?_
 .try dsimp only
  refine ai (a:=(am L7_8 [(0,64,1),(64,32,2),(96,32,0)] 7)) (st1:=(am L7_8 [(0,64,1),(64,32,2),(96,32,0)] 7)) rfl ?_
  rw[if_neg (by decide)]
  refine ai g7_9 ?_
  rw[if_neg (by decide)]
  exact rfl
 .try dsimp only
  refine ai (a:=(am Bh [(0,64,1),(64,64,2)] 7)) (st1:=(am Bh [(0,64,1),(64,64,2)] 7)) rfl ?_
  rw[if_neg (by decide)]
  refine ai g7_10 ?_
  rw[if_neg (by decide)]
  exact rfl
 .try dsimp only
  refine ai (a:=(am L7_10 [(0,128,1)] 7)) (st1:=(am L7_10 [(0,128,1)] 7)) rfl ?_
  rw[if_pos (by decide)]
  exact rfl
 exact rfl
theorem sort7:bA φ7=some L7_10:=kP (n:=128) rfl runs7
end L2
end
section
namespace L3
open PySem L2
def qY (i j:Nat) (ms:M3 (List R3)):SM:=af ms λrs Z=>match rs with
 | [.val a f,.val b f']=>if (i < Z.length/\j < Z.length)/\f≠.l/\f'≠.l then some (.ok .nx,(Z.set i (some (a,f))).set j (some (b,f'))) else none
 | _=>none
section
variable {K:FG} {G0:Gm} {W0:D->Sto->Prop} {H:Hp} {Y:St}
theorem Bv {i j:Nat} {ms:M3 (List R3)} {E:Ends} (hi:G0.pr i=false) (l:G0.pr j=false) (h:tS K G0 W0 (qY i j ms) E Y H):Ek i j (tA K G0 W0 ms) E Y H:=by
 refine h.use λG W le Z T g r Z' w e q=>?_
 refine tA.seq le w e q.err λrs Z1 e1 o H1 Ts g1 m a1=>?_
 split at e1
 .rename_i n f1 p f2
  cases a1 with | cons a1 as=>cases as with | cons a2 as=>cases as with | nil =>
  cases a1 with | val b=>cases a2 with | val x2 =>
  split at e1
  .rename_i a
   cases e1
   have d:Wf K G H1 Y Z1 (b::x2::T) g1:=Wf.perm (T:=x2::b::T) m (List.Perm.swap ..)
   have c:=d.store (f:=b.f) a.1.1 (by rw[le.pr];exact hi) (.inl rfl) a.2.1
   have k:=c.store (i:=j) (f:=x2.f) (by rw[List.length_set];exact a.1.2) (by rw[le.pr];exact l) (.inl rfl) a.2.2
   exact #[b.v,x2.v,rfl,q _ _ _ k]
  .exact nsE e1
 .exact nsE e1
end
section
variable {X:Cx} {G0:Gm} {W0:D->Sto->Prop}
theorem BW (i j:Nat) {x y:Str} {a b:Expr} {ms:M3 (List R3)} {c py pt pos:Pos} {kt k2 pt2} (n:X.calm=true) (l:X.N.Nodup) (hi:X.N[i]?=some x) (o:X.N[j]?=some y) (d:i≠j)
  (g:X.env.scope.names.lookup x=some .local) (k:X.env.scope.names.lookup y=some .local) (f:RA X G0 W0 [a,b] ms)
  (hw:swappedStores [.Tuple [.Name x c,.Name y py] kt pt] (.Tuple [a,b] k2 pt2) X.env=pure (some [x,y]))
  (e:swapsWithSole [.Tuple [.Name x c,.Name y py] kt pt] (.Tuple [a,b] k2 pt2) pos.line X.env=pure false) (pi:G0.pr i=false) (m:G0.pr j=false) :
  RS X G0 W0 (.Assign [.Tuple [.Name x c,.Name y py] kt pt] (.Tuple [a,b] k2 pt2) pos) (qY i j ms):=#[PS.imp (zB n l hi o d g k f.h hw e) λ_ _ _ h=>Bv pi m h]
end
end L3
end
section
namespace L2
open PySem PyProof.Rows
section
variable {prog:Program} {w:World} {A:Around} {E:Value->Shared->Prop}
theorem wB {S I l:Addr} {items:Array Value} {R:Result->Shared->Prop} (z:A.handled=none) (m:I≠S) (B:l≠S) (D:l≠I) :
  ∀ (k i:Nat) (s:Shared) (ns ms:List Int),items.size - i=k->s.heap.IsListIter I l i->s.heap.IsList l items->IntsAre (items.toList.drop i) ms->SetL prog w s.heap S ns->ns.length+ms.length+1 < scanBound ->
   (∀ h' tk,SetL prog w h' S (ms.foldl met ns)->(∀ b o,b≠S->b≠I->s.heap.get? b=some o->h'.get? b=some o)->R (.ok (.ret .none)) { s with heap:=h',toks:=tk }) ->
   codeAny (model prog w) A (.builtin "set.update.loop" #[[.ref S,.ref I],[]]) R s:=by
 intro k
 induction k with
 | zero =>
  intro i s ns ms E hi f a p g h
  refine codeAny_builtin F.entry_set_update_loop ?_
  rw[Around.under_plainId F.plain_set_update_loop _]
  have e:ms=[]:=by
   rw[List.drop_eq_nil_of_le (by simp;lia)] at a
   cases a
   rfl
  subst e
  refine GU (wpAny_pyNext_list_end (s:=s) z hi f (Array.getElem?_eq_none (by omega)) λh' d=>?_)
  exact GV (h h' s.toks (p.keep λo e=>d _ _ (Ne.symm m) e) λb o _ c e=>d _ _ c e)
 | succ k ih =>
  intro i s ns ms E hi f a p g h
  have lt:i < items.size:=by lia
  refine codeAny_builtin F.entry_set_update_loop ?_
  rw[Around.under_plainId F.plain_set_update_loop _]
  rw[List.drop_eq_getElem_cons (by simpa using lt)] at a
  generalize x:items.toList[i]=v at a
  have d:items[i]?=some v:=by rw[<- x,Array.getElem?_eq_getElem lt,Array.getElem_toList]
  cases a with
  | @cons n t _ ms' hr =>
   refine GU (wpAny_pyNext_list_item (s:=s) hi f d λh1 r s1=>?_)
   have y:SetL prog w h1 S ns:=p.keep λo e=>s1.extBut _ _ (Ne.symm m) e
   have C:h1.IsList l items:=f.extBut s1.extBut D
   refine GU (GW (GW (GU ((intKind prog w).pyHash (k:=n) (intKind_is prog w n t) ?_))))
   refine qV (s:={ s with heap:=h1,toks:=s.toks+1 }) y (by simp only[Hu] at g;lia) λb h2 s2 u=>?_
   refine GV #[plainId_quiet F.plain_set_update_loop _,?_]
   have G:=pK ns n
   refine ih (i+1) { s with heap:=h2,toks:=s.toks+1 } (met ns n) ms' (by lia) (r.extBut s2.extBut m) (C.extBut s2.extBut B) hr u (by simp only[Hu] at g;lia) λh3 j q k3=>?_
   exact h h3 j q λb o c1 c2 e=>k3 b o c1 c2 (s2.extBut _ _ c1 (s1.extBut _ _ c2 e))
variable {s:Shared}
theorem qm {l:Addr} {items:Array Value} {ns:List Int} {Q:Value->Shared->Prop} (D:A.handled=none) (u:s.heap.IsList l items) (hi:IntsAre items.toList ns) (G:items.size+1 < scanBound)
  (h:∀ h' tk,SetL prog w h' s.heap.objs.size (ns.foldl met [])->(∀ b o,s.heap.get? b=some o->h'.get? b=some o)->Q (.ref s.heap.objs.size) { s with heap:=h',toks:=tk }) :
  wpAny (model prog w) A (call (.type "set") [.ref l]) Q E s:=by
 obtain ⟨c,tl,x⟩:=F.called_set.mro
 have made:=F.called_set.made
 have below:=F.called_set.sub
 have j:=F.called_set.notType
 have y:=F.called_set.canCreate
 have one:=F.typeCall_set_1 (.ref l)
 obtain ⟨i,g,d,tk,os⟩:=s
 refine wpAny_call (codeAny_of_tree (GV #[Code.quiet_builtin _ (by decide +kernel),codeAny_builtin F.entry_type_call ?_]))
 rw[Around.under_plain (weight_type_call_type "set" [.ref l] []) rfl]
 repeat (any_goals (first | assumption | wp_step))
 refine codeAny_mono (vx (E:=E) (Q:=λv t=>v=.ref i.objs.size/\t=#[i.push { cls:=.type "set",dict:=none,data:=.set (List.toArray []) 0 (.fresh 0 0 (dP w)) },g,d,tk,os]) λo e=>by subst e;exact #[rfl,rfl]) ?_
 rintro (e | f) t n
 .exact n
 cases f with
 | ret v =>
  obtain ⟨rfl,rfl⟩:=n
  have got:(i.push { cls:=.type "set",dict:=none,data:=.set (List.toArray []) 0 (.fresh 0 0 (dP w)) }).get? i.objs.size=some { cls:=.type "set",dict:=none,data:=.set (List.toArray []) 0 (.fresh 0 0 (dP w)) }:=Ha _ rfl
  have ty:(#[i.push { cls:=.type "set",dict:=none,data:=.set (List.toArray []) 0 (.fresh 0 0 (dP w)) },g,d,tk,os]:Shared).TypeIs (.ref i.objs.size) "set":=#[_,got,rfl]
  have p:(i.push { cls:=.type "set",dict:=none,data:=.set (List.toArray []) 0 (.fresh 0 0 (dP w)) }).IsList l items:=u.push _
  refine GU (wpAny_isInstance ty sub_set_self (wpAny_ite_false rfl ?_))
  refine GU (GW (wpAny_callSpecial?_slot ty F.called_set.init (wpAny_call (codeAny_call_builtin F.called_set.init.plain F.entry_set_init (check_set_init_1 ty ?_)))))
  obtain ⟨⟨c2,J,H,s2⟩,h2,r,I,q⟩:=id p
  simp only at r q
  subst r q
  have C:=F.sub_list_set
  have B:=F.sub_list_frozenset
  wp_walk using wpAny_pyIter_list p
  have lt:l < i.objs.size:=by obtain ⟨_,e,_⟩:=u;exact G8 e
  refine wB (l:=l) (items:=items) (by simpa using D) (by rw[HC];exact Nat.ne_of_gt (Nat.lt_succ_self _)) (Hk lt) (by rw[HC];exact Hk (Nat.lt_succ_of_lt lt)) items.size 0 _ [] ns (by omega) #[_,Ha _ rfl,rfl,rfl] (p.push _) (by simpa using hi) #[_,(List.toArray []),0,_,[],GZ _ got,#[rfl,rfl,rfl],rfl,(λe he=>by simp at he),.nil,List.Perm.refl _,by decide,rfl,#[List.Pairwise.nil,rfl]] (by have:=hi.length;simp at this;simp;omega) λh' m S k=>?_
  wp_walk
  exact h h' m S λb o e=>k b o (λz=>by subst z;exact absurd (G8 e) (Nat.lt_irrefl _)) (λz=>by have a:=G8 e;rw[z,HC] at a;exact absurd a (Nat.not_lt.mpr (Nat.le_succ _))) (GZ _ (GZ _ e))
 | _=>exact n.elim
end
end L2
end
section
namespace L3
open PySem L2 PyProof.Rows
section
variable {K:FG} {G0:Gm} {W0:D->Sto->Prop} {X:Cx}
def ssQL:D->Option (D×Fl)
 | .lst xs=>(bd xs).bind λns=>if ns.length < 4000/\(ns.foldl met []).length < 64 then some (.lst ((srt (ns.foldl met [])).map .int),.u) else none
 | _=>none
abbrev yA:=c1 ssQL
def mf (X:Cx):List V->Hp->VK->Prop:=λxs H Q=>∃ (l:Addr) (ns:List Int),xs=[.ref l]/\SqL X.K H l (ns.map V.int)/\ns.length < 4000/\∀ p,H p=none->Q (.ref p) (upd H p (tw X p (ns.foldl met [])))
theorem xO (g:X.calm=true):CallR X (.type "set") (mf X):=by
 intro pins s Y H xs us Q I b h
 obtain ⟨l,ns,rfl,j,i,q⟩:=h
 obtain ⟨u,rfl,f⟩:=d6 b
 cases (show u=Value.ref l from f)
 obtain ⟨its,r,⟨o,n,e,c,_,d⟩,hz⟩:=I.list j
 have hlen:=r.length
 refine qm (I.ok.hd g) (show s.heap.IsList l its.toArray from #[o,e,c,n,d]) (by simpa using js r) (by simp at hlen ⊢;unfold scanBound;omega) λh' tk S k=>?_
 exact #[.ref s.heap.objs.size,_,I.laid (a:=s.heap.objs.size) (o:=tw X s.heap.objs.size (ns.foldl met [])) (t':=tk) k (Hi _) #[S,(let #[o,_,_,_,_,e,_]:=S;#[o,e]),λh1 h2 x k=>x.keep k],rfl,q _ (I.hok.fresh (Hi _))]
def Fg (X:Cx):List V->Hp->VK->Prop:=λxs H Q=>mf X xs H λv H1=>tU X [v] H1 Q
theorem GE:c6 X.K (Fg X) yA:=λys H Q p ra e q=>by
 obtain ⟨y,rfl,g⟩:=gq e
 clear e
 have l:=(ra y GX).rep
 obtain ⟨da,C,s,t⟩:=y
 dsimp only at l g
 cases da <;> try (exact nsE g)
 rename_i xs
 obtain ⟨k,B,x,rfl,A,v,rs⟩:=l.view
 obtain ⟨ns,h1,h2⟩:=Hx.mp g
 split at h2
 .rename_i d
  cases h2
  have o:=fG h1
  subst o
  have n:=rs.ints
  subst n
  refine #[k,ns,rfl,SqL.of v,d.1,λa j=>#[a,ns.foldl met [],rfl,aE,d.2,λb h r m p2=>?_]]
  .rw[dy (m.trans (iq _).symm) p2 (d7 _)]
   have f:H b=none:=by
    by_cases z:b=a
    .rw[z];exact j
    .rw[aq z] at h;exact h
   have w:=rJ (K:=X.K) (Ks:=cY [#[.lst (ns.map .int),.ref k,s,t]]) h (iz (K:=X.K) (H:=upd H a (tw X a (ns.foldl met []))) (srt (ns.foldl met []))) (λc i=>by cases i)
   refine q #[.lst ((srt (ns.foldl met [])).map .int),.ref b,[b],.u] _ #[(bf j).trans w.same,w.rep,λc i=>?_,λ_=>#[rfl,b,[],rfl,rfl,List.not_mem_nil,f]] rfl rfl
   cases Hy.mp i
   exact .inl f
 .exact nsE h2
theorem E6 {e:Expr} {m:EM} {x y:Str} {p b pos pos':Pos} (i:X.calm=true) (k:Gl X x) (hm:X.mg x=none) (n:bootBuiltins x=some (.builtin "sorted")) (a:Gl X y) (c:X.mg y=none) (d:bootBuiltins y=some (.type "set")) (j:RE X G0 W0 e m)
  (l:x≠"__name__") (hd:(x == ("__debug__":Str))=false) (f:y≠"__name__") (g:(y == ("__debug__":Str))=false) (s1:starEach [e] X.env=(false,eval e X.env)::starEach [] X.env)
  (s2:starEach [.Call (.Name y b) [e] [] pos'] X.env=(false,eval (.Call (.Name y b) [e] [] pos') X.env)::starEach [] X.env) :
  RE X G0 W0 (.Call (.Name x p) [.Call (.Name y b) [e] [] pos'] [] pos) (av yA (aa m ah)) :=
 #[PE.imp (iB (mW i) k hm n (f9 (ki (xO i) a c d (pD j tR s1).h f g s1 rfl) mq s2) l hd s2 rfl) λY H Q h=>(jB (r:=Fg X) GE h:tCB (Fg X) (tA X.K G0 W0 (aa m ah)) Y H Q)]
end
end L3
end
section
namespace Bn
open PySem L2 L3
abbrev Pd (p:Int×Int):L3.D:=.tup [.int p.1,.int p.2]
theorem bC {bnd:L3.D->Sto->Option Sto} {b:SM} (P:Nat->Sto->Prop):∀ {ds:List L3.D} {Z:Sto} {k:Nat},P k Z->(∀ i d Z,ds[i]?=some d->P (k+i) Z->∃ Z1 Z2,bnd d Z=some Z1/\(b Z1=some (.ok .nx,Z2)\/b Z1=some (.ok .ct,Z2))/\P (k+i+1) Z2)->∃ Z',dH bnd b ds Z=some (.ok .nx,Z')/\P (k+ds.length) Z'
 | [],Z,k,h0,_=>#[Z,rfl,h0]
 | d::ds,Z,k,h0,hs=>by
  obtain ⟨Z1,Z2,e1,a,h1⟩:=hs 0 d Z rfl h0
  obtain ⟨Z',c,h3⟩:=bC P (ds:=ds) (Z:=Z2) (k:=k+1) h1 λi d Z hd e=>by
   have:=hs (i+1) d Z (by simpa using hd) (by rwa [show k+(i+1)=k+1+i by lia])
   rwa [show k+(i+1)+1=k+1+i+1 by lia] at this
  refine #[Z',?_,by rw[Hu,show k+(ds.length+1)=k+1+ds.length by lia];exact h3]
  unfold dH
  simp only[e1]
  rcases a with a | a <;> simp only[af,a,c]
theorem qb {bnd:L3.D->Sto->Option Sto} {b:SM} (P:Nat->Sto->Prop) (E:Nat->L3.D->Fl->Sto->Prop):∀ {ds:List L3.D} {Z:Sto} {k:Nat},P k Z ->
  (∀ i d Z,ds[i]?=some d->P (k+i) Z->∃ Z1 Z2,bnd d Z=some Z1/\(((b Z1=some (.ok .nx,Z2)\/b Z1=some (.ok .ct,Z2))/\P (k+i+1) Z2)\/∃ r f,b Z1=some (.ok (.rt r f),Z2)/\E (k+i) r f Z2)) ->
  ∃ Z',(dH bnd b ds Z=some (.ok .nx,Z')/\P (k+ds.length) Z')\/∃ i r f,i < ds.length/\dH bnd b ds Z=some (.ok (.rt r f),Z')/\E (k+i) r f Z'
 | [],Z,k,h0,_=>#[Z,.inl #[rfl,h0]]
 | d::ds,Z,k,h0,hs=>by
  obtain ⟨Z1,Z2,e1,h1⟩:=hs 0 d Z rfl h0
  rcases h1 with ⟨a,h1⟩ | ⟨r,f,a,h1⟩
  .obtain ⟨Z',h3⟩:=qb P E (ds:=ds) (Z:=Z2) (k:=k+1) h1 λi d Z hd g=>by
    have:=hs (i+1) d Z (by simpa using hd) (by rwa [show k+(i+1)=k+1+i by lia])
    rwa [show k+(i+1)=k+1+i by lia] at this
   have e:dH bnd b (d::ds) Z=dH bnd b ds Z2:=by
    conv=>lhs;unfold dH
    simp only[e1]
    rcases a with a | a <;> simp only[af,a]
   rcases h3 with ⟨c,h3⟩ | ⟨i,r,f,hi,c,h3⟩
   .exact #[Z',.inl #[e.trans c,by rw[Hu,show k+(ds.length+1)=k+1+ds.length by lia];exact h3]]
   .exact #[Z',.inr #[i+1,r,f,by simp;lia,e.trans c,by rw[show k+(i+1)=k+1+i by lia];exact h3]]
  .refine #[Z2,.inr #[0,r,f,by simp,?_,h1]]
   unfold dH
   simp only[e1,af,a,aT]
theorem cI {lo:Int} {n i:Nat} {d:L3.D} (h:(aS lo n)[i]?=some d):i < n/\d=.int (lo+i):=by
 unfold aS at h
 grind
theorem bp {lo:Int} {n:Nat}:(aS lo n).length=n:=by unfold aS;simp
theorem Da {xs:List L3.D} {m:Nat} (h:m<=xs.length):qh xs none (some (m:Int))=xs.take m:=by
 have e1:HT.sIx xs.length 0 none=0:=rfl
 have a:HT.sIx xs.length xs.length (some (m:Int))=m:=by
  simp only[HT.sIx]
  split <;> lia
 unfold qh
 rw[e1,a]
 simp
theorem Small.sub {p q:Pt} (b:Small p) (a:Small q):(-18446744073709551616 < q.1 - p.1/\q.1 - p.1 < 18446744073709551616)/\(-18446744073709551616 < q.2 - p.2/\q.2 - p.2 < 18446744073709551616):=by
 obtain ⟨a1,a2,a3,a4⟩:=b
 obtain ⟨b1,b2,d,c⟩:=a
 exact #[#[by lia,by lia],#[by lia,by lia]]
theorem wl {c:M3 Bool} {b:SM} (P:Nat->Sto->Prop) (Q:Sto->Prop) {n:Nat} {Z:Sto} (h0:P n Z)
  (k:∀ n Z,P n Z->(∃ Z1,c Z=some (.ok false,Z1)/\Q Z1)\/∃ Z1 Z2 m,c Z=some (.ok true,Z1)/\(b Z1=some (.ok .nx,Z2)\/b Z1=some (.ok .ct,Z2))/\m < n/\P m Z2):∃ Z',iw c b Z=some (.ok .nx,Z')/\Q Z':=by
 have main:∀ n Z,P n Z->∃ Z',b6 c b (n+1) Z=some (.ok .nx,Z')/\Q Z':=by
  intro n
  induction n using Nat.strongRecOn with
  | _ n ih =>
   intro Z j
   rcases k n Z j with ⟨Z1,e1,d⟩ | ⟨Z1,Z2,m,e1,a,hm,i⟩
   .refine #[Z1,?_,d]
    unfold b6
    simp[af,e1,aT]
   .obtain ⟨Z',g,d⟩:=ih m hm Z2 i
    refine #[Z',?_,d]
    have f:=kb (show m+1<=n by lia) g
    unfold b6
    rcases a with a | a <;> simp[af,e1,a,f]
 obtain ⟨Z',e,d⟩:=main n Z h0
 refine #[Z',?_,d]
 unfold iw
 have h:∃ n r,b6 c b n Z=some r:=#[_,_,e]
 rw[dif_pos h]
 have a:=Classical.choose_spec (Classical.choose_spec h)
 have g:=kb (Nat.le_max_left (n+1) (Classical.choose h)) e
 have f:=kb (Nat.le_max_right (n+1) (Classical.choose h)) a
 rw[g] at f
 exact f.symm
theorem ao {a b:SM} {Z Z1:Sto} {r:Option (Except L3.D Flw×Sto)} (h1:a Z=some (.ok .nx,Z1)) (h2:b Z1=r):aC a b Z=r:=by
 simp only[aC,af,h1]
 exact h2
theorem iQ {bnd:L3.D->Sto->Option Sto} {c:M3 Bool} {elt:EM} (P:Sto->Prop) (g:L3.D->Bool) (f:L3.D->L3.D):∀ {ds:List L3.D} {O:Sto},P O ->
  (∀ d∈ds,∀ O,P O->∃ O1 O2,bnd d O=some O1/\c O1=some (.ok (g d),O2)/\(g d=false->P O2)/\(g d=true->∃ r O3 p O4,elt O2=some (.ok r,O3)/\dO r O3=some (.ok p,O4)/\p.1=f d/\P O4)) ->
  ∃ O',b5 bnd c elt ds O=some (.ok ((ds.filter g).map f),O')/\P O'
 | [],O,h0,_=>#[O,rfl,h0]
 | d::ds,O,h0,hs=>by
  obtain ⟨O1,O2,e1,b,hf,m⟩:=hs d GX O h0
  cases a:g d with
  | false =>
   obtain ⟨O',e,h⟩:=iQ P g f (ds:=ds) (O:=O2) (hf a) λd hd=>hs d (GY _ hd)
   refine #[O',?_,h]
   unfold b5
   rw[a] at b
   simp[e1,af,b,e,List.filter_cons,a]
  | true =>
   obtain ⟨r,O3,p,O4,l,k,j,i⟩:=m a
   obtain ⟨O',e,h⟩:=iQ P g f (ds:=ds) (O:=O4) i λd hd=>hs d (GY _ hd)
   refine #[O',?_,h]
   unfold b5
   rw[a] at b
   simp[e1,af,b,l,k,e,List.filter_cons,a,aT,j]
abbrev Tri:=Nat×Nat×Nat
def nz (i j m:Nat):List Tri:=(List.range m).map λk=>(i,j,j+1+k)
def kg (n i m:Nat):List Tri:=(List.range m).flatMap λj=>nz i (i+1+j) (n - (i+1+j+1))
def pA (n m:Nat):List Tri:=(List.range m).flatMap λi=>kg n i (n - (i+1))
def jc (n:Nat):List Tri:=pA n n
theorem rh (i j m:Nat):(nz i j m).length=m:=by simp[nz]
theorem og (n i m:Nat):kg n i (m+1)=kg n i m++nz i (i+1+m) (n - (i+1+m+1)):=by simp[kg,List.range_succ,List.flatMap_append]
theorem oh (n m:Nat):pA n (m+1)=pA n m++kg n m (n - (m+1)):=by simp[pA,List.range_succ,List.flatMap_append]
theorem z7 {i j m:Nat} {t:Tri} (h:t∈nz i j m):t.1=i/\t.2.1=j/\j < t.2.2/\t.2.2 < j+1+m:=by
 obtain ⟨k,a,rfl⟩:=Hg.mp h
 grind
theorem rT {n:Nat} {t:Tri} (h:t∈jc n):t.1 < t.2.1/\t.2.1 < t.2.2/\t.2.2 < n:=by
 obtain ⟨i,hi,h⟩:=HG.mp h
 obtain ⟨j,a,h⟩:=HG.mp h
 rw[List.mem_range] at hi a
 obtain ⟨h1,h2,h3,b⟩:=z7 h
 exact #[by lia,by lia,by lia]
theorem uZ (n i m:Nat):(kg n i m).length<=m * n:=by
 induction m with
 | zero=>simp[kg]
 | succ m ih=>rw[og,Ht,rh,Nat.succ_mul];lia
theorem B1 (n m:Nat):(pA n m).length<=m * (n * n):=by
 induction m with
 | zero=>simp[pA]
 | succ m ih =>
  rw[oh,Ht,Nat.succ_mul]
  have:=uZ n m (n - (m+1))
  have h2:(n - (m+1)) * n<=n * n:=Nat.mul_le_mul (by lia) (Hi _)
  lia
theorem tM {n m:Nat} (a:n<=25) (hm:m<=25):(pA n m).length<=15625:=by
 have h1:=B1 n m
 have h2:n * n<=25 * 25:=Nat.mul_le_mul a a
 have h3:m * (n * n)<=25 * (25 * 25):=Nat.mul_le_mul hm h2
 lia
theorem tL {n i m:Nat} (a:n<=25) (hm:m<=25):(kg n i m).length<=625:=by
 have h1:=uZ n i m
 have h2:m * n<=25 * 25:=Nat.mul_le_mul hm a
 lia
abbrev Td (t:Tri):L3.D:=.tup [.int t.1,.int t.2.1,.int t.2.2]
abbrev Shd (ps:List Pt):L3.D:=.tup (ps.map Pd)
theorem ba {im:IM} {bnd:L3.D->Sto->Option Sto} {c:M3 Bool} {elt:EM} {ix:List (Option Nat)} {Z Z1 Z2 O:Sto} {rs:List R3} {ds out:List L3.D} (h1:im Z=some (.ok (rs,ds),Z1)) (h2:b5 bnd c elt ds (uA ix (aF cV (us Z1 (pls rs)) Z1))=some (.ok out,O)) (h3:ds.length < 16777216) (a:uncap ix O (aF cV (us Z1 (pls rs)) Z1)=some Z2) :
  bz im bnd c elt ix Z=some (.ok (.val (.lst out) .u),aF ie (us Z1 (pls rs)) Z2):=by
 simp[bz,af,h1,h2,h3,a]
theorem sT:∀ {ds:List L3.D},(∀ d∈ds,d=.bl true)->eZ ds=some (List.replicate ds.length true)
 | [],_=>rfl
 | d::ds,h=>by
  have h1:=h d GX
  subst h1
  have h2:=sT λd hd=>h d (GY _ hd)
  simp[eZ,h2,List.replicate_succ]
theorem o4 {ds:List L3.D} (h:∀ d∈ds,d=.bl true):GR (.lst ds)=#v[.bl true]:=by
 simp[GR,sT h]
theorem wc {xs:List L3.D} {i:Nat} {d:L3.D} (h:xs[i]?=some d):L2.atI xs (i:Int)=some d:=by
 obtain ⟨h1,h2⟩:=Hc.mp h
 simp[L2.atI,ixN,h1,h2]
theorem xW {ps:List Pt} {i:Nat} {p:Pt} (h:ps[i]?=some p):L2.atI (ps.map Pd) (i:Int)=some (Pd p):=wc (by simp[h])
theorem Av {f:List L3.D->Option (List L3.D)} {ms:M3 (List R3)} {Z Z1 Z2:Sto} {rs:List R3} {ds xs:List L3.D} (h1:ms Z=some (.ok rs,Z1)) (h2:c8 rs Z1=some (.ok ds,Z2)) (h3:f ds=some xs):aP f ms Z=some (.ok ([],xs),Z2):=by
 simp[aP,af,h1,h2,h3,bc]
theorem i8 {a b:Int} (e:-1000<=a/\a<=1000) (f:-1000<=b/\b<=1000) {n:Nat} (d:(b - a).toNat=n):fh [.int a,.int b]=some (aS a n):=by
 have lm:cy a=true:=Hn (by lia)
 have c:cy b=true:=Hn (by lia)
 show (if (cy a && cy b)=true then some (aS a (b - a).toNat) else none)=_
 rw[lm,c,d]
 exact if_pos rfl
theorem cJ {b:Int} (d:-1000<=b/\b<=1000) {n:Nat} (c:b.toNat=n):bV [.int b]=some (aS 0 n):=by
 have a:cy b=true:=Hn (by lia)
 show (if (cy b)=true then some (aS 0 b.toNat) else none)=_
 rw[a,c]
 exact if_pos rfl
section
variable {α:Type} {Z Z1 Z2 Z3:Sto} {ma mb mc m:EM} {ms:M3 (List R3)} {ra rb r:R3} {rs:List R3} {da db d:L3.D} {ds:List L3.D} {fl:Fl} {i n np:Nat} {sa sb:SM} {c cc:M3 Bool} {b b2:Bool} {x:Option (Except L3.D Flw×Sto)} {y:Option (Except L3.D R3×Sto)}
theorem ay {p:L3.D×Fl} (h:(Z[i]?).join=some p):ac i Z=some (.ok (.pl i),Z):=by simp[ac,h]
theorem i_c:mC d Z=some (.ok (.val d .z),Z):=rfl
theorem bW {f:L3.D->L3.D->Option (L3.D×Fl)} (h1:ma Z=some (.ok ra,Z1)) (h2:mb Z1=some (.ok rb,Z2)) (h3:der ra Z2=some (.ok da,Z2)) (b:der rb Z2=some (.ok db,Z2)) (a:f da db=some (d,fl)):aj f ma mb Z=some (.ok (.val d fl),Z2):=by
 simp only[aj,af,h1,h2,h3,b,bc,a,Hw]
theorem C2 {f:L3.D->Option (L3.D×Fl)} (h1:ma Z=some (.ok ra,Z1)) (h3:der ra Z1=some (.ok da,Z1)) (a:f da=some (d,fl)):mUn f ma Z=some (.ok (.val d fl),Z1):=by
 simp only[mUn,af,h1,h3,bc,a,Hw]
theorem bK {f:List L3.D->Option (L3.D×Fl)} (h1:ms Z=some (.ok rs,Z1)) (h3:c8 rs Z1=some (.ok ds,Z1)) (a:f ds=some (d,fl)):av f ms Z=some (.ok (.val d fl),Z1):=by
 simp only[av,af,h1,h3,bc,a,Hw]
theorem aG:ah Z=some (.ok [],Z):=rfl
theorem ak (h1:m Z=some (.ok r,Z1)) (h2:ms Z1=some (.ok rs,Z2)):aa m ms Z=some (.ok (r::rs),Z2):=by
 simp only[aa,af,h1,h2,aT]
theorem p8 {mk:List L3.D->L3.D} {f:Fl} (h1:ms Z=some (.ok rs,Z1)) (h2:gives rs Z1=some (.ok ds,Z2)) (h3:ds.length<=16777216):se mk f ms Z=some (.ok (.val (mk ds) f),Z2):=by
 simp only[se,af,h1,h2,bc,h3,if_true,Hw]
theorem aw {F:Fn} {ps qs:List (L3.D×Fl)} (a:F ps=some (.ok (d,fl),qs)) (h1:ms Z=some (.ok rs,Z1)) (h2:prs (frz (eE rs) Z1) rs=some ps) (h3:qs.length=ps.length) (b:back rs ps qs (frz (eE rs) Z1)=Z2):au F ms Z=some (.ok (.val d fl),Z2):=by
 simp only[au,af,h1,h2,a,h3,if_true,b]
theorem sk {p:L3.D×Fl} (h1:m Z=some (.ok r,Z1)) (h2:dO r Z1=some (.ok p,Z2)) (h3:i < Z2.length) (a:Z2.set i (some p)=Z3):aZ i m Z=some (.ok .nx,Z3):=by
 simp only[aZ,af,h1,h2,h3,if_true,a]
theorem i_asg {bnd:L3.D->Sto->Option Sto} {p:L3.D×Fl} (h1:m Z=some (.ok r,Z1)) (h2:dO r Z1=some (.ok p,Z2)) (h3:bnd p.1 Z2=some Z3):nv bnd m Z=some (.ok .nx,Z3):=by
 simp only[nv,af,h1,h2,h3,Hw]
theorem i_par {a b:L3.D} {j:Nat} (h1:ms Z=some (.ok rs,Z1)) (h2:gives rs Z1=some (.ok [a,b],Z2)) (hi:i < Z2.length) (c:j < Z2.length) (h3:(Z2.set i #v[a]).set j #v[b]=Z3):yP i j ms Z=some (.ok .nx,Z3):=by
 simp only[yP,af,h1,h2,hi,c,and_self,if_true,h3]
theorem fA (h1:m Z=some (.ok r,Z1)):cH m Z=some (.ok .nx,Z1):=by
 simp only[cH,af,h1,aT]
def retF (np:Nat) (r:R3):SM:=aR np (aT r)
theorem dE (h1:m Z=some (.ok r,Z1)) (h2:retF np r Z1=x):aR np m Z=x:=by
 rw[<- h2]
 unfold retF
 simp only[aR,af,h1,aT]
theorem l4 (h1:sa Z=some (.ok (.rt d fl),Z1)):aC sa sb Z=some (.ok (.rt d fl),Z1):=by
 simp only[aC,af,h1,aT]
theorem gj (h1:m Z=some (.ok r,Z1)) (h2:der r Z1=some (.ok (.bl b),Z1)):cB m Z=some (.ok b,Z1):=by
 simp only[cB,af,h1,h2,bc,asB,Hw]
theorem jt (h1:c Z=some (.ok b,Z1)):fJ c Z=some (.ok (!b),Z1):=by
 simp only[fJ,af,h1,aT]
theorem lg (h1:c Z=some (.ok b,Z1)) (a:b=true) (h2:sa Z1=x):sIf c sa sb Z=x:=by
 subst a;simp only[sIf,af,h1,if_true];exact h2
theorem dF (h1:c Z=some (.ok b,Z1)) (a:b=false) (h2:sb Z1=x):sIf c sa sb Z=x:=by
 subst a;simp only[sIf,af,h1,Hz,if_false];exact h2
theorem lf (h1:c Z=some (.ok b,Z1)) (a:b=false) (h2:cc Z1=some (.ok b2,Z2)):cOr c cc Z=some (.ok b2,Z2):=by
 subst a;simp only[cOr,af,h1,Hz,if_false];exact h2
theorem vH (h1:ma Z=some (.ok r,Z1)) (h2:der r Z1=some (.ok (.bl b),Z1)) (a:b=true) (h3:mb Z1=y):jq ma mb Z=y:=by
 subst a;simp only[jq,af,h1,h2,bc,asB,Hw,if_true];exact h3
theorem Go (h1:c Z=some (.ok b,Z1)) (a:b=true) (h2:ma Z1=y):mIf c ma mb Z=y:=by
 subst a;simp only[mIf,af,h1,if_true];exact h2
theorem Gp (h1:c Z=some (.ok b,Z1)) (a:b=false) (h2:mb Z1=y):mIf c ma mb Z=y:=by
 subst a;simp only[mIf,af,h1,Hz,if_false];exact h2
theorem Az {ok:L3.D->Bool} {f:L3.D->List L3.D->Option (L3.D×L3.D)} {c a b:L3.D} (h0:(Z[i]?).join=some (d,fl)) (h:ok d=true) (h1:ms Z=some (.ok rs,Z1)) (h2:gives rs Z1=some (.ok ds,Z2)) (h3:(Z2[i]?).join=some (c,.u)) (g:f c ds=some (a,b)) (e:Z2.set i (some (a,.u))=Z3):sg ok f i ms Z=some (.ok (.val b .z),Z3):=by
 simp only[sg,af,ay h0,chk,h0,h,if_true,h1,h2,h3,g,e]
theorem vG {f:L3.D->List L3.D->Option (L3.D×L3.D)} {b a c:L3.D} (h1:mb Z=some (.ok rb,Z1)) (h0:(Z1[i]?).join=some (d,fl)) (h2:ma Z1=some (.ok ra,Z2)) (h3:gives [ra,rb] Z2=some (.ok ds,Z3)) (e:(Z3[i]?).join=some (b,.u)) (g:f b ds=some (a,c)):lu f i ma mb Z=some (.ok .nx,Z3.set i (some (a,.u))):=by
 simp only[lu,af,h1,ay h0,h2,h3,e,g]
theorem aU {mask:List Bool} {ps qs:List (L3.D×Fl)} (h1:ps.length=mask.length) (h0:eD n (List.zipWith lz mask ps)=Z) (h2:sa Z=some (.ok (.rt d fl),Z1)) (h3:dM Z1 0 (List.zipWith lz mask ps)=some qs):fnM mask n sa ps=some (.ok (d,fl),qs):=by
 subst h0;simp only[fnM,h1,if_true,fn0,h2,h3,Hw]
theorem GT {mask:List Bool} {ps qs:List (L3.D×Fl)} (h1:ps.length=mask.length) (h0:eD n (List.zipWith lz mask ps)=Z) (h2:sa Z=some (.ok .nx,Z1)) (h3:dM Z1 0 (List.zipWith lz mask ps)=some qs):fnM mask n sa ps=some (.ok (.non,.z),qs):=by
 subst h0;simp only[fnM,h1,if_true,fn0,h2,h3,Hw]
theorem gz {i j:Int} (h:-18446744073709551616 < i/\i < 18446744073709551616):fm (.int i) (.int j)=#v[.int (i * j)]:=by
 simp[dn,h]
theorem zZ {i j:Int} (h:-18446744073709551616 < j/\j < 18446744073709551616):fm (.int i) (.int j)=#v[.int (i * j)]:=by
 simp[dn,h]
theorem dQ {im:IM} {bnd:L3.D->Sto->Option Sto} {o:Except L3.D Flw} (h1:im Z=some (.ok (rs,ds),Z1)) (a:us Z1 (pls rs)=[]) (h2:dH bnd sb ds Z1=some (o,Z2)):cj im bnd sb Z=some (o,Z2):=by
 have b:∀ f Z,aF f [] Z=Z:=λ_ _=>rfl
 simp only[cj,af,h1,a,b,h2,Hw]
theorem p7 (h1:m Z=some (.ok r,Z1)) (h2:der r Z1=some (.ok d,Z1)) (h3:uX d=some ds):b9 m Z=some (.ok ([r],ds),Z1):=by
 simp only[b9,af,h1,h2,bc,h3,Hw]
theorem cb {f:List L3.D->Option (List L3.D)} {xs:List L3.D} (h1:ms Z=some (.ok rs,Z1)) (h2:c8 rs Z1=some (.ok ds,Z1)) (h3:f ds=some xs):aP f ms Z=some (.ok ([],xs),Z1):=Av h1 h2 h3
end
theorem bx {α:Type} {bnd:L3.D->Sto->Option Sto} {c:M3 Bool} {elt:EM} (P:Sto->Prop) (D:α->L3.D) (g:α->Bool) (f:α->L3.D):∀ {xs:List α} {O:Sto},P O ->
  (∀ x∈xs,∀ O,P O->∃ O1 O2,bnd (D x) O=some O1/\c O1=some (.ok (g x),O2)/\(g x=false->P O2)/\(g x=true->∃ r O3 p O4,elt O2=some (.ok r,O3)/\dO r O3=some (.ok p,O4)/\p.1=f x/\P O4)) ->
  ∃ O',b5 bnd c elt (xs.map D) O=some (.ok ((xs.filter g).map f),O')/\P O'
 | [],O,h0,_=>#[O,rfl,h0]
 | x::xs,O,h0,hs=>by
  obtain ⟨O1,O2,e1,b,hf,m⟩:=hs x GX O h0
  cases a:g x with
  | false =>
   obtain ⟨O',e,h⟩:=bx P D g f (xs:=xs) (O:=O2) (hf a) λd hd=>hs d (GY _ hd)
   refine #[O',?_,h]
   rw[Hm]
   unfold b5
   rw[a] at b
   simp[e1,af,b,e,List.filter_cons,a]
  | true =>
   obtain ⟨r,O3,p,O4,l,k,j,i⟩:=m a
   obtain ⟨O',e,h⟩:=bx P D g f (xs:=xs) (O:=O4) i λd hd=>hs d (GY _ hd)
   refine #[O',?_,h]
   rw[Hm]
   unfold b5
   rw[a] at b
   simp[e1,af,b,l,k,e,List.filter_cons,a,aT,j]
section
variable {α:Type} {P:List α->Prop} {us:List α}
theorem bnd0 (h:us.length=0) (f:P []):P us:=by
 cases us with
 | nil=>exact f
 | cons a us=>cases h
theorem Dg {n:Nat} (h:us.length=n+1) (f:∀ a r,r.length=n->P (a::r)):P us:=by
 cases us with
 | nil=>cases h
 | cons a us=>exact f a us (Nat.succ.inj h)
theorem bnd1 (h:us.length=1) (f:∀ a,P [a]):P us:=Dg h λa _ h=>bnd0 (P:=λr=>P (a::r)) h (f a)
theorem bnd2 (h:us.length=2) (f:∀ a b,P [a,b]):P us:=Dg h λa _ h=>bnd1 (P:=λr=>P (a::r)) h (f a)
theorem bnd3 (h:us.length=3) (f:∀ a b c,P [a,b,c]):P us:=Dg h λa _ h=>bnd2 (P:=λr=>P (a::r)) h (f a)
theorem bnd4 (h:us.length=4) (f:∀ a b c d,P [a,b,c,d]):P us:=Dg h λa _ h=>bnd3 (P:=λr=>P (a::r)) h (f a)
end
theorem hb1 {x:Str} {st:Stmt} {b:Str} (f:∀ (kV doc pm:Value) (an:Option Addr) (a ct a0:Value),bindArgs (PySem.W.fnOf x x (aK st) (aB st) (ad st) .none kV doc pm an a ct) #[[a0],[]]=pure ([b].zip [a0])) (kV doc pm:Value) (an:Option Addr) (a ct:Value) (us:List Value) (c:us.length=[b].length):bindArgs (PySem.W.fnOf x x (aK st) (aB st) (ad st) .none kV doc pm an a ct) #[us,[]]=pure ([b].zip us) :=
 bnd1 (P:=λus=>bindArgs (PySem.W.fnOf x x (aK st) (aB st) (ad st) .none kV doc pm an a ct) #[us,[]]=pure ([b].zip us)) c (f kV doc pm an a ct)
theorem hb2 {x:Str} {st:Stmt} {c b:Str} (f:∀ (kV doc pm:Value) (an:Option Addr) (a ct a0 a1:Value),bindArgs (PySem.W.fnOf x x (aK st) (aB st) (ad st) .none kV doc pm an a ct) #[[a0,a1],[]]=pure ([c,b].zip [a0,a1])) (kV doc pm:Value) (an:Option Addr) (a ct:Value) (us:List Value) (d:us.length=[c,b].length):bindArgs (PySem.W.fnOf x x (aK st) (aB st) (ad st) .none kV doc pm an a ct) #[us,[]]=pure ([c,b].zip us) :=
 bnd2 (P:=λus=>bindArgs (PySem.W.fnOf x x (aK st) (aB st) (ad st) .none kV doc pm an a ct) #[us,[]]=pure ([c,b].zip us)) d (f kV doc pm an a ct)
theorem hb3 {x:Str} {st:Stmt} {c b p2:Str} (f:∀ (kV doc pm:Value) (an:Option Addr) (a ct a0 a1 a2:Value),bindArgs (PySem.W.fnOf x x (aK st) (aB st) (ad st) .none kV doc pm an a ct) #[[a0,a1,a2],[]]=pure ([c,b,p2].zip [a0,a1,a2])) (kV doc pm:Value) (an:Option Addr) (a ct:Value) (us:List Value) (d:us.length=[c,b,p2].length):bindArgs (PySem.W.fnOf x x (aK st) (aB st) (ad st) .none kV doc pm an a ct) #[us,[]]=pure ([c,b,p2].zip us) :=
 bnd3 (P:=λus=>bindArgs (PySem.W.fnOf x x (aK st) (aB st) (ad st) .none kV doc pm an a ct) #[us,[]]=pure ([c,b,p2].zip us)) d (f kV doc pm an a ct)
theorem hb4 {x:Str} {st:Stmt} {c b p2 d:Str} (f:∀ (kV doc pm:Value) (an:Option Addr) (a ct a0 a1 a2 a3:Value),bindArgs (PySem.W.fnOf x x (aK st) (aB st) (ad st) .none kV doc pm an a ct) #[[a0,a1,a2,a3],[]]=pure ([c,b,p2,d].zip [a0,a1,a2,a3])) (kV doc pm:Value) (an:Option Addr) (a ct:Value) (us:List Value) (e:us.length=[c,b,p2,d].length):bindArgs (PySem.W.fnOf x x (aK st) (aB st) (ad st) .none kV doc pm an a ct) #[us,[]]=pure ([c,b,p2,d].zip us) :=
 bnd4 (P:=λus=>bindArgs (PySem.W.fnOf x x (aK st) (aB st) (ad st) .none kV doc pm an a ct) #[us,[]]=pure ([c,b,p2,d].zip us)) e (f kV doc pm an a ct)
end Bn
end
section
namespace L3
open PySem L2
def tgN:Expr->List Str
 | .Name x _=>[x]
 | .Tuple [.Name x _,.Name y _] _ _=>[x,y]
 | .Tuple [.Name x _,.Name y _,.Name z _] _ _=>[x,y,z]
 | _=>[]
def rD (tg:Expr) (N:List Str) (ix:List (Option Nat)):List Str:=tgN tg++ix.filterMap λo=>o.bind λi=>N[i]?
def ndB:List Str->Bool
 | []=>true
 | x::xs=>!(xs.any λy=>decide (y=x)) && ndB xs
theorem rL:∀ {xs:List Str},ndB xs=true->xs.Nodup
 | [],_=>.nil
 | x::xs,h=>by
  simp only[ndB,Bool.and_eq_true,Bool.not_eq_true',List.any_eq_false,decide_eq_true_eq] at h
  exact List.nodup_cons.mpr #[λm=>h.1 x m rfl,rL h.2]
section
variable {X:Cx} {G0:Gm} {W0:D->Sto->Prop} {pos:Pos}
theorem rp (f:X.calm=true) (hi:RI X G0 W0 tg iter im) (d:∀ s H C fp,PTs (aM X (rD tg X.N ix) scope s H C fp) ifs (tT X.K (bh ix) noX cm)) (he:∀ s H C fp,RE (aM X (rD tg X.N ix) scope s H C fp) (bh ix) noX elt em) (e:iP scope X.N X.env.scope (rD tg X.N ix) ix=true) (c:Inj ix) (g:∀ x,foldedSetIterable iter X.env x=pure x) (b:∃ a,Bnd X.K (bh ix).pr a bnd/\∀ s H C fp,PG (aM X (rD tg X.N ix) scope s H C fp) tg a):RE X G0 W0 (.ListComp elt [#[tg,iter,ifs,0]] scope pos) (bz im bnd cm em ix) :=
 B9 _ ix f hi d he e c g b
theorem rg {i:Nat} (k:X.N.Nodup) (j:X.N[i]?=some y) (f:Loc X.env.scope y) (l:X.calm=true) (hi:RI X G0 W0 tg iter im) (g:∀ s H C fp,PTs (aM X (rD tg X.N ix) scope s H C fp) ifs (tT X.K (bh ix) noX cm)) (he:∀ s H C fp,RE (aM X (rD tg X.N ix) scope s H C fp) (bh ix) noX elt em) (e:iP scope X.N X.env.scope (rD tg X.N ix) ix=true) (d:Inj ix) (c:swapsWith (.ListComp elt [#[tg,iter,ifs,0]] scope pos) (some (.Name y py)) spos.line X.env=pure true) (hf:X.fn y=true\/X.env.scope.names.lookup y=some .local) (m:∀ x,foldedSetIterable iter X.env x=pure x) (h:G0.pr i=false) (b:∃ a,Bnd X.K (bh ix).pr a bnd/\∀ s H C fp,PG (aM X (rD tg X.N ix) scope s H C fp) tg a):RS X G0 W0 (.Assign [.Name y py] (.ListComp elt [#[tg,iter,ifs,0]] scope pos) spos) (aZ i (bz im bnd cm em ix)) :=
 tK k j f _ ix l hi g he e d c hf m h b
theorem B8 (e:Gl X tn) (i:X.mg tn=some (.ref C)) (j:IsX X.K (.ref C) cs) (f:(tn == ("__debug__":Str))=false) (g:Gl X "isinstance") (hm:X.mg "isinstance"=none) (k:RE X G0 W0 a ma) (c:starEach [a,.Name tn pT] X.env=(false,eval a X.env)::starEach [.Name tn pT] X.env) (d:starEach [.Name tn pT] X.env=(false,eval (.Name tn pT) X.env)::starEach [] X.env) (b:(backTo pos (starEach [.Name tn pT] X.env)).any (·.1)=false):RE X G0 W0 (.Call (.Name "isinstance" p) [a,.Name tn pT] [] pos) (mUn (jU cs) ma) :=
 ve (t:=V.ref C) (λ_ h=>h) j g hm (vq e i rfl f) k c d b
end
section
variable {X:Cx} {G0:Gm} {W0:D->Sto->Prop} {p q r:Pos} {m:EM} {e e1:Expr} {es:List Expr} {t:M3 Bool} {sm:SM}
theorem gN {i:Nat} (h:RE X G0 W0 (.Name x p) (ac i)):RE X G0 W0 (.Name x p) (ac i):=h
theorem gG (h:RE X G0 W0 (.Name x p) (mC d)):RE X G0 W0 (.Name x p) (mC d):=h
theorem gH (h:RE X G0 W0 (.Name x p) m):RE X G0 W0 (.Name x p) m:=h
theorem gK {k:Nat} (h:RE X G0 W0 (.Constant c k p) m):RE X G0 W0 (.Constant c k p) m:=h
theorem gB (op:Operator) (h:RE X G0 W0 (.BinOp e op e1 p) m):RE X G0 W0 (.BinOp e op e1 p) m:=h
theorem gU (op:UnaryOp) (h:RE X G0 W0 (.UnaryOp op e p) m):RE X G0 W0 (.UnaryOp op e p) m:=h
theorem gP (os:List CmpOp) (h:RE X G0 W0 (.Compare e os es p) m):RE X G0 W0 (.Compare e os es p) m:=h
theorem gO (h:RE X G0 W0 (.BoolOp op es p) m):RE X G0 W0 (.BoolOp op es p) m:=h
theorem gS (h:RE X G0 W0 (.Subscript e e1 p) m):RE X G0 W0 (.Subscript e e1 p) m:=h
theorem gL (h:RE X G0 W0 (.Subscript e (.Slice a b c p) q) m):RE X G0 W0 (.Subscript e (.Slice a b c p) q) m:=h
theorem gI (x:Str) (h:RE X G0 W0 (.Call (.Name s p) [e,.Name x q] [] r) m):RE X G0 W0 (.Call (.Name s p) [e,.Name x q] [] r) m:=h
theorem gC (x:Str) (h:RE X G0 W0 (.Call (.Name x p) es ks q) m):RE X G0 W0 (.Call (.Name x p) es ks q) m:=h
theorem gD (h:RE X G0 W0 (.Call (.Name x p) es ks q) m):RE X G0 W0 (.Call (.Name x p) es ks q) m:=h
theorem gM (x:Str) (h:RE X G0 W0 (.Call (.Attribute e x p) es ks q) m):RE X G0 W0 (.Call (.Attribute e x p) es ks q) m:=h
theorem gE (h:RE X G0 W0 e m):RE X G0 W0 e m:=h
theorem gA (h:RA X G0 W0 es ms):RA X G0 W0 es ms:=h
theorem gQ (os:List CmpOp) (h:RT X G0 W0 (.Compare e os es p) t):RT X G0 W0 (.Compare e os es p) t:=h
theorem gW (h:RT X G0 W0 (.BoolOp op es p) t):RT X G0 W0 (.BoolOp op es p) t:=h
theorem gV (h:RT X G0 W0 (.UnaryOp .Not e p) t):RT X G0 W0 (.UnaryOp .Not e p) t:=h
theorem gT (h:RT X G0 W0 e t):RT X G0 W0 e t:=h
theorem gR (h:RS X G0 W0 (.Return o p) sm):RS X G0 W0 (.Return o p) sm:=h
theorem gF (h:RS X G0 W0 (.If e ss tt p) sm):RS X G0 W0 (.If e ss tt p) sm:=h
theorem gX (h:RS X G0 W0 (.Assign [.Name x p] e q) sm):RS X G0 W0 (.Assign [.Name x p] e q) sm:=h
theorem gZ (h:RS X G0 W0 st sm):RS X G0 W0 st sm:=h
theorem gY (h:RSs X G0 W0 ss sm):RSs X G0 W0 ss sm:=h
end
end L3
end
section
namespace Bn
open PySem L2 L3
local macro_rules | `(tactic| infer_instance)=>`(tactic| first | with_reducible apply ay | with_reducible exact i_c | with_reducible apply bW | with_reducible apply C2 | with_reducible apply bK | with_reducible exact aG | with_reducible apply ak | with_reducible apply p8 | with_reducible apply sk | with_reducible apply i_asg | with_reducible apply fA | with_reducible apply dE | with_reducible exact i_nilS | with_reducible apply gj | with_reducible apply jt | with_reducible apply i_mNot | with_reducible apply i_sl | with_reducible exact i_pNone | with_reducible apply i_pSome | with_reducible apply Az | with_reducible apply vG | with_reducible apply p7 | with_reducible apply cb | with_reducible apply vH | with_reducible apply lf)
local macro_rules | `(tactic| eq_refl)=>`(tactic| first | exact rfl | exact Nat.le_of_ble_eq_true rfl)
local macro_rules | `(tactic| nofun) => `(tactic| repeat' (first | infer_instance | eq_refl))
local macro_rules | `(tactic| exists $es,*) => `(tactic| repeat' (first | infer_instance | (first $[| exact $es]*) | eq_refl))
local macro_rules | `(tactic| nomatch [$fs,*]) => `(tactic| repeat' (first | infer_instance | (first $[| with_reducible apply aw $fs]*) | eq_refl))
local macro_rules | `(tactic| nomatch [$fs,*], [$es,*]) => `(tactic| repeat' (first | infer_instance | (first $[| with_reducible apply aw $fs]*) | (first $[| exact $es]*) | eq_refl))
section
variable {X:Cx} {G0:Gm} {W0:L3.D->Sto->Prop} {pos:Pos}
end
section
variable {P:Program} {w:World} {K:FG} {mg:Str->Option Value} {base:Heap}
local macro_rules | `(tactic| ac_rfl) => `(tactic| exact ⟨rfl,rfl,rfl,by decide +kernel,rfl,by decide +kernel,by decide +kernel⟩)
set_option hygiene false
local macro_rules | `(tactic| and_intros)=>`(tactic| repeat' (first
 | ((with_reducible apply gA);first | refine pD ?_ ?_ rfl | refine tR)
 | ((with_reducible apply gN);first | refine pB _ rfl (Or.inl rfl) (by decide) (by decide) | refine pB _ rfl (Or.inr (Or.inl rfl)) (by decide) (by decide))
 | ((with_reducible apply gG);refine rj rfl (by assumption) (by decide))
 | ((with_reducible apply gK);first | refine Fc | refine E5 | refine re_bl | refine E9)
 | ((with_reducible apply gL);refine zj ?_ ?_ ?_)
 | ((with_reducible apply gS);refine re_ix (Gk hr.hu) FS ?_ ?_ (λ_ _=>rfl))
 | ((with_reducible apply gB .Add);refine kh Cy FV ?_ ?_)
 | ((with_reducible apply gB .Sub);refine kh FJ CD ?_ ?_)
 | ((with_reducible apply gB .Mult);refine kh FM CH ?_ ?_)
 | ((with_reducible apply gB .Mod);refine kh FN CI ?_ ?_)
 | ((with_reducible apply gB .FloorDiv);refine kh zP CL ?_ ?_)
 | ((with_reducible apply gB .Pow);refine kh FK CG ?_ ?_)
 | ((with_reducible apply gQ [.Eq]);refine md (zQ hr.units) zT ?_ ?_ (gb _))
 | ((with_reducible apply gQ [.NotEq]);refine md (FL hr.units) FT ?_ ?_ (gb _))
 | ((with_reducible apply gQ [.GtE]);refine md op_ge od_ge ?_ ?_ (gb _))
 | ((with_reducible apply gQ [.Lt]);refine md Dx Dz ?_ ?_ (gb _))
 | ((with_reducible apply gQ [.LtE,.LtE]);refine yY oB vw oB vw ?_ ?_ ?_ (by with_unfolding_all rfl))
 | ((with_reducible apply gQ [.Gt]);refine md Dy DA ?_ ?_ (gb _))
 | ((with_reducible apply gW);refine rt_w ?_)
 | ((with_reducible apply gV);refine ER ?_)
 | ((with_reducible apply gT);refine EQ ?_ (λ_=>rfl))
 | ((with_reducible apply gP [.Eq]);refine pC (zQ hr.units) zT ?_ ?_ (gb _))
 | ((with_reducible apply gP [.LtE,.LtE]);refine zm oB vw oB vw ?_ ?_ ?_ (λh1 h2 h3=>zL oB oB h1 h2 h3))
 | ((with_reducible apply gP [.Lt]);refine pC Dx Dz ?_ ?_ (gb _))
 | ((with_reducible apply gP [.Is]);refine pC FO FU ?_ ?_ (gb _))
 | ((with_reducible apply gP [.Gt]);refine pC Dy DA ?_ ?_ (gb _))
 | ((with_reducible apply gO);first | refine Fd ?_ ?_ | refine E7 ?_)
 | ((with_reducible apply gU .USub);refine re_un DW DX ?_)
 | ((with_reducible apply gU .Not);refine E8 ?_)
 | ((with_reducible apply gI "tuple");refine tQ mY rfl B.isinstance (lK (v:=V.ty "tuple") rfl B.tuple wb rfl (by decide) (by decide)) ?_ rfl rfl rfl)
 | ((with_reducible apply gI "int");refine tQ qr rfl B.isinstance (lK (v:=V.ty "int") rfl B.int b_int rfl (by decide) (by decide)) ?_ rfl rfl rfl)
 | ((with_reducible apply gI "bool");refine tQ nG rfl B.isinstance (lK (v:=V.ty "bool") rfl B.bool GN rfl (by decide) (by decide)) ?_ rfl rfl rfl)
 | ((with_reducible apply gI "ValueError");refine ve (t:=V.ty "ValueError") (λ_ h=>h) T_ValueError rfl B.isinstance (lK rfl Z_ValueError qx rfl (by decide) (by decide)) ?_ rfl rfl rfl)
 | ((with_reducible apply gC "len");refine dA qp GG rfl B.len b_len ?_ (by decide) (by decide) rfl rfl)
 | ((with_reducible apply gC "isinstance");refine B8 rfl (by assumption) (by assumption) (by decide) rfl B.isinstance ?_ rfl rfl rfl)
 | ((with_reducible apply gC "max");first | refine Fb (yT rfl) CJ rfl B.max DQ ?_ ?_ (by decide) (by decide) rfl rfl rfl rfl rfl rfl | refine dA (xS rfl) De rfl B.max DQ ?_ (by decide) (by decide) rfl rfl)
 | ((with_reducible apply gC "repr");refine dA (uD hr.gd hr.units) Dc rfl B.repr GL ?_ (by decide) (by decide) rfl rfl)
 | ((with_reducible apply gC "all");refine dA (A3 rfl) GH rfl B.all b_all ?_ (by decide) (by decide) rfl rfl)
 | ((with_reducible apply gC "tuple");refine om nF GD rfl B.tuple wb ?_ (by decide) (by decide) rfl rfl)
 | ((with_reducible apply gC "sorted");first | refine E6 rfl rfl B.sorted ng rfl B.set DP ?_ (by decide) (by decide) (by decide) (by decide) rfl rfl | refine re_ss rfl rfl B.sorted ng rfl B.set DP ?_ (by decide) (by decide) (by decide) (by decide) rfl rfl | refine dA (uB (Nat.lt_of_le_of_lt (Nat.add_le_add_left (by decide:2<=64) _) hr.units)) AZ rfl B.sorted ng ?_ (by decide) (by decide) rfl rfl)
 | ((with_reducible apply gC "abs");refine dA A4 GI rfl B.abs b_abs ?_ (by decide) (by decide) rfl rfl)
 | ((with_reducible apply gC "divmod");refine dA sK xI rfl B.divmod A8 ?_ (by decide) (by decide) rfl rfl)
 | ((with_reducible apply gC "list");refine om qo GF rfl B.list GM ?_ (by decide) (by decide) rfl rfl)
 | ((with_reducible apply gC "min");refine dA (xQ rfl) Dd rfl B.min b_min ?_ (by decide) (by decide) rfl rfl)
 | ((with_reducible apply gD);first | refine Ca (by assumption) (hr.mono (by first | decide | omega)) ?_ rfl (by decide) rfl rfl | refine zn (by assumption) (hr.mono (by first | decide | omega)) pa ?_ rfl (by decide) rfl rfl | refine zo (by assumption) (hr.mono (by first | decide | omega)) hD ?_ rfl (by decide) rfl rfl)
 | ((with_reducible apply gM "append");refine u9 (ok:=isL) PySem.F.plainAttrs_list PySem.F.slot_list_append PySem.F.type_list_append wY F2 p4 (mn rfl (Or.inl rfl) (by decide) (by decide)) ?_ rfl rfl rfl rfl rfl)
 | ((with_reducible apply gM "extend");refine u9 (ok:=isL) PySem.F.plainAttrs_list PySem.F.slot_list_extend PySem.F.type_list_extend wW F1 p4 (mn rfl (Or.inl rfl) (by decide) (by decide)) ?_ rfl rfl rfl rfl rfl)
 | ((with_reducible apply gM "count");refine vd (ok:=isL) PySem.F.plainAttrs_list PySem.F.slot_list_count PySem.F.type_list_count wX xJ p4 ?_ ?_ rfl rfl rfl rfl rfl)
 | ((with_reducible apply gM "index");refine vd (ok:=isL) PySem.F.plainAttrs_list PySem.F.slot_list_index PySem.F.type_list_index z4 A0 p4 ?_ ?_ rfl rfl rfl rfl rfl)
 | ((with_reducible apply gH);first | refine pB _ rfl (Or.inl rfl) (by decide) (by decide) | refine pB _ rfl (Or.inr (Or.inl rfl)) (by decide) (by decide) | refine rj rfl (by assumption) (by decide))
 | ((with_reducible apply gE);first | refine Fa ?_ | refine rp rfl ?_ (λs H C fp=>?_) (λs H C fp=>?_) (by rfl) (uo (by decide)) (λ_=>rfl) #[_,iT rfl,λs H C fp=>jN (rL rfl) rfl (Or.inl rfl) (Or.inr rfl)] | refine E4 ?_ | refine zk | refine rp rfl ?_ (λs H C fp=>?_) (λs H C fp=>?_) (by rfl) (uo (by decide)) (λ_=>rfl) #[_,iT rfl,λs H C fp=>jN (rL rfl) rfl (Or.inr rfl) (Or.inl rfl)] | refine re_if ?_ ?_ ?_)
 | ((with_reducible apply gY);first | refine BU ?_ | refine yZ ?_ ?_ | refine BV)
 | ((with_reducible apply gR);refine ET _ (λi hi=>by rw[hp] ;exact Cm (by simpa using hi)) ?_)
 | ((with_reducible apply gF);refine rs_if ?_ ?_ ?_)
 | ((with_reducible apply gX);first | refine rg nd rfl (Or.inl rfl) rfl ?_ (λs H C fp=>?_) (λs H C fp=>?_) (by rfl) (uo (by decide)) rfl (Or.inl rfl) (λ_=>rfl) (by rw[hp] ;rfl) #[_,vZ (kM (iT rfl) (kM (iT rfl) sR)),λs H C fp=>zH (n:=2) rfl (mm (jN (rL rfl) rfl (Or.inl rfl) (Or.inr rfl)) (mm (jN (rL rfl) rfl (Or.inl rfl) (Or.inr rfl)) vp rfl) rfl) rfl rfl] | refine y9 _ nd rfl (Or.inl rfl) ?_ rfl (Or.inl rfl) (by rw[hp] ;rfl) | refine y9 _ nd rfl (Or.inr rfl) ?_ rfl (Or.inl rfl) (by rw[hp] ;rfl))
 | ((with_reducible apply gZ);first | refine EV PassesOwn.never rfl ?_ ?_ ?_ (λ_=>rfl) | refine BY ?_ rfl | refine za (by assumption) (by assumption) mk rfl rfl (by decide) ?_ rfl | refine y8 (uW hr.hu) Aa (mn rfl (Or.inl rfl) (by decide) (by decide)) ?_ ?_ (λ_=>rfl) rfl rfl rfl | refine y8 (uW hr.hu) Aa (mn rfl (Or.inr (Or.inl rfl)) (by decide) (by decide)) ?_ ?_ (λ_=>rfl) rfl rfl rfl | refine EW ?_ ?_ rfl rfl rfl | refine zb | refine y7 PassesOwn.never ?_ ?_ | refine EU _ _ rfl nd rfl rfl (by decide) rfl rfl ?_ rfl rfl (by rw[hp] ;rfl) (by rw[hp] ;rfl) | refine BW _ _ rfl nd rfl rfl (by decide) rfl rfl ?_ rfl rfl (by rw[hp] ;rfl) (by rw[hp] ;rfl))
 | refine u6 _ nd rfl (Or.inl rfl) (Or.inl rfl) (by rw[hp] ;rfl)
 | refine EZ ?_
 | refine B5 rfl B.range ?_ rfl
 | refine zd
 | refine EG ?_
 | refine rw_or ?_ ?_
 | refine u6 _ nd rfl (Or.inr rfl) (Or.inl rfl) (by rw[hp] ;rfl)
 | refine zc ?_
 | refine B4 rfl B.range ?_ rfl rfl
 | refine zh ?_ ?_ rfl
 | refine B7
 | refine E3 rfl ?_ rfl rfl
 | refine B3 rfl B.range ?_ rfl rfl
 | refine B6 rfl B.enumerate ?_ rfl
 | refine B0
 | refine BZ ?_
 | refine ES rfl rfl rfl nd rfl (by decide) (by assumption) (by assumption) rfl (.inl rfl) (by rw[hp] ;rfl) (λE pn W pa=>?_) λae ob cls hD=>have hr:=hr.mark (some (.ref ae));?_
 | refine y6 ?_))
local macro_rules | `(tactic| specialize $q) => `(tactic| exact aV D $q rfl rfl (by first | exact hb1 λ_ _ _ _ _ _ _=>rfl | exact hb2 λ_ _ _ _ _ _ _ _=>rfl | exact hb3 λ_ _ _ _ _ _ _ _ _=>rfl | exact hb4 λ_ _ _ _ _ _ _ _ _ _=>rfl) λcdv A outer s H E f G hr hp=>have nd:=($q).nd;by and_intros)
set_option hygiene true
def ub:SM:=(aR 1 (jq (mUn (kA "int") (ac 0)) (sf (mUn (kA "bool") (ac 0)))))
def cr:Fn:=fnM [false] 1 ub
theorem sc_is_whole:FnScope ["thing"] ["thing"] (ad fT):=by ac_rfl
theorem qu (B:Bl mg) (D:Def K mg "is_whole" fT):aL P w K mg base "is_whole" 1 ["thing"] cr :=by specialize sc_is_whole
def ue:SM:=(aR 1 (jq (mUn (kA "tuple") (ac 0)) (jq (aj eqX (av cq (aa (ac 0) ah)) (mC (.int 2))) (jq (au cr (aa (aj aH (ac 0) (mC (.int 0))) ah)) (au cr (aa (aj aH (ac 0) (mC (.int 1))) ah))))))
def gw:Fn:=fnM [false] 1 ue
theorem sc_is_point:FnScope ["thing"] ["thing"] (ad fV):=by ac_rfl
theorem qw (B:Bl mg) (D:Def K mg "is_point" fV) (a:aL P w K mg base "is_whole" 1 ["thing"] cr):aL P w K mg base "is_point" 2 ["thing"] gw :=by specialize sc_is_point
def ko:SM:=(sIf (cOr (fJ (cB (au cr (aa (ac 0) ah)))) (fJ (cB (eA leI leI (ac 1) (ac 0) (ac 2))))) (pv "NoNumber" (aa (mC (.str "this is no whole number of those asked for")) ah)) dI)
def aW:Fn:=fnM [false,false,false] 3 ko
theorem sc_check_number:FnScope ["thing","least","most"] ["thing","least","most"] (ad cG):=by ac_rfl
theorem jw (B:Bl mg) (D:Def K mg "check_number" cG) (b:aL P w K mg base "is_whole" 1 ["thing"] cr) {a:Addr} (c:XName K "NoNumber" a) (d:ECls K mg "NoNumber" a):lF P w K mg base "check_number" 2 ["thing","least","most"] aW :=
 lO (k:=1) D sc_check_number rfl rfl (hb3 λ_ _ _ _ _ _ _ _ _=>rfl) λcdv A outer s H E f G W hr hp pa mk =>
  have nd:=sc_check_number.nd;by and_intros
def dJ:EM:=(au gw (aa (ac 0) ah))
def hV:EM:=(bz (b9 (ac 0)) (al 0) fI dJ [none])
def pP:SM:=(aR 1 (jq (eA leI leI (mC (.int 1)) (av cq (aa (ac 0) ah)) (mC (.int (24)))) (av Bb (aa hV ah))))
def dY:Fn:=fnM [false] 1 pP
theorem sc_are_points:FnScope ["things"] ["things"] (ad dS):=by ac_rfl
theorem m4 (B:Bl mg) (D:Def K mg "are_points" dS) (c:aL P w K mg base "is_point" 2 ["thing"] gw) {a:Tok} (b:mg "MOST_POINTS"=some (.int (24) a)):aL P w K mg base "are_points" 3 ["things"] dY :=by specialize sc_are_points
def cS:EM:=(aj ltI (aj aH (aj aH (ac 1) (ac 0)) (mC (.int 0))) (aj aH (aj aH (ac 1) (aj bX (ac 0) (mC (.int 1)))) (mC (.int 0))))
def eR:EM:=(bz (aP bV (aa (aj fB (av cq (aa (ac 0) ah)) (mC (.int 1))) ah)) (al 0) fI cS [none,some 0])
def iJ:SM:=(aR 1 (av Bb (aa eR ah)))
def cZ:Fn:=fnM [false] 1 iJ
theorem sc_has_rising_x:FnScope ["points"] ["points"] (ad cF):=by ac_rfl
theorem kJ (B:Bl mg) (D:Def K mg "has_rising_x" cF):aL P w K mg base "has_rising_x" 1 ["points"] cZ :=by specialize sc_has_rising_x
def F6:SM:=(aC (aZ 3 (aj fm (aj fB (aj aH (ac 1) (mC (.int 0))) (aj aH (ac 0) (mC (.int 0)))) (aj fB (aj aH (ac 2) (mC (.int 1))) (aj aH (ac 0) (mC (.int 1)))))) (aR 3 (aj fB (ac 3) (aj fm (aj fB (aj aH (ac 1) (mC (.int 1))) (aj aH (ac 0) (mC (.int 1)))) (aj fB (aj aH (ac 2) (mC (.int 0))) (aj aH (ac 0) (mC (.int 0))))))))
def kN:Fn:=fnM [false,false,false] 4 F6
theorem sc_bend:FnScope ["first","second","third","run"] ["first","second","third"] (ad ph):=by ac_rfl
theorem A6 (B:Bl mg) (D:Def K mg "bend" ph):aL P w K mg base "bend" 1 ["first","second","third"] kN :=by specialize sc_bend
def iD:EM:=(jd (aa (ac 1) (aa (ac 2) (aa (ac 0) ah))))
def kW:EM:=(bz (aP fh (aa (aj bX (ac 3) (mC (.int 1))) (aa (ac 0) ah))) (al 0) fI iD [none,some 2,some 3])
def iE:SM:=(cH (sg isL AI 1 (aa kW ah)))
def kX:SM:=(cj (aP fh (aa (aj bX (ac 2) (mC (.int 1))) (aa (ac 0) ah))) (al 3) iE)
def Ab:SM:=(aC (aZ 1 (fF ah)) (aC (cj (aP bV (aa (ac 0) ah)) (al 2) kX) (aR 1 (ac 1))))
def fK:Fn:=fnM [false] 4 Ab
theorem sc_threes:FnScope ["many","found","i","j"] ["many"] (ad jC):=by ac_rfl
theorem uE (B:Bl mg) (D:Def K mg "threes" jC):aL P w K mg base "threes" 1 ["many"] fK :=by specialize sc_threes
def cn:EM:=(aj aH (ac 1) (ac 0))
def eh:EM:=(bz (b9 (ac 1)) (al 0) fI cn [none,some 0])
def bI:SM:=(aC (aZ 2 (av Bs (aa eh ah))) (sIf (cB (aj eqX (au kN (aa (aj aH (ac 2) (mC (.int 0))) (aa (aj aH (ac 2) (mC (.int 1))) (aa (aj aH (ac 2) (mC (.int 2))) ah)))) (mC (.int 0)))) (aR 1 (ac 2)) dI))
def lw:SM:=(aC (cj (b9 (au fK (aa (av cq (aa (ac 0) ah)) ah))) (al 1) bI) (aR 1 (mC .non)))
def ci:Fn:=fnM [false] 3 lw
theorem sc_first_on_line:FnScope ["points","three","found"] ["points"] (ad ce):=by ac_rfl
theorem j3 (B:Bl mg) (D:Def K mg "first_on_line" ce) (b:aL P w K mg base "bend" 1 ["first","second","third"] kN) (a:aL P w K mg base "threes" 1 ["many"] fK):aL P w K mg base "first_on_line" 2 ["points"] ci :=by specialize sc_first_on_line
def uc:SM:=(aC (sIf (cOr (fJ (cB (mUn (kA "tuple") (ac 0)))) (fJ (cB (au dY (aa (ac 0) ah))))) (aR 1 (mC (.bl false))) dI) (aR 1 (jq (au cZ (aa (ac 0) ah)) (aj isN (au ci (aa (ac 0) ah)) (mC .non)))))
def dq:Fn:=fnM [false] 1 uc
theorem sc_is_sheet:FnScope ["thing"] ["thing"] (ad fU):=by ac_rfl
theorem qv (B:Bl mg) (D:Def K mg "is_sheet" fU) (c:aL P w K mg base "are_points" 3 ["things"] dY) (a:aL P w K mg base "first_on_line" 2 ["points"] ci) (b:aL P w K mg base "has_rising_x" 1 ["points"] cZ):aL P w K mg base "is_sheet" 4 ["thing"] dq :=by specialize sc_is_sheet
def nD:SM:=(sIf (fJ (cB (au dq (aa (ac 0) ah)))) yQ dI)
def dw:Fn:=fnM [false] 1 nD
theorem sc_check_sheet:FnScope ["thing"] ["thing"] (ad b7):=by ac_rfl
theorem lD (B:Bl mg) (D:Def K mg "check_sheet" b7) (a:aL P w K mg base "is_sheet" 4 ["thing"] dq):aL P w K mg base "check_sheet" 5 ["thing"] dw :=by specialize sc_check_sheet
def ly:SM:=(sIf (fJ (cB (au dq (aa (ac 0) ah)))) (pv "NoSheet" (aa (mC (.str "this is no sheet")) ah)) dI)
def bo:Fn:=fnM [false] 1 ly
theorem j4 (B:Bl mg) (D:Def K mg "check_sheet" b7) (b:aL P w K mg base "is_sheet" 4 ["thing"] dq) {a:Addr} (c:XName K "NoSheet" a) (d:ECls K mg "NoSheet" a):lF P w K mg base "check_sheet" 5 ["thing"] bo :=
 lO (k:=4) D sc_check_sheet rfl rfl (hb1 λ_ _ _ _ _ _ _=>rfl) λcdv A outer s H E f G W hr hp pa mk =>
  have nd:=sc_check_sheet.nd;by and_intros
def xh:SM:=(aR 2 (mIf (cB (aj gtI (au kN (aa (aj aH (ac 0) (aj aH (ac 1) (mC (.int 0)))) (aa (aj aH (ac 0) (aj aH (ac 1) (mC (.int 1)))) (aa (aj aH (ac 0) (aj aH (ac 1) (mC (.int 2)))) ah)))) (mC (.int 0)))) (mC (.int 1)) (mUn mz (mC (.int 1)))))
def d5:Fn:=fnM [false,false] 2 xh
theorem sc_turn_at:FnScope ["sheet","three"] ["sheet","three"] (ad iX):=by ac_rfl
theorem sM (B:Bl mg) (D:Def K mg "turn_at" iX) (a:aL P w K mg base "bend" 1 ["first","second","third"] kN):aL P w K mg base "turn_at" 2 ["sheet","three"] d5 :=by specialize sc_turn_at
def cT:SM:=(lu tz 1 (ac 2) (au d5 (aa (ac 0) (aa (ac 2) ah))))
def sd:SM:=(aC (cH (au dw (aa (ac 0) ah))) (aC (aZ 1 pQ) (aC (cj (b9 (au fK (aa (av cq (aa (ac 0) ah)) ah))) (al 2) cT) (aR 1 (ac 1)))))
def cA:Fn:=fnM [false] 3 sd
theorem sc_all_turns:FnScope ["sheet","turns","three"] ["sheet"] (ad eJ):=by ac_rfl
theorem nN (B:Bl mg) (D:Def K mg "all_turns" eJ) (a:aL P w K mg base "check_sheet" 5 ["thing"] dw) (c:aL P w K mg base "threes" 1 ["many"] fK) (b:aL P w K mg base "turn_at" 2 ["sheet","three"] d5):aL P w K mg base "all_turns" 6 ["sheet"] cA :=by specialize sc_all_turns
def cL:M3 Bool:=(cB (aj eqX (aj aH (ac 4) (jd (aa (ac 0) (aa (ac 2) (aa (ac 5) ah))))) (ac 3)))
def cK:EM:=(aj aH (ac 1) (jd (aa (ac 0) (aa (ac 2) ah))))
def eg:EM:=(bz (aP bV (aa (ac 4) ah)) (al 0) cL cK [none,some 3,some 4,some 1,some 2,some 5])
def cN:SM:=(lu tz 3 (jd (aa (ac 4) (aa (ac 5) ah))) (aj bX (mC (.int 1)) (aj pL eg (mC (.int 1)))))
def cM:SM:=(cj (aP fh (aa (aj bX (ac 4) (mC (.int 1))) (aa (av cq (aa (ac 0) ah)) ah))) (al 5) cN)
def rX:SM:=(aC (aZ 2 (au cA (aa (ac 0) ah))) (aC (aZ 3 pQ) (aC (cj (aP bV (aa (av cq (aa (ac 0) ah)) ah)) (al 4) cM) (aR 2 (ac 3)))))
def fc:Fn:=fnM [false,false] 6 rX
theorem sc_row_table:FnScope ["sheet","way","turns","most","i","j"] ["sheet","way"] (ad eG):=by ac_rfl
theorem nJ (B:Bl mg) (D:Def K mg "row_table" eG) (a:aL P w K mg base "all_turns" 6 ["sheet"] cA):aL P w K mg base "row_table" 7 ["sheet","way"] fc :=by specialize sc_row_table
def k7:SM:=(aR 1 (au fc (aa (ac 0) (aa (mC (.int (1))) ah))))
def ff:Fn:=fnM [false] 1 k7
theorem sc_cup_table:FnScope ["sheet"] ["sheet"] (ad eI):=by ac_rfl
theorem nM (B:Bl mg) (D:Def K mg "cup_table" eI) (a:aL P w K mg base "row_table" 7 ["sheet","way"] fc) {b:Tok} (c:mg "UP"=some (.int (1) b)):aL P w K mg base "cup_table" 8 ["sheet"] ff :=by specialize sc_cup_table
def bQ:M3 Bool:=(cB (aj eqX (aj aH (ac 4) (jd (aa (ac 5) (aa (ac 2) (aa (ac 0) ah))))) (ac 3)))
def bP:EM:=(aj aH (ac 1) (jd (aa (ac 2) (aa (ac 0) ah))))
def cO:EM:=(bz (aP fh (aa (aj bX (ac 5) (mC (.int 1))) (aa (ac 1) ah))) (al 0) bQ bP [none,some 3,some 5,some 2,some 0,some 4])
def bS:SM:=(lu tz 3 (jd (aa (ac 4) (aa (ac 5) ah))) (aj bX (mC (.int 1)) (aj pL cO (mC (.int 1)))))
def bR:SM:=(cj (aP fh (aa (aj bX (ac 4) (mC (.int 1))) (aa (ac 1) ah))) (al 5) bS)
def mE:SM:=(aC (aZ 3 pQ) (aC (cj (aP tN (aa (aj fB (ac 1) (mC (.int 2))) (aa (mUn mz (mC (.int 1))) (aa (mUn mz (mC (.int 1))) ah)))) (al 4) bR) (aR 3 (ac 3))))
def bY:Fn:=fnM [false,false,false] 6 mE
theorem sc_onward_table:FnScope ["turns","many","way","most","i","j"] ["turns","many","way"] (ad cE):=by ac_rfl
theorem kI (B:Bl mg) (D:Def K mg "onward_table" cE):aL P w K mg base "onward_table" 1 ["turns","many","way"] bY :=by specialize sc_onward_table
def cf:EM:=(aj aH (ac 1) (jd (aa (ac 0) (aa (ac 2) ah))))
def hJ:EM:=(bz (aP bV (aa (ac 0) ah)) (al 0) fI cf [none,some 2,some 0])
def cg:M3 Bool:=(cB (aj geI (aj pL hJ (mC (.int 0))) (ac 1)))
def hU:EM:=(ac 0)
def gJ:EM:=(bz (aP bV (aa (av cq (aa (ac 0) ah)) ah)) (al 0) cg hU [none,some 1,some 2])
def gh:SM:=(aC (cH (ib bo (aa (ac 0) ah))) (aC (cH (ib aW (aa (ac 1) (aa (mC (.int (2))) (aa (mC (.int (24))) ah))))) (aC (aZ 2 (au ff (aa (ac 0) ah))) (aR 2 gJ))))
def bL:Fn:=fnM [false,false] 3 gh
theorem sc_cup_ends:FnScope ["sheet","many","most"] ["sheet","many"] (ad fW):=by ac_rfl
theorem mZ (B:Bl mg) (D:Def K mg "cup_ends" fW) (c:lF P w K mg base "check_number" 2 ["thing","least","most"] aW) (d:lF P w K mg base "check_sheet" 5 ["thing"] bo) (h:aL P w K mg base "cup_table" 8 ["sheet"] ff) {a:Tok} (e:mg "LEAST_PLACES"=some (.int (2) a)) {b:Tok} (g:mg "MOST_POINTS"=some (.int (24) b)):lF P w K mg base "cup_ends" 9 ["sheet","many"] bL :=
 lO (k:=8) D sc_cup_ends rfl rfl (hb2 λ_ _ _ _ _ _ _ _=>rfl) λcdv A outer s H E f G W hr hp pa mk =>
  have nd:=sc_cup_ends.nd;by and_intros
def bT:EM:=(aj aH (ac 1) (jd (aa (ac 2) (aa (ac 0) ah))))
def eU:EM:=(bz (aP fh (aa (aj bX (ac 0) (mC (.int 1))) (aa (av cq (aa (ac 3) ah)) ah))) (al 0) fI bT [none,some 2,some 0])
def bU:M3 Bool:=(cB (aj geI (aj pL eU (mC (.int 0))) (ac 1)))
def eV:EM:=(ac 0)
def eS:EM:=(bz (aP bV (aa (av cq (aa (ac 0) ah)) ah)) (al 0) bU eV [none,some 1,some 2,some 0])
def en:SM:=(aC (cH (ib bo (aa (ac 0) ah))) (aC (cH (ib aW (aa (ac 1) (aa (mC (.int (2))) (aa (mC (.int (24))) ah))))) (aC (aZ 2 (au bY (aa (au cA (aa (ac 0) ah)) (aa (av cq (aa (ac 0) ah)) (aa (mC (.int (-1))) ah))))) (aR 2 eS))))
def bg:Fn:=fnM [false,false] 3 en
theorem sc_cap_starts:FnScope ["sheet","many","most"] ["sheet","many"] (ad dR):=by ac_rfl
theorem kK (B:Bl mg) (D:Def K mg "cap_starts" dR) (j:aL P w K mg base "all_turns" 6 ["sheet"] cA) (c:lF P w K mg base "check_number" 2 ["thing","least","most"] aW) (d:lF P w K mg base "check_sheet" 5 ["thing"] bo) (g:aL P w K mg base "onward_table" 1 ["turns","many","way"] bY) {h:Tok} (l:mg "DOWN"=some (.int (-1) h)) {a:Tok} (e:mg "LEAST_PLACES"=some (.int (2) a)) {b:Tok} (i:mg "MOST_POINTS"=some (.int (24) b)):lF P w K mg base "cap_starts" 7 ["sheet","many"] bg :=
 lO (k:=6) D sc_cap_starts rfl rfl (hb2 λ_ _ _ _ _ _ _ _=>rfl) λcdv A outer s H E f G W hr hp pa mk =>
  have nd:=sc_cap_starts.nd;by and_intros
def Ad:SM:=(aC (sIf (cB (aj ltI (ac 1) (av cq (aa (ac 0) ah)))) (aR 2 (aj aH (ac 0) (ac 1))) dI) (aR 2 (mC (.int 0))))
def j9:Fn:=fnM [false,false] 2 Ad
theorem sc_l_cell:FnScope ["_law_script","_law_k"] ["_law_script","_law_k"] (ad jH):=by ac_rfl
theorem uJ (B:Bl mg) (D:Def K mg "_law_cell" jH):aL P w K mg base "_law_cell" 1 ["_law_script","_law_k"] j9 :=by specialize sc_l_cell
def CQ:SM:=(aC (aZ 2 (fF (aa (mC (.int 48271)) (aa (mC (.int 69621)) (aa (mC (.int 16807)) (aa (mC (.int 39373)) (aa (mC (.int 30269)) (aa (mC (.int 40014)) (aa (mC (.int 40692)) (aa (mC (.int 50021)) (aa (mC (.int 61687)) (aa (mC (.int 71993)) (aa (mC (.int 83869)) (aa (mC (.int 95561)) (aa (mC (.int 30307)) ah))))))))))))))) (aC (aZ 3 (aj bX (aj bX (aj fm (aj bX (aj t8 (ac 0) (mC (.int 2147483647))) (mC (.int 12345))) (aj aH (ac 2) (aj t8 (ac 1) (mC (.int 13))))) (aj fm (mC (.int 977)) (ac 1))) (aj fm (mC (.int 7919)) (aj xD (ac 1) (mC (.int 13)))))) (aC (aZ 3 (aj t8 (ac 3) (mC (.int 1000000007)))) (aR 2 (aj xD (aj t8 (aj bX (aj fm (ac 3) (ac 3)) (aj fm (mC (.int 48271)) (ac 1))) (mC (.int 1000000007))) (mC (.int 7)))))))
def lT:Fn:=fnM [false,false] 4 CQ
theorem sc_l_mix:FnScope ["_law_cell_here","_law_k","_law_some","_law_stir"] ["_law_cell_here","_law_k"] (ad lG):=by ac_rfl
theorem xU (B:Bl mg) (D:Def K mg "_law_mix" lG):aL P w K mg base "_law_mix" 1 ["_law_cell_here","_law_k"] lT :=by specialize sc_l_mix
def jp:SM:=(aZ 3 (aj bX (aj fm (ac 3) (mC (.int 142857143))) (au lT (aa (ac 2) (aa (ac 4) ah)))))
def CS:SM:=(aC (aZ 2 (au j9 (aa (ac 0) (aa (ac 1) ah)))) (aC (sIf (cB (aj eqX (aj t8 (ac 2) (mC (.int 2))) (mC (.int 0)))) (aR 2 (fF (aa (aj xD (av absD (aa (ac 2) ah)) (mC (.int 2))) ah))) dI) (aC (aZ 3 (mC (.int 0))) (aC (cj (aP bV (aa (mC (.int 40)) ah)) (al 4) jp) (aR 2 (fF (aa (ac 3) ah)))))))
def lU:Fn:=fnM [false,false] 5 CS
theorem sc_l_box:FnScope ["_law_script","_law_k","_law_cell_here","_law_number","_law_j"] ["_law_script","_law_k"] (ad lH):=by ac_rfl
theorem xV (B:Bl mg) (D:Def K mg "_law_box" lH) (a:aL P w K mg base "_law_cell" 1 ["_law_script","_law_k"] j9) (b:aL P w K mg base "_law_mix" 1 ["_law_cell_here","_law_k"] lT):aL P w K mg base "_law_box" 2 ["_law_script","_law_k"] lU :=by specialize sc_l_box
def Ac:SM:=(aC (nv (j7 2 (cz (al 2) (cz (al 3) j8))) (av AQ (aa (aj aH (ac 0) (mC (.int 0))) (aa (ac 1) ah)))) (aC (lu tz 0 (mC (.int 0)) (ac 2)) (aR 2 (ac 3))))
def bE:Fn:=fnM [false,false] 4 Ac
theorem sc_l_take:FnScope ["_law_box_here","_law_many","_law_left","_law_digit"] ["_law_box_here","_law_many"] (ad jD):=by ac_rfl
theorem uF (B:Bl mg) (D:Def K mg "_law_take" jD):aL P w K mg base "_law_take" 1 ["_law_box_here","_law_many"] bE :=by specialize sc_l_take
def xi:SM:=(aR 1 (jq (mUn (kA "int") (ac 0)) (sf (mUn (kA "bool") (ac 0)))))
def jb:Fn:=fnM [false] 1 xi
theorem sc_l_whole:FnScope ["_law_thing"] ["_law_thing"] (ad iY):=by ac_rfl
theorem sN (B:Bl mg) (D:Def K mg "_law_whole" iY):aL P w K mg base "_law_whole" 1 ["_law_thing"] jb :=by specialize sc_l_whole
def Ae:SM:=(aC (nv (j7 2 (cz (al 3) (cz (al 4) j8))) (ac 0)) (aC (aZ 5 (aj fm (aj fB (aj aH (ac 1) (mC (.int 0))) (ac 3)) (aj fB (aj aH (ac 2) (mC (.int 1))) (ac 4)))) (aR 3 (aj fB (ac 5) (aj fm (aj fB (aj aH (ac 1) (mC (.int 1))) (ac 4)) (aj fB (aj aH (ac 2) (mC (.int 0))) (ac 3)))))))
def eF:Fn:=fnM [false,false,false] 6 Ae
theorem sc_l_bend:FnScope ["_law_one","_law_two","_law_three","_law_x","_law_y","_law_wide"] ["_law_one","_law_two","_law_three"] (ad jI):=by ac_rfl
theorem uK (B:Bl mg) (D:Def K mg "_law_bend" jI):aL P w K mg base "_law_bend" 1 ["_law_one","_law_two","_law_three"] eF :=by specialize sc_l_bend
def dD:SM:=(sIf (cB (aj eqX (au eF (aa (ac 4) (aa (ac 3) (aa (ac 1) ah)))) (mC (.int 0)))) (aR 2 (mC (.bl false))) dI)
def eQ:SM:=(cj (b9 (mSl slD (ac 0) oA (ot (ac 2)))) (al 4) dD)
def mI:SM:=(aC (cj (mK (aa (ac 0) ah)) (j7 2 (cz (al 2) (cz (al 3) j8))) eQ) (aR 2 (mC (.bl true))))
def fN:Fn:=fnM [false,false] 5 mI
theorem sc_l_free:FnScope ["_law_found","_law_point","_law_at","_law_one","_law_two"] ["_law_found","_law_point"] (ad jG):=by ac_rfl
theorem uI (B:Bl mg) (D:Def K mg "_law_free" jG) (a:aL P w K mg base "_law_bend" 1 ["_law_one","_law_two","_law_three"] eF):aL P w K mg base "_law_free" 2 ["_law_found","_law_point"] fN :=by specialize sc_l_free
def cP:M3 Bool:=(fJ (cB (au fN (aa (ac 5) (aa (jd (aa (ac 4) (aa (ac 9) ah))) ah)))))
def dW:SM:=(aZ 9 (aj bX (ac 9) (mC (.int 1))))
def cQ:SM:=(aC (aZ 4 (aj bX (aj bX (ac 4) (mC (.int 1))) (au bE (aa (ac 0) (aa (mC (.int 3)) ah))))) (aC (aZ 7 (aj fB (au bE (aa (ac 0) (aa (mC (.int 31)) ah))) (mC (.int 15)))) (aC (aZ 8 (fF (aa (ac 7) (aa (ac 7) (aa (aj bX (aj fm (ac 6) (ac 6)) (aj xD (ac 7) (mC (.int 9)))) (aa (aj fB (aj xD (ac 7) (mC (.int 9))) (aj fm (ac 6) (ac 6))) ah)))))) (aC (aZ 8 (aj bX (ac 8) (fF (aa (aj fm (aj bX (aj fm (ac 6) (ac 6)) (mC (.int 30))) (aj fB (mC (.int 1)) (aj fm (mC (.int 2)) (aj t8 (ac 6) (mC (.int 2)))))) (aa (aj fm (ac 7) (mC (.int 1000))) ah))))) (aC (aZ 9 (aj aH (ac 8) (ac 3))) (aC (iw cP dW) (cH (sg isL xY 5 (aa (jd (aa (ac 4) (aa (ac 9) ah))) ah)))))))))
def gf:EM:=(jd (aa (aj bX (aj fm (aj zF (mC (.int 10)) (mC (.int 12))) (ac 0)) (mC (.int 7))) (aa (aj fm (aj zF (mC (.int 10)) (mC (.int 9))) (ac 1)) ah)))
def dU:EM:=(bz (b9 (ac 5)) (j7 2 (cz (al 0) (cz (al 1) j8))) fI gf [none,none])
def oG:SM:=(aC (aZ 2 (aj bX (mC (.int 1)) (au bE (aa (ac 0) (aa (ac 1) ah))))) (aC (aZ 3 (au bE (aa (ac 0) (aa (mC (.int 6)) ah)))) (aC (aZ 4 (aj fB (au bE (aa (ac 0) (aa (mC (.int 9)) ah))) (mC (.int 4)))) (aC (aZ 5 (fF ah)) (aC (cj (aP bV (aa (ac 2) ah)) (al 6) cQ) (aC (sIf (cB (aj eqX (au bE (aa (ac 0) (aa (mC (.int 6)) ah))) (mC (.int 5)))) (aZ 5 dU) dI) (aR 2 (av Bs (aa (ac 5) ah)))))))))
def fL:Fn:=fnM [false,false] 10 oG
theorem sc_l_sheet:FnScope ["_law_box_here","_law_most","_law_many","_law_kind","_law_x","_law_found","_law_k","_law_given","_law_some","_law_y"] ["_law_box_here","_law_most"] (ad iZ):=by ac_rfl
theorem sO (B:Bl mg) (D:Def K mg "_law_sheet" iZ) (a:aL P w K mg base "_law_free" 2 ["_law_found","_law_point"] fN) (b:aL P w K mg base "_law_take" 1 ["_law_box_here","_law_many"] bE):aL P w K mg base "_law_sheet" 3 ["_law_box_here","_law_most"] fL :=by specialize sc_l_sheet
def F5:SM:=(aR 4 (aj gtI (au eF (aa (aj aH (ac 0) (ac 1)) (aa (aj aH (ac 0) (ac 2)) (aa (aj aH (ac 0) (ac 3)) ah)))) (mC (.int 0))))
def qA:Fn:=fnM [false,false,false,false] 4 F5
theorem sc_l_up:FnScope ["_law_sheet_here","_law_i","_law_j","_law_k"] ["_law_sheet_here","_law_i","_law_j","_law_k"] (ad pg):=by ac_rfl
theorem A5 (B:Bl mg) (D:Def K mg "_law_up" pg) (a:aL P w K mg base "_law_bend" 1 ["_law_one","_law_two","_law_three"] eF):aL P w K mg base "_law_up" 2 ["_law_sheet_here","_law_i","_law_j","_law_k"] qA :=by specialize sc_l_up
def fq:EM:=(au jb (aa (ac 0) ah))
def jh:EM:=(bz (b9 (ac 0)) (al 0) fI fq [none])
def ft:M3 Bool:=(cOr (cB (aj ltI (ac 0) (mC (.int 0)))) (cB (aj geI (ac 0) (ac 1))))
def ji:EM:=(ac 0)
def jg:EM:=(bz (b9 (ac 0)) (al 0) ft ji [none,some 1])
def mH:SM:=(aC (sIf (cOr (fJ (cB (mUn (kA "tuple") (ac 0)))) (fJ (cB (av Bb (aa jh ah))))) (aR 2 (mC (.bl false))) dI) (aC (sIf (cB (aj neX jg (fF ah))) (aR 2 (mC (.bl false))) dI) (aR 2 (aj eqX (av F7 (aa (ac 0) ah)) (av ssD (aa (ac 0) ah))))))
def gv:Fn:=fnM [false,false] 2 mH
theorem sc_l_rising:FnScope ["_law_thing","_law_many"] ["_law_thing","_law_many"] (ad fS):=by ac_rfl
theorem qt (B:Bl mg) (D:Def K mg "_law_rising" fS) (a:aL P w K mg base "_law_whole" 1 ["_law_thing"] jb):aL P w K mg base "_law_rising" 2 ["_law_thing","_law_many"] gv :=by specialize sc_l_rising
def cR:SM:=(sIf (cB (aj neX (au qA (aa (ac 0) (aa (aj aH (ac 1) (ac 3)) (aa (aj aH (ac 1) (aj bX (ac 3) (mC (.int 1)))) (aa (aj aH (ac 1) (aj bX (ac 3) (mC (.int 2)))) ah))))) (ac 2))) (aR 3 (mC (.bl false))) dI)
def km:SM:=(aC (sIf (cOr (fJ (cB (au gv (aa (ac 1) (aa (av cq (aa (ac 0) ah)) ah))))) (cB (aj ltI (av cq (aa (ac 1) ah)) (mC (.int 2))))) (aR 3 (mC (.bl false))) dI) (aC (cj (aP bV (aa (aj fB (av cq (aa (ac 1) ah)) (mC (.int 2))) ah)) (al 3) cR) (aR 3 (mC (.bl true)))))
def fO:Fn:=fnM [false,false,false] 4 km
theorem sc_l_bends:FnScope ["_law_sheet_here","_law_thing","_law_up_here","_law_at"] ["_law_sheet_here","_law_thing","_law_up_here"] (ad i7):=by ac_rfl
theorem sQ (B:Bl mg) (D:Def K mg "_law_bends" i7) (a:aL P w K mg base "_law_rising" 2 ["_law_thing","_law_many"] gv) (b:aL P w K mg base "_law_up" 2 ["_law_sheet_here","_law_i","_law_j","_law_k"] qA):aL P w K mg base "_law_bends" 3 ["_law_sheet_here","_law_thing","_law_up_here"] fO :=by specialize sc_l_bends
def pO:EM:=(aj bX (ac 0) (jd (aa (ac 1) ah)))
def pN:EM:=(bz (b9 (ac 1)) (al 0) fI pO [none,some 2])
def gg:SM:=(aZ 1 (aj bX (ac 1) pN))
def kj:SM:=(aC (aZ 1 (fF (aa (jd ah) ah))) (aC (cj (aP bV (aa (ac 0) ah)) (al 2) gg) (aR 1 (av lX (aa (ac 1) ah)))))
def bj:Fn:=fnM [false] 3 kj
theorem sc_l_parts:FnScope ["_law_many","_law_found","_law_place"] ["_law_many"] (ad i5):=by ac_rfl
theorem sP (B:Bl mg) (D:Def K mg "_law_parts" i5):aL P w K mg base "_law_parts" 1 ["_law_many"] bj :=by specialize sc_l_parts
def iI:M3 Bool:=(cB (au fO (aa (ac 1) (aa (ac 0) (aa (ac 2) ah)))))
def k6:EM:=(ac 0)
def kZ:EM:=(bz (b9 (au bj (aa (av cq (aa (ac 0) ah)) ah))) (al 0) iI k6 [none,some 0,some 1])
def r0:SM:=(aR 2 kZ)
def fM:Fn:=fnM [false,false] 2 r0
theorem sc_l_rows:FnScope ["_law_sheet_here","_law_up_here"] ["_law_sheet_here","_law_up_here"] (ad jF):=by ac_rfl
theorem uH (B:Bl mg) (D:Def K mg "_law_rows" jF) (b:aL P w K mg base "_law_bends" 3 ["_law_sheet_here","_law_thing","_law_up_here"] fO) (a:aL P w K mg base "_law_parts" 1 ["_law_many"] bj):aL P w K mg base "_law_rows" 4 ["_law_sheet_here","_law_up_here"] fM :=by specialize sc_l_rows
def r9:SM:=(aC (sIf (cOr (fJ (cB (mUn (jU [("NoNumber",true),("NoSheet",true)]) (ac 0)))) (fJ (cB (mUn (jU [("NoNumber",true),("NoSheet",true)]) (ac 0))))) (aR 1 (mC (.str "other"))) dI) (aC (aZ 1 (fF (aa (mUn (jU [("NoNumber",false),("NoSheet",true)]) (ac 0)) (aa (mUn (jU [("NoNumber",false),("NoSheet",false)]) (ac 0)) (aa (mUn (jU [("NoNumber",true),("NoSheet",false)]) (ac 0)) (aa (mUn (jU [("NoNumber",false),("NoSheet",false)]) (ac 0)) ah)))))) (aC (aZ 1 (aj bX (ac 1) (fF (aa (mUn (jU [("NoNumber",false),("NoSheet",false)]) (ac 0)) (aa (mUn (jU [("NoNumber",false),("NoSheet",false)]) (ac 0)) (aa (mUn (jU [("NoNumber",false),("NoSheet",false)]) (ac 0)) (aa (mUn (jU [("NoNumber",false),("NoSheet",false)]) (ac 0)) ah))))))) (aC (aZ 1 (aj bX (ac 1) (fF (aa (mUn (jU [("NoNumber",false),("NoSheet",false)]) (ac 0)) (aa (mUn (jU [("NoNumber",false),("NoSheet",false)]) (ac 0)) ah))))) (aC (sIf (cB (aj neX (vC isL DN (ac 1) (aa (mC (.bl true)) ah)) (mC (.int 1)))) (aR 1 (mC (.str "other"))) dI) (aC (aZ 2 (fF (aa (mC (.str "sheet")) (aa (mC (.str "place")) (aa (mC (.str "number")) (aa (mC (.str "row")) (aa (mC (.str "apart")) (aa (mC (.str "ring")) (aa (mC (.str "many")) (aa (mC (.str "bare")) (aa (mC (.str "line")) (aa (mC (.str "text")) ah)))))))))))) (aR 1 (aj aH (ac 2) (vC isL idxD (ac 1) (aa (mC (.bl true)) ah))))))))))
def iU:Fn:=fnM [false] 3 r9
theorem sc_l_marks:FnScope ["_law_e","_law_found","_law_words"] ["_law_e"] (ad i6):=by ac_rfl
theorem nK (B:Bl mg) (D:Def K mg "_law_marks" i6) {j:Addr} (τ:mg "Apart"=some (.ref j)) (M:IsX K (.ref j) [("NoNumber",false),("NoSheet",false)]) {m:Addr} (R:mg "Bare"=some (.ref m)) (Q:IsX K (.ref m) [("NoNumber",false),("NoSheet",false)]) {a:Addr} (o:mg "BentError"=some (.ref a)) (n:IsX K (.ref a) [("NoNumber",true),("NoSheet",true)]) {b:Addr} (p:mg "NoNumber"=some (.ref b)) (q:IsX K (.ref b) [("NoNumber",true),("NoSheet",false)]) {e:Addr} (v:mg "NoPlace"=some (.ref e)) (y:IsX K (.ref e) [("NoNumber",false),("NoSheet",false)]) {g:Addr} (E:mg "NoRing"=some (.ref g)) (F:IsX K (.ref g) [("NoNumber",false),("NoSheet",false)]) {l:Addr} (L:mg "NoRow"=some (.ref l)) (N:IsX K (.ref l) [("NoNumber",false),("NoSheet",false)]) {d:Addr} (u:mg "NoSheet"=some (.ref d)) (r:IsX K (.ref d) [("NoNumber",false),("NoSheet",true)]) {i:Addr} (z:mg "NoText"=some (.ref i)) (C:IsX K (.ref i) [("NoNumber",false),("NoSheet",false)]) {h:Addr} (I:mg "OnLine"=some (.ref h)) (J:IsX K (.ref h) [("NoNumber",false),("NoSheet",false)]) {c:Addr} (t:mg "TooMany"=some (.ref c)) (x:IsX K (.ref c) [("NoNumber",false),("NoSheet",false)]) (Z_ValueError:mg "ValueError"=none) (T_ValueError:IsX K (.type "ValueError") [("NoNumber",true),("NoSheet",true)]):Dl P w K mg base "_law_marks" 1 ["_law_e"] iU :=
 C5 (k:=0) D sc_l_marks rfl rfl (hb1 λ_ _ _ _ _ _ _=>rfl) λcdv A outer s H f G hr hD hp =>
  have nd:=sc_l_marks.nd;by and_intros
def dC:SM:=(aC (sIf (cB (aj eqX (ac 0) (mC (.int 0)))) (aR 3 (ib bL (aa (ac 1) (aa (ac 2) ah)))) dI) (aR 3 (ib bg (aa (ac 1) (aa (ac 2) ah)))))
def kY:SM:=(aR 3 (au iU (aa (ac 3) ah)))
def iH:SM:=(pq ["NoNumber","NoSheet"] 3 dC kY)
def bM:Fn:=fnM [false,false,false] 4 iH
theorem sc_l_said:FnScope ["_law_kind","_law_sheet_here","_law_many","_law_e"] ["_law_kind","_law_sheet_here","_law_many"] (ad jE):=by ac_rfl
theorem uG (B:Bl mg) (D:Def K mg "_law_said" jE) (c:Dl P w K mg base "_law_marks" 1 ["_law_e"] iU) (b:lF P w K mg base "cap_starts" 7 ["sheet","many"] bg) (d:lF P w K mg base "cup_ends" 9 ["sheet","many"] bL) {a:Addr} (e:mg "BentError"=some (.ref a)) (g:ExX K a ["NoNumber","NoSheet"]):aL P w K mg base "_law_said" 10 ["_law_kind","_law_sheet_here","_law_many"] bM :=
 C6 (k:=9) D sc_l_said rfl rfl (hb3 λ_ _ _ _ _ _ _ _ _=>rfl) λcdv A outer s H E f G hr hp =>
  have nd:=sc_l_said.nd;by and_intros
def mG:M3 Bool:=(cB (aj geI (av cq (aa (ac 0) ah)) (ac 1)))
def iG:EM:=(aj aH (ac 0) (mUn mz (mC (.int 1))))
def rZ:EM:=(bz (b9 (ac 4)) (al 0) mG iG [none,some 6])
def mF:M3 Bool:=(cB (aj geI (av cq (aa (ac 0) ah)) (ac 1)))
def iF:EM:=(aj aH (ac 0) (mC (.int 0)))
def rY:EM:=(bz (b9 (ac 5)) (al 0) mF iF [none,some 6])
def jS:SM:=(aC (qY 11 12 (aa (au bM (aa (mC (.int 0)) (aa (ac 3) (aa (ac 6) ah)))) (aa (au bM (aa (mC (.int 1)) (aa (ac 3) (aa (ac 6) ah)))) ah))) (aC (sIf (cOr (cB (aj neX (av jL (aa (ac 11) ah)) (av jL (aa (ac 8) ah)))) (cB (aj neX (av jL (aa (ac 12) ah)) (av jL (aa (ac 9) ah))))) (aR 1 (mC (.bl false))) dI) (aC (cH (sg isL xY 11 (aa (mC (.int 0)) ah))) (cH (sg isL xY 12 (aa (mC (.int 0)) ah))))))
def jR:SM:=(aC (aZ 8 (av yA (aa rZ ah))) (aC (aZ 9 (av yA (aa rY ah))) (cj (aP bV (aa (mC (.int 2)) ah)) (al 10) jS)))
def jQ:SM:=(sIf (cOr (cB (aj neX (au bM (aa (mC (.int 0)) (aa (ac 3) (aa (ac 7) ah)))) (mC (.str "number")))) (cB (aj neX (au bM (aa (mC (.int 1)) (aa (ac 3) (aa (ac 7) ah)))) (mC (.str "number"))))) (aR 1 (mC (.bl false))) dI)
def jP:SM:=(aC (aZ 2 (au lU (aa (ac 0) (aa (ac 1) ah)))) (aC (aZ 3 (au fL (aa (ac 2) (aa (mC (.int 7)) ah)))) (aC (yP 4 5 (aa (au fM (aa (ac 3) (aa (mC (.bl true)) ah))) (aa (au fM (aa (ac 3) (aa (mC (.bl false)) ah))) ah))) (aC (cj (b9 (fF (aa (mC (.int 2)) (aa (mC (.int 3)) (aa (mC (.int 4)) (aa (mC (.int 5)) (aa (mC (.int 7)) (aa (mC (.int 24)) ah)))))))) (al 6) jR) (cj (b9 (fF (aa (mC (.int 1)) (aa (mC (.int 25)) (aa (mC (.int 0)) (aa (aj fB (mUn mz (mC (.int 1))) (au bE (aa (ac 2) (aa (mC (.int 9)) ah)))) (aa (mC (.bl true)) (aa (mC .non) (aa (mC (.str "3")) (aa (fF (aa (mC (.int 3)) ah)) ah)))))))))) (al 7) jQ)))))
def m_law:SM:=(aC (cj (aP bV (aa (av DC (aa (mC (.int 1)) (aa (av DB (aa (av cq (aa (ac 0) ah)) (aa (mC (.int 3)) ah))) ah))) ah)) (al 1) jP) (aR 1 (mC (.bl true))))
def DR:Fn:=fnM [false] 13 m_law
theorem sc_law:FnScope ["_law_script","_law_k","_law_box_here","_law_sheet_here","_law_cups","_law_caps","_law_many","_law_thing","_law_ends","_law_starts","_law_lap","_law_found","_law_other"] ["_law_script"] (ad iu):=by ac_rfl
theorem C4 {f:Addr} {fd:FuncData} (B:Bl mg) (D:Fun K "law" "law" iu f fd) (e:aL P w K mg base "_law_box" 2 ["_law_script","_law_k"] lU) (d:aL P w K mg base "_law_rows" 4 ["_law_sheet_here","_law_up_here"] fM) (b:aL P w K mg base "_law_said" 10 ["_law_kind","_law_sheet_here","_law_many"] bM) (a:aL P w K mg base "_law_sheet" 3 ["_law_box_here","_law_most"] fL) (c:aL P w K mg base "_law_take" 1 ["_law_box_here","_law_many"] bE):FnOk P w K mg base CX0 11 f fd ["_law_script"] (s9 K DR) :=
 Gs (k:=10) D sc_law rfl rfl λcdv A outer s H E f G hr hp =>
  have nd:=sc_law.nd;by and_intros
end
theorem n5 (i:Int):cr [(.int i,.z)]=some (.ok (.bl true,.z),[(.int i,.z)]):=by
 apply aU (Z:=[#v[.int i]]) rfl rfl
 .nofun
 .rfl
theorem wI (p:Pt):gw [(Pd p,.z)]=some (.ok (.bl true,.z),[(Pd p,.z)]):=by
 apply aU (Z:=[#v[Pd p]]) rfl rfl
 .nomatch [(n5 _)]
 .rfl
theorem vJ {f c:L3.D->L3.D->Option (L3.D×Fl)} {ma mb mc:EM} {ra rb rc:R3} {Z Z1 Z2 Z3:Sto} {da db a e d:L3.D} {fl b:Fl} (h1:ma Z=some (.ok ra,Z1)) (h2:mb Z1=some (.ok rb,Z2)) (h3:der ra Z2=some (.ok da,Z2)) (i:der rb Z2=some (.ok db,Z2)) (g:f da db=some (.bl true,fl)) (l:mc Z2=some (.ok rc,Z3)) (h:der rb Z3=some (.ok a,Z3)) (k:der rc Z3=some (.ok e,Z3)) (j:c a e=some (d,b)):eA f c ma mb mc Z=some (.ok (.val d b),Z3):=by
 simp only[eA,af,h1,h2,h3,i,g,bc,Option.bind_some,asB,Hw,if_true,l,h,k,j]
theorem yX (ps:List Pt) (h0:0 < ps.length) (h1:ps.length<=24):dY [(Shd ps,.z)]=some (.ok (.bl true,.z),[(Shd ps,.z)]):=by
 obtain ⟨O',e,a,rfl⟩:=iQ (bnd:=al 0) (c:=fI) (elt:=dJ) (λO=>∃ a,O=[a]) (λ_=>true) (λ_=>.bl true) (ds:=ps.map Pd) (O:=[none]) #[none,rfl] (by
  rintro d hd O ⟨a,rfl⟩
  obtain ⟨p,j,rfl⟩:=Hg.mp hd
  exact #[[#v[Pd p]],_,rfl,rfl,(λh=>by cases h),λ_=>#[.val (.bl true) .z,[#v[Pd p]],(.bl true,.z),[#v[Pd p]],by unfold dJ;(nomatch [(wI _)]),rfl,rfl,_,rfl]])
 have f:=o4 (ds:=((ps.map Pd).filter λ_=>true).map λ_=>.bl true) (λd hd=>by obtain ⟨_,_,rfl⟩:=Hg.mp hd;rfl)
 generalize ((ps.map Pd).filter λ_=>true).map (λ_=>L3.D.bl true)=out at *
 have g:hV [#v[Shd ps]]=some (.ok (.val (.lst out) .u),[#v[Shd ps]]):=ba (im:=b9 (ac 0)) (ix:=[none]) (Z1:=[#v[Shd ps]]) (Z2:=[#v[Shd ps]]) (ds:=ps.map Pd) (rs:=[.pl 0]) rfl e (by simp;lia) rfl
 have b:leI (.int 1) (.int ((ps.map Pd).length:Int))=#v[.bl true]:=by simp[dn];lia
 have i:leI (.int ((ps.map Pd).length:Int)) (.int 24)=#v[.bl true]:=by simp[dn];lia
 apply aU (Z:=[#v[Shd ps]]) rfl rfl
 .apply dE
  .apply vH
   .apply vJ
    .exact i_c
    .nofun
    .rfl
    .rfl
    .exact b
    .exact i_c
    .rfl
    .rfl
    .exact i
   .rfl
   .rfl
   ·(repeat' (first | with_reducible exact g | infer_instance | exact f | eq_refl))
  .rfl
 .rfl
theorem io {xs:List L3.D} {k:Int} {d:L3.D} (h:L2.atI xs k=some d):aH (.tup xs) (.int k)=#v[d]:=by
 show orD ixD lh (.tup xs) (.int k)=_
 simp[orD,ixD,h]
theorem yS (ps:List Pt) (h0:0 < ps.length) (h1:ps.length<=24) (R:Rising ps):cZ [(Shd ps,.z)]=some (.ok (.bl true,.z),[(Shd ps,.z)]):=by
 obtain ⟨O',e,a,rfl⟩:=iQ (bnd:=al 0) (c:=fI) (elt:=cS) (λO=>∃ a,O=[a,#v[Shd ps]]) (λ_=>true) (λ_=>.bl true) (ds:=aS 0 (ps.length - 1)) (O:=[none,#v[Shd ps]]) #[none,rfl] (by
  rintro d hd O ⟨a,rfl⟩
  obtain ⟨i,hi⟩:=List.getElem?_of_mem hd
  obtain ⟨hi,rfl⟩:=cI hi
  have f:ps[i]?=some ps[i]:=G7 _
  have g:ps[i+1]?=some ps[i+1]:=G7 _
  have b:=R i (i+1) _ _ (by lia) f g
  have a1:aH (Shd ps) (.int (0+(i:Int)))=#v[Pd ps[i]]:=io (by rw[Int.zero_add];exact xW f)
  have a2:aH (Shd ps) (.int (0+(i:Int)+1))=#v[Pd ps[i+1]]:=io (by rw[Int.zero_add];exact xW g)
  have n:ltI (.int ps[i].1) (.int ps[i+1].1)=#v[.bl true]:=by simp[dn,b]
  generalize (0+(i:Int))=j at *
  refine #[[#v[.int j],#v[Shd ps]],_,rfl,rfl,(λh=>by cases h),λ_=>#[.val (.bl true) .z,[#v[.int j],#v[Shd ps]],(.bl true,.z),[#v[.int j],#v[Shd ps]],?_,rfl,rfl,_,rfl]]
  unfold cS
  (exists a1,a2,n))
 have o:((ps.length:Int) - 1).toNat=ps.length - 1:=by lia
 have k:bV [.int (((ps.map Pd).length:Int) - 1)]=some (aS 0 (ps.length - 1)):=cJ (by simp;lia) (by simp)
 have l:=o4 (ds:=((aS 0 (ps.length - 1)).filter λ_=>true).map λ_=>.bl true) (λd hd=>by obtain ⟨_,_,rfl⟩:=Hg.mp hd;rfl)
 generalize ((aS 0 (ps.length - 1)).filter λ_=>true).map (λ_=>L3.D.bl true)=out at *
 have m:eR [#v[Shd ps]]=some (.ok (.val (.lst out) .u),[#v[Shd ps]]):=ba (Z1:=[#v[Shd ps]]) (rs:=[]) (by (repeat' (first | with_reducible apply cb (h3:=k) | infer_instance | eq_refl))) e (by rw[bp];lia) rfl
 apply aU (Z:=[#v[Shd ps]]) rfl rfl
 .unfold iJ;(repeat' (first | with_reducible exact m | infer_instance | exact l | eq_refl))
 .rfl
theorem n9 (p q r:Int×Int) (h1:-18446744073709551616 < q.1 - p.1/\q.1 - p.1 < 18446744073709551616) (h2:-18446744073709551616 < q.2 - p.2/\q.2 - p.2 < 18446744073709551616):kN [(Pd p,.z),(Pd q,.z),(Pd r,.z)]=some (.ok (.int (aY p q r),.z),[(Pd p,.z),(Pd q,.z),(Pd r,.z)]):=by
 apply aU (Z:=[#v[Pd p],#v[Pd q],#v[Pd r],none]) rfl rfl
 .apply ao
  .exists gz h1
  .exists gz h2
 .rfl
theorem yk {n i j:Nat} (xs:List L3.D) (k:n<=25) (l:j < n) (elt:EM) (he:∀ (a b c:L3.D),elt [#v[c],#v[a],#v[b]]=some (.ok (.val (.tup [a,b,c]) .z),[#v[c],#v[a],#v[b]])) :
  bz (aP fh (aa (aj bX (ac 3) (mC (.int 1))) (aa (ac 0) ah))) (al 0) fI elt [none,some 2,some 3] [#v[.int n],some (.lst xs,.u),#v[.int i],#v[.int j]]=some (.ok (.val (.lst ((nz i j (n - (j+1))).map Td)) .u),[#v[.int n],some (.lst xs,.u),#v[.int i],#v[.int j]]):=by
 obtain ⟨O',e,a,rfl⟩:=iQ (bnd:=al 0) (c:=fI) (elt:=elt) (λO=>∃ a,O=[a,#v[.int i],#v[.int j]]) (λ_=>true) (λd=>.tup [.int i,.int j,d]) (ds:=aS ((j:Int)+1) (n - (j+1))) (O:=[none,#v[.int i],#v[.int j]]) #[none,rfl] (by
  rintro d hd O ⟨a,rfl⟩
  exact #[[#v[d],#v[.int i],#v[.int j]],_,rfl,rfl,(λh=>by cases h),λ_=>#[_,_,(.tup [.int i,.int j,d],.z),_,he _ _ _,rfl,rfl,_,rfl]])
 have f:((aS ((j:Int)+1) (n - (j+1))).filter λ_=>true).map (λd=>L3.D.tup [.int i,.int j,d])=(nz i j (n - (j+1))).map Td:=by
  rw[HF.mpr (λ_ _=>rfl)]
  simp[aS,nz,Function.comp_def]
 rw[f] at e
 have g:fh [.int ((j:Int)+1),.int n]=some (aS ((j:Int)+1) (n - (j+1))):=i8 (by lia) (by lia) (by lia)
 exact ba (rs:=[]) (by (repeat' (first | with_reducible apply cb (h3:=g) | infer_instance | eq_refl))) e (by rw[bp];lia) rfl
theorem Gv {A B:List L3.D} (h:A.length+B.length<=16777216):AI (.lst A) [.lst B]=some (.lst (A++B),.non):=by simp[AI,h]
theorem uP {A:List L3.D} {d:L3.D} (h:A.length < 16777216):xY (.lst A) [d]=some (.lst (A++[d]),.non):=by simp[xY,h]
theorem wr {n:Nat} (l:n<=25) {b1 b2:SM} (h2:b2=cj (aP fh (aa (aj bX (ac 2) (mC (.int 1))) (aa (ac 0) ah))) (al 3) b1)
  (h1:∀ (i j:Nat) (xs:List L3.D),j < n->xs.length<=20000->b1 [#v[.int n],some (.lst xs,.u),#v[.int i],#v[.int j]]=some (.ok .nx,[#v[.int n],some (.lst (xs++(nz i j (n - (j+1))).map Td),.u),#v[.int i],#v[.int j]])) :
  ∃ v2 a,cj (aP bV (aa (ac 0) ah)) (al 2) b2 [#v[.int n],some (.lst [],.u),none,none]=some (.ok .nx,[#v[.int n],some (.lst ((jc n).map Td),.u),v2,a]):=by
 have inner:∀ (i:Nat) (xs:List Tri) (a:Option (L3.D×Fl)),i < n->xs.length<=15625->∃ f,b2 [#v[.int n],some (.lst (xs.map Td),.u),#v[.int i],a]=some (.ok .nx,[#v[.int n],some (.lst ((xs++kg n i (n - (i+1))).map Td),.u),#v[.int i],f]):=by
  intro i xs a hi o
  obtain ⟨Z',e,f,rfl⟩:=bC (bnd:=al 3) (b:=b1) (λm Z=>∃ a,Z=[#v[.int n],some (.lst ((xs++kg n i m).map Td),.u),#v[.int i],a]) (ds:=aS ((i:Int)+1) (n - (i+1))) (Z:=[#v[.int n],some (.lst (xs.map Td),.u),#v[.int i],a]) (k:=0) #[a,by simp[kg]] (by
   rintro m d Z hd ⟨a,rfl⟩
   obtain ⟨hm,rfl⟩:=cI hd
   have h:((xs++kg n i m).map Td).length<=20000:=by
    have:=tL (n:=n) (i:=i) (m:=m) l (by lia)
    simp only[Hb,Ht]
    lia
   have c:=h1 i (i+1+m) ((xs++kg n i m).map Td) (by lia) h
   rw[show ((i+1+m:Nat):Int)=(i:Int)+1+m by lia,<- List.map_append,List.append_assoc,<- og] at c
   exact #[_,_,by rw[Hr];rfl,.inl c,_,by rw[Hr]])
  refine #[f,?_]
  rw[bp,Hr] at e
  have g:fh [.int ((i:Int)+1),.int n]=some (aS ((i:Int)+1) (n - (i+1))):=i8 (by lia) (by lia) (by lia)
  rw[h2]
  apply dQ
  ·(repeat' (first | with_reducible apply cb (h3:=g) | infer_instance | eq_refl))
  .rfl
  .exact e
 obtain ⟨Z',e,v2,a,rfl⟩:=bC (bnd:=al 2) (b:=b2) (λm Z=>∃ v2 a,Z=[#v[.int n],some (.lst ((pA n m).map Td),.u),v2,a]) (ds:=aS 0 n) (Z:=[#v[.int n],some (.lst [],.u),none,none]) (k:=0) #[none,none,rfl] (by
  rintro m d Z hd ⟨v2,a,rfl⟩
  obtain ⟨hm,rfl⟩:=cI hd
  rw[Hr,Int.zero_add]
  obtain ⟨f,e⟩:=inner m (pA n m) a hm (tM l (by lia))
  rw[<- oh] at e
  exact #[_,_,rfl,.inl e,_,_,rfl])
 rw[bp,Hr] at e
 have g:bV [.int (n:Int)]=some (aS 0 n):=cJ (by lia) (by lia)
 refine #[v2,a,?_]
 apply dQ
 ·(repeat' (first | with_reducible apply cb (h3:=g) | infer_instance | eq_refl))
 .rfl
 .exact e
theorem l7 (n:Nat) (d:n<=25):fK [(.int n,.z)]=some (.ok (.lst ((jc n).map Td),.u),[(.int n,.z)]):=by
 obtain ⟨v2,h,e⟩:=wr (n:=n) d (b1:=iE) (b2:=kX) rfl (by
  intro i j xs g k
  have c:=yk (n:=n) (i:=i) (j:=j) xs d g iD (λa b c=>by unfold iD;(nofun))
  have f:xs.length+((nz i j (n - (j+1))).map Td).length<=16777216:=by
   rw[Hb,rh];lia
  unfold iE kW
  (repeat' (first | with_reducible exact c | infer_instance | exact Gv f | eq_refl)))
 apply aU (Z:=[#v[.int n],none,none,none]) rfl rfl
 .apply ao
  .nofun
  .apply ao
   .exact e
   .nofun
 .rfl
theorem AG {S:List L3.D} {i j k:Int} {p q r:Pt} {v2:Option (L3.D×Fl)} (a1:aH (.tup S) (.int i)=#v[Pd p]) (a2:aH (.tup S) (.int j)=#v[Pd q]) (a3:aH (.tup S) (.int k)=#v[Pd r]) (e:Small p) (f:Small q) (h0:aY p q r≠0):bI [#v[.tup S],#v[.tup [.int i,.int j,.int k]],v2]=some (.ok .nx,[#v[.tup S],#v[.tup [.int i,.int j,.int k]],#v[.tup [Pd p,Pd q,Pd r]]]):=by
 have b:=n9 p q r (Small.sub e f).1 (Small.sub e f).2
 have one:∀ (x d:L3.D) (a:Option (L3.D×Fl)),aH (.tup S) x=#v[d]->cn [#v[x],#v[.tup S]]=some (.ok (.val d .z),[#v[x],#v[.tup S]]):=λx d a h=>by unfold cn;(exists h)
 have c:eh [#v[.tup S],#v[.tup [.int i,.int j,.int k]],v2]=some (.ok (.val (.lst [Pd p,Pd q,Pd r]) .u),[#v[.tup S],#v[.tup [.int i,.int j,.int k]],v2]):=by
  refine ba (Z1:=[#v[.tup S],#v[.tup [.int i,.int j,.int k]],v2]) (Z2:=[#v[.tup S],#v[.tup [.int i,.int j,.int k]],v2]) (ds:=[.int i,.int j,.int k]) (rs:=[.pl 1]) (O:=[#v[.int k],#v[.tup S]]) rfl ?_ (by simp) rfl
  have e1:=one (.int i) _ none a1
  have l:=one (.int j) _ none a2
  have g:=one (.int k) _ none a3
  have m:∀ d a,al 0 d [a,#v[L3.D.tup S]]=some [#v[d],#v[.tup S]]:=λ_ _=>rfl
  have cs:uA [none,some 0] (aF cV (us [#v[L3.D.tup S],#v[.tup [.int i,.int j,.int k]],v2] (pls [R3.pl 1])) [#v[.tup S],#v[.tup [.int i,.int j,.int k]],v2])=[none,#v[.tup S]]:=rfl
  rw[cs]
  simp only[b5,m,fI,af,aT,if_true,e1,l,g,dO,nol]
 unfold bI
 apply ao
 ·(repeat' (first | with_reducible exact c | infer_instance | eq_refl))
 .apply dF
  .nomatch [b]
  .exact Ho h0
  .rfl
theorem BQ (ps:List Pt) (n:ps.length<=24) (h:∀ p∈ps,Small p) (l:NoLine ps):ci [(Shd ps,.z)]=some (.ok (.non,.z),[(Shd ps,.z)]):=by
 have a:=l7 ps.length (by lia)
 rw[show (ps.length:Int)=((ps.map Pd).length:Int) by rw[Hb]] at a
 obtain ⟨Z',e,v1,v2,rfl⟩:=bC (bnd:=al 1) (b:=bI) (λ_ Z=>∃ v1 v2,Z=[#v[Shd ps],v1,v2]) (ds:=(jc ps.length).map Td) (Z:=[#v[Shd ps],none,none]) (k:=0) #[none,none,rfl] (by
  rintro m d Z hd ⟨v1,v2,rfl⟩
  rw[Hh,G3] at hd
  obtain ⟨t,a,rfl⟩:=hd
  obtain ⟨j,i,o⟩:=rT (He a)
  have c:ps[t.1]?=some (ps[t.1]'(by lia)):=G7 _
  have f:ps[t.2.1]?=some (ps[t.2.1]'(by lia)):=G7 _
  have g:ps[t.2.2]?=some (ps[t.2.2]'(by lia)):=G7 _
  have b:=AG (v2:=v2) (io (xW c)) (io (xW f)) (io (xW g)) (h _ (He c)) (h _ (He f)) (l _ _ _ _ _ _ j i c f g)
  exact #[[#v[Shd ps],#v[Td t],v2],_,rfl,.inl b,_,_,rfl])
 apply aU (Z:=[#v[Shd ps],none,none]) rfl rfl
 .apply ao
  .apply dQ
   .nomatch [a]
   .rfl
   .exact e
  .nofun
 .rfl
theorem kR {ps:List Pt} (g:GoodSh ps):dq [(Shd ps,.z)]=some (.ok (.bl true,.z),[(Shd ps,.z)]):=by
 have h1:=yX ps g.pos g.most
 have h2:=yS ps g.pos g.most g.rising
 have h3:=BQ ps g.most g.small g.noline
 apply aU (Z:=[#v[Shd ps]]) rfl rfl
 .apply ao
  .apply dF
   .nomatch [h1]
   .rfl
   .rfl
  .nomatch [h2,h3]
 .rfl
theorem wK {ps:List Pt} (g:GoodSh ps):dw [(Shd ps,.z)]=some (.ok (.non,.z),[(Shd ps,.z)]):=by
 have h1:=kR g
 apply GT (Z:=[#v[Shd ps]]) rfl rfl
 .apply dF
  .nomatch [h1]
  .rfl
  .rfl
 .rfl
def qJ (p q r:Pt):Int:=if 0 < aY p q r then 1 else -1
theorem tF {S:List L3.D} {i j k:Int} {p q r:Pt} (a1:aH (.tup S) (.int i)=#v[Pd p]) (a2:aH (.tup S) (.int j)=#v[Pd q]) (a3:aH (.tup S) (.int k)=#v[Pd r]) (a:Small p) (c:Small q):d5 [(.tup S,.z),(.tup [.int i,.int j,.int k],.z)]=some (.ok (.int (qJ p q r),.z),[(.tup S,.z),(.tup [.int i,.int j,.int k],.z)]):=by
 have b:=n9 p q r (Small.sub a c).1 (Small.sub a c).2
 by_cases h:0 < aY p q r
 .rw[show qJ p q r=1 from if_pos h]
  apply aU (Z:=[#v[.tup S],#v[.tup [.int i,.int j,.int k]]]) rfl rfl
  .apply dE
   .apply Go
    .nomatch [b],[a1,a2,a3]
    .exact Hn h
    .exact i_c
   .rfl
  .rfl
 .rw[show qJ p q r = -1 from if_neg h]
  apply aU (Z:=[#v[.tup S],#v[.tup [.int i,.int j,.int k]]]) rfl rfl
  .apply dE
   .apply Gp
    .nomatch [b],[a1,a2,a3]
    .exact Ho h
    .nofun
   .rfl
  .rfl
theorem eY (c:Int) (m:Int) (h:0 < m):0<=c % m/\c % m < m:=#[Int.emod_nonneg _ (by lia),Int.emod_lt_of_pos _ h]
theorem l8 (n m:Int) (h:0 < m/\m < 1073741824):bE [(.lst [.int n],.u),(.int m,.z)]=some (.ok (.int (n % m),.z),[(.lst [.int (n / m)],.u),(.int m,.z)]):=by
 have hd:AQ [.int n,.int m]=#v[.tup [.int (n / m),.int (n % m)]]:=by simp[c2,jX,h]
 apply aU (Z:=[some (.lst [.int n],.u),#v[.int m],none,none]) rfl rfl
 .apply ao
  .exists hd
  .apply ao
   .nofun
   .nofun
 .rfl
theorem re (p q r:Int×Int) (h1:-18446744073709551616 < q.1 - p.1/\q.1 - p.1 < 18446744073709551616) (h2:-18446744073709551616 < q.2 - p.2/\q.2 - p.2 < 18446744073709551616):eF [(Pd p,.z),(Pd q,.z),(Pd r,.z)]=some (.ok (.int (aY p q r),.z),[(Pd p,.z),(Pd q,.z),(Pd r,.z)]):=by
 apply aU (Z:=[#v[Pd p],#v[Pd q],#v[Pd r],none,none,none]) rfl rfl
 .apply ao
  .nofun
  apply ao
  .exists gz h1
  .exists gz h2
 .rfl
theorem yW (ns:List Int) (k:Nat):∃ n:Int,j9 [(.fls (ns.map .int),.z),(.int k,.z)]=some (.ok (.int n,.z),[(.fls (ns.map .int),.z),(.int k,.z)]):=by
 by_cases h:k < ns.length
 .refine #[ns[k],?_]
  have a:aH (.fls (ns.map .int)) (.int (k:Int))=#v[.int ns[k]]:=by
   have:L2.atI (ns.map L3.D.int) (k:Int)=some (.int ns[k]):=wc (by simp[h])
   simp[orD,ixD,this]
  have b:(k:Int) < ((ns.map L3.D.int).length:Int):=by simp;lia
  generalize (k:Int)=kk at *
  apply aU (Z:=[#v[.fls (ns.map .int)],#v[.int kk]]) rfl rfl
  .apply l4
   apply lg
   .nofun
   .exact Hn b
   .exists a
  .rfl
 .refine #[0,?_]
  have b:¬ (k:Int) < ((ns.map L3.D.int).length:Int):=by simp;lia
  generalize (k:Int)=kk at *
  apply aU (Z:=[#v[.fls (ns.map .int)],#v[.int kk]]) rfl rfl
  .apply ao
   .apply dF
    .nofun
    .exact Ho b
    .rfl
   .nofun
  .rfl
theorem BO (c j:Int):∃ n:Int,lT [(.int c,.z),(.int j,.z)]=some (.ok (.int n,.z),[(.int c,.z),(.int j,.z)]):=by
 have a:=eY c 2147483647 (by decide)
 have b:=eY j 13 (by decide)
 obtain ⟨m,hm⟩:∃ m:Nat,j % 13=m:=#[(j % 13).toNat,by lia]
 have e:m < 13:=by lia
 have d:∃ v:Int,aH (.lst [.int 48271,.int 69621,.int 16807,.int 39373,.int 30269,.int 40014,.int 40692,.int 50021,.int 61687,.int 71993,.int 83869,.int 95561,.int 30307]) (.int (j % 13))=#v[.int v]:=by
  rw[hm]
  clear hm
  match m,e with
  | 0,_=>exact #[_,rfl]
  | 1,_=>exact #[_,rfl]
  | 2,_=>exact #[_,rfl]
  | 3,_=>exact #[_,rfl]
  | 4,_=>exact #[_,rfl]
  | 5,_=>exact #[_,rfl]
  | 6,_=>exact #[_,rfl]
  | 7,_=>exact #[_,rfl]
  | 8,_=>exact #[_,rfl]
  | 9,_=>exact #[_,rfl]
  | 10,_=>exact #[_,rfl]
  | 11,_=>exact #[_,rfl]
  | 12,_=>exact #[_,rfl]
 obtain ⟨v,f⟩:=d
 have c1:-18446744073709551616 < c % 2147483647+12345/\c % 2147483647+12345 < 18446744073709551616:=by lia
 have c2:∀ z:Int,-18446744073709551616 < z % 1000000007/\z % 1000000007 < 18446744073709551616:=λz=>by
  have:=eY z 1000000007 (by decide)
  lia
 apply Exists.intro
 apply aU (Z:=[#v[.int c],#v[.int j],none,none]) rfl rfl
 .apply ao
  .nofun
  apply ao
  .exists f,gz (by decide),gz c1
  apply ao
  .nofun
  .exists gz (by decide),gz (c2 _)
 .rfl
theorem BR (ns:List Int) (k:Nat):∃ n:Int,lU [(.fls (ns.map .int),.z),(.int k,.z)]=some (.ok (.lst [.int n],.u),[(.fls (ns.map .int),.z),(.int k,.z)]):=by
 obtain ⟨c,a⟩:=yW ns k
 generalize L3.D.fls (ns.map .int)=S at *
 generalize L3.D.int (k:Int)=kk at *
 by_cases h:c % 2=0
 .apply Exists.intro
  apply aU (Z:=[#v[S],#v[kk],none,none,none]) rfl rfl
  .apply ao
   .nomatch [a]
   apply l4
   apply lg
   .nofun
   .exact Hn h
   .nofun
  .rfl
 .obtain ⟨Z',e,n,v4,rfl⟩:=bC (bnd:=al 4) (b:=jp) (λ_ Z=>∃ (n:Int) (v4:Option (L3.D×Fl)),Z=[#v[S],#v[kk],#v[.int c],#v[.int n],v4]) (ds:=aS 0 40) (Z:=[#v[S],#v[kk],#v[.int c],#v[.int 0],none]) (k:=0) #[0,none,rfl] (by
   rintro i d Z hd ⟨n,v4,rfl⟩
   obtain ⟨hi,rfl⟩:=cI hd
   obtain ⟨m,hm⟩:=BO c (0+(i:Int))
   generalize (0+(i:Int))=j at *
   exact #[_,[#v[S],#v[kk],#v[.int c],#v[.int (n * 142857143+m)],#v[.int j]],rfl,.inl (by unfold jp;(nomatch [hm],[zZ (by decide)])),_,_,rfl])
  refine #[n,?_]
  apply aU (Z:=[#v[S],#v[kk],none,none,none]) rfl rfl
  .apply ao
   .nomatch [a]
   apply ao
   .apply dF
    .nofun
    .exact Ho h
    .rfl
   apply ao
   .nofun
   apply ao
   .apply dQ
    .exact cb (by (nofun)) rfl (cJ (n:=40) (by decide) (by decide))
    .rfl
    .exact e
   .nofun
  .rfl
theorem AE {X ρ:L3.D} {f:Fl} {k:L3.D} {p q:L3.D} {b:Int} (a:eF [(p,.z),(q,.z),(ρ,.z)]=some (.ok (.int b,.z),[(p,.z),(q,.z),(ρ,.z)])) :
  dD [some (X,f),#v[ρ],#v[k],#v[q],#v[p]]=some (.ok (if b=0 then .rt (.bl false) .z else .nx),[some (X,f),#v[ρ],#v[k],#v[q],#v[p]]):=by
 by_cases h:b=0
 .rw[if_pos h]
  apply lg
  .nomatch [a]
  .exact Hn h
  .nofun
 .rw[if_neg h]
  apply dF
  .nomatch [a]
  .exact Ho h
  .rfl
theorem yV (ps:List Pt) (z:Pt) (y:∀ p∈ps,Small p) (F:ps.length<=24):∃ b:Bool,fN [(.lst (ps.map Pd),.u),(Pd z,.z)]=some (.ok (.bl b,.z),[(.lst (ps.map Pd),.u),(Pd z,.z)])/\(b=true->Bi ps z)/\(b=false->∃ (i j:Nat) (p q:Pt),i < j/\ps[i]?=some p/\ps[j]?=some q/\aY p q z=0):=by
 have inner:∀ (i:Nat) (q:Pt) (v4:Option (L3.D×Fl)),ps[i]?=some q->∃ a,dH (al 4) dD ((ps.take i).map Pd) [some (.lst (ps.map Pd),.l),#v[Pd z],#v[.int i],#v[Pd q],v4]=some (.ok .nx,[some (.lst (ps.map Pd),.l),#v[Pd z],#v[.int i],#v[Pd q],a])/\(∀ j p,j < i->ps[j]?=some p->aY p q z≠0) \/
   dH (al 4) dD ((ps.take i).map Pd) [some (.lst (ps.map Pd),.l),#v[Pd z],#v[.int i],#v[Pd q],v4]=some (.ok (.rt (.bl false) .z),[some (.lst (ps.map Pd),.l),#v[Pd z],#v[.int i],#v[Pd q],a])/\∃ j p,j < i/\ps[j]?=some p/\aY p q z=0:=by
  intro i q v4 t
  have hi:i < ps.length:=(Hc.mp t).1
  obtain ⟨Z',h⟩:=qb (bnd:=al 4) (b:=dD) (λm Z=>∃ v4,Z=[some (.lst (ps.map Pd),.l),#v[Pd z],#v[.int i],#v[Pd q],v4]/\∀ j p,j < m->ps[j]?=some p->aY p q z≠0)
   (λm r f Z=>r=.bl false/\f=.z/\∃ v4,Z=[some (.lst (ps.map Pd),.l),#v[Pd z],#v[.int i],#v[Pd q],v4]/\∃ p,ps[m]?=some p/\aY p q z=0)
   (ds:=(ps.take i).map Pd) (Z:=[some (.lst (ps.map Pd),.l),#v[Pd z],#v[.int i],#v[Pd q],v4]) (k:=0) #[v4,rfl,λj p h=>absurd h (Nat.not_lt_zero _)] (by
    rintro m d Z hd ⟨v4,rfl,x⟩
    rw[Hh,G3] at hd
    obtain ⟨p,g,rfl⟩:=hd
    have o:ps[m]?=some p/\m < i:=by
     rw[List.getElem?_take] at g
     split at g
     .exact #[g,by assumption]
     .cases g
    have sm:=Small.sub (y p (He o.1)) (y q (He t))
    have rb:=re p q z sm.1 sm.2
    have rb:=AE (X:=.lst (ps.map Pd)) (f:=.l) (k:=.int (i:Int)) rb
    by_cases h0:aY p q z=0
    .rw[if_pos h0] at rb
     exact #[_,_,rfl,.inr #[.bl false,.z,rb,rfl,rfl,_,rfl,p,by simpa using o.1,h0]]
    .rw[if_neg h0] at rb
     refine #[_,_,rfl,.inl #[.inl rb,_,rfl,λj E v n=>?_]]
     by_cases e:j=m
     .subst e;rw[o.1] at n;cases n;exact h0
     .exact x j E (by lia) n)
  rcases h with ⟨e,a,rfl,h⟩ | ⟨m,r,f,hm,e,rfl,rfl,a,rfl,p,g,h0⟩
  .exact #[a,.inl #[e,λj p v=>h j p (by simp;lia)]]
  .refine #[a,.inr #[e,m,p,by simp at hm;lia,by simpa using g,h0]]
 obtain ⟨Z',h⟩:=qb (bnd:=j7 2 (cz (al 2) (cz (al 3) j8))) (b:=eQ) (λm Z=>∃ v2 w v4,Z=[some (.lst (ps.map Pd),.l),#v[Pd z],v2,w,v4]/\∀ i j p q,i < j->j < m->ps[i]?=some p->ps[j]?=some q->aY p q z≠0)
   (λm r f Z=>r=.bl false/\f=.z/\∃ v2 w v4,Z=[some (.lst (ps.map Pd),.l),#v[Pd z],v2,w,v4]/\∃ (i j:Nat) (p q:Pt),i < j/\ps[i]?=some p/\ps[j]?=some q/\aY p q z=0)
   (ds:=iO 0 (ps.map Pd)) (Z:=[some (.lst (ps.map Pd),.l),#v[Pd z],none,none,none]) (k:=0) #[_,_,_,rfl,λi j p q _ h=>absurd h (Nat.not_lt_zero _)] (by
    rintro m d Z hd ⟨v2,w,v4,rfl,x⟩
    rw[kG,Hh,Option.map_map,G3] at hd
    obtain ⟨q,t,rfl⟩:=hd
    have hm:m < ps.length:=(Hc.mp t).1
    obtain ⟨a,h⟩:=inner m q v4 t
    have sl:=Da (xs:=ps.map Pd) (m:=m) (by simp;lia)
    rw[<- List.map_take] at sl
    rcases h with ⟨e,h⟩ | ⟨e,j,p,v,g,h0⟩
    .refine #[_,[some (.lst (ps.map Pd),.l),#v[Pd z],#v[.int m],#v[Pd q],a],by simp[al,j7,cz,j8];rfl,.inl #[.inl (by simp[eQ,af,aT,bc,der,ac,mC,aj,mUn,ah,aa,c8,av,dI,aC,aR,uY,aZ,nv,sIf,cH,dO,lowAt,nol,frz,xu,pls,gives,se,orD,dn,ixD,lh,al,j8,cz,j7,fnM,fn0,eD,dM,lz,c1,c2,jX,lu,qW,tZ,kT,mSl,slD,oA,ot,asI,cB,Df,cOr,fJ,jq,mOr,sf,mIf,eA,asB,eqS,eqA,au,prs,eE,back,kA,oJ,lA,mz,isN,CN,la,pU,Bc,yh,Ai,orC,xL,xK,xM,L2.atI,ixN,cj,b9,uX,-List.map_take,sl,aF,us,e]),_,_,_,rfl,λi j p B c v hi s=>?_]]
     by_cases C:j=m
     .subst C;rw[t] at s;cases s;exact h i p c hi
     .exact x i j p B c (by lia) hi s
    .refine #[_,[some (.lst (ps.map Pd),.l),#v[Pd z],#v[.int m],#v[Pd q],a],by simp[al,j7,cz,j8];rfl,.inr #[.bl false,.z,by simp[eQ,af,aT,bc,der,ac,mC,aj,mUn,ah,aa,c8,av,dI,aC,aR,uY,aZ,nv,sIf,cH,dO,lowAt,nol,frz,xu,pls,gives,se,orD,dn,ixD,lh,al,j8,cz,j7,fnM,fn0,eD,dM,lz,c1,c2,jX,lu,qW,tZ,kT,mSl,slD,oA,ot,asI,cB,Df,cOr,fJ,jq,mOr,sf,mIf,eA,asB,eqS,eqA,au,prs,eE,back,kA,oJ,lA,mz,isN,CN,la,pU,Bc,yh,Ai,orC,xL,xK,xM,L2.atI,ixN,cj,b9,uX,-List.map_take,sl,aF,us,e],rfl,rfl,_,_,_,rfl,j,m,p,q,v,g,t,h0]])
 rcases h with ⟨e,v2,w,v4,rfl,h⟩ | ⟨m,r,f,hm,e,rfl,rfl,v2,w,v4,rfl,A⟩
 .refine #[true,?_,λ_ i j p q c hi v=>h i j p q c ?_ hi v,λh=>by cases h]
  .simp[fN,mI,af,aT,bc,der,ac,mC,aj,mUn,ah,aa,c8,av,dI,aC,aR,uY,aZ,nv,sIf,cH,dO,lowAt,nol,frz,xu,pls,gives,se,orD,dn,ixD,lh,al,j8,cz,j7,fnM,fn0,eD,dM,lz,c1,c2,jX,lu,qW,tZ,kT,mSl,slD,oA,ot,asI,cB,Df,cOr,fJ,jq,mOr,sf,mIf,eA,asB,eqS,eqA,au,prs,eE,back,kA,oJ,lA,mz,isN,CN,la,pU,Bc,yh,Ai,orC,xL,xK,xM,L2.atI,ixN,cj,mK,aF,us,jO,cV,ie,e]
  .have:=(Hc.mp v).1
   simp[kF];lia
 .refine #[false,?_,λh=>(by cases h),λ_=>A]
  simp[fN,mI,af,aT,bc,der,ac,mC,aj,mUn,ah,aa,c8,av,dI,aC,aR,uY,aZ,nv,sIf,cH,dO,lowAt,nol,frz,xu,pls,gives,se,orD,dn,ixD,lh,al,j8,cz,j7,fnM,fn0,eD,dM,lz,c1,c2,jX,lu,qW,tZ,kT,mSl,slD,oA,ot,asI,cB,Df,cOr,fJ,jq,mOr,sf,mIf,eA,asB,eqS,eqA,au,prs,eE,back,kA,oJ,lA,mz,isN,CN,la,pU,Bc,yh,Ai,orC,xL,xK,xM,L2.atI,ixN,cj,mK,aF,us,jO,cV,ie,e]
theorem sq_le {i:Nat} (h:i < 12):0<=(i:Int) * (i:Int)/\(i:Int) * (i:Int)<=144:=by
 have h1:i * i<=12 * 12:=Nat.mul_le_mul (by lia) (by lia)
 have h2:(i:Int) * (i:Int)=((i * i:Nat):Int):=by simp
 rw[h2];lia
theorem Bo {i:Nat} {g kd:Int} (hi:i < 12) (d:-15<=g) (g1:g<=15) (k0:0<=kd) (k1:kd < 6) :
  ∃ y:Int,aH (.lst [.int g,.int g,.int ((i:Int) * i+g / 9),.int (g / 9 - (i:Int) * i),.int (((i:Int) * i+30) * (1 - 2 * ((i:Int) % 2))),.int (g * 1000)]) (.int kd)=#v[.int y]/\-16000<=y/\y<=16000:=by
 obtain ⟨c,b⟩:=sq_le hi
 obtain ⟨j,rfl⟩:∃ j:Nat,kd=(j:Int):=#[kd.toNat,by lia]
 have a:j < 6:=by lia
 generalize (i:Int) * (i:Int)=qq at *
 have hm:(qq+30) * (1 - 2 * ((i:Int) % 2))<=16000/\-16000<=(qq+30) * (1 - 2 * ((i:Int) % 2)):=by
  rcases Int.emod_two_eq (i:Int) with e | e
  .rw[e];simp;lia
  .rw[e];simp;lia
 generalize (qq+30) * (1 - 2 * ((i:Int) % 2))=zz at *
 match j,a with
 | 0,_=>exact #[_,rfl,by lia,by lia]
 | 1,_=>exact #[_,rfl,by lia,by lia]
 | 2,_=>exact #[_,rfl,by lia,by lia]
 | 3,_=>exact #[_,rfl,by lia,by lia]
 | 4,_=>exact #[_,rfl,by lia,by lia]
 | 5,_=>exact #[_,rfl,by lia,by lia]
abbrev df (n most many kd x:Int) (ps:List Pt) (v6 v7 v8 v9:Option (L3.D×Fl)):Sto:=[some (.lst [.int n],.u),#v[.int most],#v[.int many],#v[.int kd],#v[.int x],some (.lst (ps.map Pd),.u),v6,v7,v8,v9]
theorem tG {n most many kd x y0:Int} {ps:List Pt} {v6 v7 v8:Option (L3.D×Fl)} (R:Rising ps) (o:∀ p∈ps,Small p) (r:ps.length<=12) :
  ∃ y,iw cP dW (df n most many kd x ps v6 v7 v8 #v[.int y0])=some (.ok .nx,df n most many kd x ps v6 v7 v8 #v[.int y])/\Bi ps (x,y)/\y0<=y/\y<=y0+144:=by
 have g:above ps x y0<=144:=by
  have h1:=Be ps x y0
  have h2:ps.length * ps.length<=12 * 12:=Nat.mul_le_mul (by lia) (by lia)
  lia
 obtain ⟨Z',e,y,rfl,hf,h1,h2⟩:=wl (c:=cP) (b:=dW) (λm Z=>∃ y:Int,Z=df n most many kd x ps v6 v7 v8 #v[.int y]/\m=above ps x y/\y0<=y/\y+(above ps x y:Int)<=y0+(above ps x y0:Int))
  (λZ=>∃ y:Int,Z=df n most many kd x ps v6 v7 v8 #v[.int y]/\Bi ps (x,y)/\y0<=y/\y<=y0+144) (Z:=df n most many kd x ps v6 v7 v8 #v[.int y0]) #[y0,rfl,rfl,Int.le_refl _,Int.le_refl _] (by
   rintro m Z ⟨y,rfl,rfl,h1,h2⟩
   obtain ⟨b,k,l,hf⟩:=yV ps (x,y) o (by lia)
   have f:cP (df n most many kd x ps v6 v7 v8 #v[.int y])=some (.ok (!b),df n most many kd x ps v6 v7 v8 #v[.int y]):=by
    unfold cP
    nomatch [k]
   cases b with
   | true=>exact .inl #[_,f,y,rfl,l rfl,h1,by lia]
   | false =>
    obtain ⟨i,j,p,q,a,e1,h,h0⟩:=hf rfl
    have d:=Bd R a e1 h h0
    exact .inr #[_,df n most many kd x ps v6 v7 v8 #v[.int (y+1)],_,f,.inl (by unfold dW;(nofun)),d,y+1,rfl,rfl,by lia,by lia])
 exact #[y,e,hf,h1,h2]
theorem yR {n most many kd x:Int} {i:Nat} {ps:List Pt} {v7 v8 v9:Option (L3.D×Fl)} (R:Rising ps) (r:∀ p∈ps,Small p) (v:ps.length<=12) (hi:i < 12) (k0:0<=kd) (k1:kd < 6) :
  ∃ (o d y:Int) (e b a:Option (L3.D×Fl)),cQ (df n most many kd x ps #v[.int i] v7 v8 v9)=some (.ok .nx,df o most many kd (x+1+d) (ps++[(x+1+d,y)]) #v[.int i] e b a)/\0<=d/\d < 3/\Bi ps (x+1+d,y)/\-16000<=y/\y<=16144:=by
 have t:=l8
 have B:=eY (n / 3) 31 (by decide)
 have f:=eY n 3 (by decide)
 generalize q:n / 3 % 31 - 15=G at *
 obtain ⟨y0,k,A,w⟩:=Bo (i:=i) (g:=G) (kd:=kd) hi (by lia) (by lia) k0 k1
 have h:-18446744073709551616 < (i:Int)/\(i:Int) < 18446744073709551616:=by lia
 have s:-18446744073709551616 < 1 - 2 * ((i:Int) % 2)/\1 - 2 * ((i:Int) % 2) < 18446744073709551616:=by lia
 generalize c:x+1+n % 3=X at *
 obtain ⟨y,l,hf,h1,h2⟩:=tG (n:=n / 3 / 31) (most:=most) (many:=many) (kd:=kd) (x:=X) (y0:=y0) (ps:=ps) (v6:=#v[.int i]) (v7:=#v[.int G]) (v8:=some (.lst [.int G,.int G,.int ((i:Int) * i+G / 9),.int (G / 9 - (i:Int) * i),.int (((i:Int) * i+30) * (1 - 2 * ((i:Int) % 2))),.int (G * 1000)],.u)) R r v
 refine #[n / 3 / 31,n % 3,y,#v[.int G],some (.lst [.int G,.int G,.int ((i:Int) * i+G / 9),.int (G / 9 - (i:Int) * i),.int (((i:Int) * i+30) * (1 - 2 * ((i:Int) % 2))),.int (G * 1000)],.u),#v[.int y],?_,f.1,f.2,by rw[c];exact hf,by lia,by lia]
 rw[c]
 have m:(ps.map Pd).length < 16777216:=by simp;lia
 have j:=uP (d:=Pd (X,y)) m
 rw[show ps.map Pd++[Pd (X,y)]=(ps++[(X,y)]).map Pd by simp] at j
 clear hi
 generalize (i:Int)=zi at *
 unfold cQ
 apply ao (Z1:=df (n / 3) most many kd X ps #v[.int zi] v7 v8 v9)
 .rw[<- c]
  nomatch [(t _ _ (by decide))]
 apply ao (Z1:=df (n / 3 / 31) most many kd X ps #v[.int zi] #v[.int G] v8 v9)
 .rw[<- q]
  nomatch [(t _ _ (by decide))]
 apply ao (Z1:=df (n / 3 / 31) most many kd X ps #v[.int zi] #v[.int G] (some (.lst [.int G,.int G,.int (zi * zi+G / 9),.int (G / 9 - zi * zi)],.u)) v9)
 .exists gz h
 apply ao (Z1:=df (n / 3 / 31) most many kd X ps #v[.int zi] #v[.int G] (some (.lst [.int G,.int G,.int (zi * zi+G / 9),.int (G / 9 - zi * zi),.int ((zi * zi+30) * (1 - 2 * (zi % 2))),.int (G * 1000)],.u)) v9)
 .exists gz h,gz (by decide),zZ s,zZ (by decide)
 apply ao (Z1:=df (n / 3 / 31) most many kd X ps #v[.int zi] #v[.int G] (some (.lst [.int G,.int G,.int (zi * zi+G / 9),.int (G / 9 - zi * zi),.int ((zi * zi+30) * (1 - 2 * (zi % 2))),.int (G * 1000)],.u)) #v[.int y0])
 .exists k
 apply ao
 .exact l
 .exists j
theorem yU {n most many kd x:Int} (hm:0<=many/\many<=12) (k0:0<=kd) (k1:kd < 6) (x0:-4<=x) (u:x<=4) :
  ∃ (g h:Int) (ps:List Pt) (v6 v7 v8 v9:Option (L3.D×Fl)),cj (aP bV (aa (ac 2) ah)) (al 6) cQ (df n most many kd x [] none none none none)=some (.ok .nx,df g most many kd h ps v6 v7 v8 v9)/\(ps.length:Int)=many/\Rising ps/\NoLine ps/\(∀ q∈ps,-5<=q.1/\q.1<=100/\-17000<=q.2/\q.2<=17000):=by
 obtain ⟨Z',e,g,h,ps,v6,v7,v8,v9,rfl,l,c,f,bnd,h1,h2⟩:=bC (bnd:=al 6) (b:=cQ) (λi Z=>∃ (n x:Int) (ps:List Pt) (v6 v7 v8 v9:Option (L3.D×Fl)),Z=df n most many kd x ps v6 v7 v8 v9/\ps.length=i/\Rising ps/\NoLine ps/\(∀ q∈ps,q.1<=x/\-5<=q.1/\-17000<=q.2/\q.2<=17000)/\-4<=x/\x<=4+3 * (i:Int))
  (ds:=aS 0 many.toNat) (Z:=df n most many kd x [] none none none none) (k:=0) #[n,x,[],none,none,none,none,rfl,rfl,λ_ _ _ _ _ e _=>by simp at e,λ_ _ _ _ _ _ _ _ e _ _=>by simp at e,λ_ e=>by simp at e,by lia,by lia] (by
   rintro i d Z hd ⟨n,x,ps,v6,v7,v8,v9,rfl,l,c,f,bnd,h1,h2⟩
   obtain ⟨hi,rfl⟩:=cI hd
   have j:∀ q∈ps,Small q:=λq a=>by
    obtain ⟨a1,a2,a3,a4⟩:=bnd q a
    exact #[by lia,by lia,by lia,by lia]
   obtain ⟨g,dd,y,r,o,m,e,s,v,fr,y0,t⟩:=yR (n:=n) (most:=most) (many:=many) (kd:=kd) (x:=x) (i:=i) (ps:=ps) (v7:=v7) (v8:=v8) (v9:=v9) c j (by lia) (by lia) k0 k1
   refine #[df n most many kd x ps #v[.int i] v7 v8 v9,_,by rw[Int.zero_add];rfl,.inl e,g,x+1+dd,ps++[(x+1+dd,y)],_,_,_,_,rfl,by simp;lia,c.snoc λq a=>?_,f.snoc fr,λq a=>?_,by lia,by lia]
   .show q.1 < x+1+dd
    have:=(bnd q a).1
    lia
   .rcases G9.mp a with a | a
    .obtain ⟨a1,a2,a3,a4⟩:=bnd q a
     exact #[by lia,by lia,by lia,by lia]
    .have e:q=(x+1+dd,y):=by simpa using a
     subst e
     exact #[Int.le_refl _,by show -5<=x+1+dd;lia,by show -17000<=y;lia,by show y<=17000;lia])
 rw[bp] at l h2
 have p:bV [.int many]=some (aS 0 many.toNat):=cJ (by lia) rfl
 refine #[g,h,ps,v6,v7,v8,v9,?_,by lia,c,f,λq a=>?_]
 .apply dQ
  ·(repeat' (first | with_reducible apply cb (h3:=p) | infer_instance | eq_refl))
  .rfl
  .exact e
 .obtain ⟨a1,a2,a3,a4⟩:=bnd q a
  exact #[by lia,by lia,by lia,by lia]
abbrev scJ (p:Pt):Pt:=jm 1000000000000 1000000000 7 p
theorem pow12:zF (.int 10) (.int 12)=#v[.int 1000000000000]:=rfl
theorem pow9:zF (.int 10) (.int 9)=#v[.int 1000000000]:=rfl
theorem wH (ps:List Pt) (f:ps.length<=24) {n most many kd x:Int} {v6 v7 v8 v9:Option (L3.D×Fl)}:aZ 5 dU (df n most many kd x ps v6 v7 v8 v9)=some (.ok .nx,df n most many kd x (ps.map scJ) v6 v7 v8 v9):=by
 obtain ⟨O',e,a,b,rfl⟩:=bx (bnd:=j7 2 (cz (al 0) (cz (al 1) j8))) (c:=fI) (elt:=gf) (λO=>∃ a b,O=[a,b]) Pd (λ_=>true) (λp=>Pd (scJ p)) (xs:=ps) (O:=[none,none]) #[none,none,rfl] (by
  rintro p g O ⟨a,b,rfl⟩
  exact #[[#v[.int p.1],#v[.int p.2]],_,rfl,rfl,(λh=>by cases h),λ_=>#[.val (Pd (scJ p)) .z,[#v[.int p.1],#v[.int p.2]],(Pd (scJ p),.z),_,by unfold gf;(exists pow12,pow9,gz (by decide)),rfl,rfl,_,_,rfl]])
 rw[HF.mpr (λ_ _=>rfl)] at e
 have d:dU (df n most many kd x ps v6 v7 v8 v9)=some (.ok (.val (.lst (ps.map λp=>Pd (scJ p))) .u),df n most many kd x ps v6 v7 v8 v9):=ba (rs:=[.pl 5]) (Z1:=df n most many kd x ps v6 v7 v8 v9) (Z2:=[some (.lst [.int n],.u),#v[.int most],#v[.int many],#v[.int kd],#v[.int x],some (.lst (ps.map Pd),.l),v6,v7,v8,v9]) rfl e (by simp;lia) rfl
 rw[show (ps.map λp=>Pd (scJ p))=(ps.map scJ).map Pd by simp] at d
 exact sk d rfl (Nat.le_of_ble_eq_true rfl) rfl
theorem wG (n most:Int) (h1:1<=most) (h2:most<=12):∃ (b:Int) (ps:List Pt),fL [(.lst [.int n],.u),(.int most,.z)]=some (.ok (.tup (ps.map Pd),.z),[(.lst [.int b],.u),(.int most,.z)])/\GoodSh ps/\(ps.length:Int)<=most:=by
 have t:=l8
 have a0:=eY n most (by lia)
 have b0:=eY (n / most) 6 (by decide)
 have k:=eY (n / most / 6) 9 (by decide)
 obtain ⟨b,i,ps,v6,v7,v8,v9,e,j,d,c,bnd⟩:=yU (n:=n / most / 6 / 9) (most:=most) (many:=1+n % most) (kd:=n / most % 6) (x:=n / most / 6 % 9 - 4) #[by lia,by lia] b0.1 b0.2 (by lia) (by lia)
 have good:GoodSh ps:=⟨by lia,by lia,λq g=>by
  obtain ⟨a1,a2,a3,a4⟩:=bnd q g
  exact ⟨by lia,by lia,by lia,by lia⟩,d,c⟩
 have a:GoodSh (ps.map scJ):=⟨by simpa using good.pos,by simpa using good.most,λq g=>by
  obtain ⟨r,f,rfl⟩:=Hg.mp g
  obtain ⟨a1,a2,a3,a4⟩:=bnd r f
  exact ⟨by show -(2 ^ 62) < (1000000000000:Int) * r.1+7;lia,by show (1000000000000:Int) * r.1+7 < 2 ^ 62;lia,by show -(2 ^ 62) < (1000000000:Int) * r.2;lia,by show (1000000000:Int) * r.2 < 2 ^ 62;lia⟩,d.scale (by decide),c.scale (by decide) (by decide)⟩
 have pre:∀ {r:Option (Except L3.D Flw×Sto)},aC (sIf (cB (aj eqX (au bE (aa (ac 0) (aa (mC (.int 6)) ah))) (mC (.int 5)))) (aZ 5 dU) dI) (aR 2 (av Bs (aa (ac 5) ah))) (df b most (1+n % most) (n / most % 6) i ps v6 v7 v8 v9)=r->oG [some (.lst [.int n],.u),#v[.int most],none,none,none,none,none,none,none,none]=r:=by
  intro r f
  apply ao (Z1:=[some (.lst [.int (n / most)],.u),#v[.int most],#v[.int (1+n % most)],none,none,none,none,none,none,none])
  .nomatch [(t n most (by lia))]
  apply ao (Z1:=[some (.lst [.int (n / most / 6)],.u),#v[.int most],#v[.int (1+n % most)],#v[.int (n / most % 6)],none,none,none,none,none,none])
  .nomatch [(t _ _ (by decide))]
  apply ao (Z1:=[some (.lst [.int (n / most / 6 / 9)],.u),#v[.int most],#v[.int (1+n % most)],#v[.int (n / most % 6)],#v[.int (n / most / 6 % 9 - 4)],none,none,none,none,none])
  .nomatch [(t _ _ (by decide))]
  apply ao (Z1:=df (n / most / 6 / 9) most (1+n % most) (n / most % 6) (n / most / 6 % 9 - 4) [] none none none none)
  .nofun
  exact ao e f
 by_cases h:b % 6=5
 .refine #[b / 6,ps.map scJ,?_,a,by rw[Hb];lia]
  apply aU (Z:=[some (.lst [.int n],.u),#v[.int most],none,none,none,none,none,none,none,none]) rfl rfl
  .apply pre
   apply ao
   .apply lg
    .nomatch [(t _ _ (by decide))]
    .exact Hn h
    .exact wH ps (by lia)
   .nofun
  .rfl
 .refine #[b / 6,ps,?_,good,by lia]
  apply aU (Z:=[some (.lst [.int n],.u),#v[.int most],none,none,none,none,none,none,none,none]) rfl rfl
  .apply pre
   apply ao
   .apply dF
    .nomatch [(t _ _ (by decide))]
    .exact Ho h
    .rfl
   .nofun
  .rfl
section
variable {Z Z1 Z2:Sto} {ms:M3 (List R3)} {rs:List R3} {d:L3.D} {fl:Fl} {e:L3.D} {m:EM} {sa sb:SM} {n:Nat}
theorem eW {F:Fn} {ps qs:List (L3.D×Fl)} (a:F ps=some (.ok (d,fl),qs)) (h1:ms Z=some (.ok rs,Z1)) (h2:prs (frz (eE rs) Z1) rs=some ps) (h3:qs.length=ps.length) (b:back rs ps qs (frz (eE rs) Z1)=Z2):ib F ms Z=some (.ok (.val d fl),Z2):=by
 simp only[ib,af,h1,h2,a,h3,if_true,b]
theorem lN {F:Fn} {ps qs:List (L3.D×Fl)} (a:F ps=some (.error e,qs)) (h1:ms Z=some (.ok rs,Z1)) (h2:prs (frz (eE rs) Z1) rs=some ps) (h3:qs.length=ps.length) (b:back rs ps qs (frz (eE rs) Z1)=Z2):ib F ms Z=some (.error e,Z2):=by
 simp only[ib,af,h1,h2,a,h3,if_true,b]
theorem uq (h:sa Z=some (.error e,Z1)):aC sa sb Z=some (.error e,Z1):=by simp only[aC,af,h]
theorem Ay (h:m Z=some (.error e,Z1)):aR n m Z=some (.error e,Z1):=by simp only[aR,af,h]
theorem vI (h:m Z=some (.error e,Z1)):cH m Z=some (.error e,Z1):=by simp only[cH,af,h]
theorem DS {mask:List Bool} {ps qs:List (L3.D×Fl)} (h1:ps.length=mask.length) (h0:eD n (List.zipWith lz mask ps)=Z) (h2:sa Z=some (.error e,Z1)) (h3:dM Z1 0 (List.zipWith lz mask ps)=some qs):fnM mask n sa ps=some (.error e,qs):=by
 subst h0;simp only[fnM,h1,if_true,fn0,h2,h3,Hw]
theorem Ax {cs:List String} {i:Nat} {c:String} (h1:sa Z=some (.error (.exc c []),Z1)) (a:c∈cs) (h2:sb (Z1.set i #v[.exc c []])=some (.ok (.rt d fl),Z2)):pq cs i sa sb Z=some (.ok (.rt d fl),Z2):=by
 simp only[pq,h1,a,if_true,h2]
theorem Aw {cs:List String} {i:Nat} (h1:sa Z=some (.ok (.rt d fl),Z1)):pq cs i sa sb Z=some (.ok (.rt d fl),Z1):=by
 simp only[pq,h1]
end
def bO (ps:List Pt) (i:Nat):Pt:=ps.getD i (0,0)
theorem rB {ps:List Pt} {i:Nat} (h:i < ps.length):ps[i]?=some (bO ps i):=by
 simp[bO,List.getD,G7 h]
theorem fZ {ps:List Pt} {i:Nat} (a:∀ p∈ps,Small p) (h:i < ps.length):Small (bO ps i):=a _ (He (rB h))
theorem kc {ps:List Pt} {i:Nat} (h:i < ps.length):aH (Shd ps) (.int i)=#v[Pd (bO ps i)]:=io (xW (rB h))
def tq (ps:List Pt) (t:Tri):Int:=qJ (bO ps t.1) (bO ps t.2.1) (bO ps t.2.2)
abbrev tk (t:Tri):List Key:=[.inl (t.1:Int),.inl (t.2.1:Int),.inl (t.2.2:Int)]
theorem yj {t u:Tri} (h:tk t=tk u):t=u:=by
 simp only[tk,List.cons.injEq,Sum.inl.injEq,and_true] at h
 exact Prod.ext (by lia) (Prod.ext (by lia) (by lia))
def tb (ps:List Pt) (l:List Tri):List (List Key×L3.D):=l.map λt=>(tk t,.int (tq ps t))
theorem Fi {ps:List Pt} {l:List Tri} {t:Tri} (h:t ∉ l):fj (tb ps l) (tk t) (.int (tq ps t))=tb ps (l++[t]):=by
 have a:¬ ((tb ps l).any λb=>decide (b.1=tk t))=true:=by
  intro c
  obtain ⟨x,d,e⟩:=List.any_eq_true.mp c
  obtain ⟨u,hu,rfl⟩:=Hg.mp d
  exact h (yj (of_decide_eq_true e) ▸ hu)
 unfold fj
 rw[if_neg a]
 unfold tb
 rw[List.map_append]
 rfl
theorem AC {ps:List Pt} {t:Tri}:∀ {l:List Tri},t∈l->cC (tb ps l) (tk t)=some (.int (tq ps t))
 | u::l,h=>by
  unfold cC tb
  rw[Hm,List.find?_cons]
  by_cases e:tk u=tk t
  .rw[yj e];simp
  .have:t∈l:=by
    rcases G6.mp h with rfl | h
    .exact absurd rfl e
    .exact h
   have a:=AC (ps:=ps) this
   unfold cC tb at a
   simp only[e,decide_false]
   exact a
theorem EA {ps:List Pt} {l:List Tri} {t:Tri} (h:t ∉ l) (a:l.length < 16777216):tz (.dt (tb ps l)) [Td t,.int (tq ps t)]=some (.dt (tb ps (l++[t])),.non):=by
 show (if (tb ps l).length < 16777216 then some (L3.D.dt (fj (tb ps l) (tk t) (.int (tq ps t))),L3.D.non) else none)=_
 rw[if_pos (by unfold tb;rw[Hb];exact a),Fi h]
theorem sY:∀ n:Nat,n<=9->(jc n).Nodup
 | 0,_=>by decide +kernel
 | 1,_=>by decide +kernel
 | 2,_=>by decide +kernel
 | 3,_=>by decide +kernel
 | 4,_=>by decide +kernel
 | 5,_=>by decide +kernel
 | 6,_=>by decide +kernel
 | 7,_=>by decide +kernel
 | 8,_=>by decide +kernel
 | 9,_=>by decide +kernel
 | n+10,h=>absurd h (by lia)
theorem yi:∀ n:Nat,n<=9->(jc n).length<=84
 | 0,_=>by decide +kernel
 | 1,_=>by decide +kernel
 | 2,_=>by decide +kernel
 | 3,_=>by decide +kernel
 | 4,_=>by decide +kernel
 | 5,_=>by decide +kernel
 | 6,_=>by decide +kernel
 | 7,_=>by decide +kernel
 | 8,_=>by decide +kernel
 | 9,_=>by decide +kernel
 | n+10,h=>absurd h (by lia)
theorem wu {α:Type} {l:List α} {m:Nat} {t:α} (h:l[m]?=some t):l.take (m+1)=l.take m++[t]:=by
 rw[List.take_add_one,h];rfl
theorem t6 {α:Type} {l:List α} {m:Nat} {t:α} (nd:l.Nodup) (h:l[m]?=some t):t ∉ l.take m:=by
 rw[<- List.take_append_drop m l] at nd
 intro hm
 refine (List.nodup_append.mp nd).2.2 t hm t ?_ rfl
 refine He (i:=0) ?_
 rw[List.getElem?_drop]
 exact h
theorem x4 {ps:List Pt} (g:GoodSh ps) {t:Tri} (h1:t.1 < t.2.1) (h2:t.2.1 < t.2.2) (h3:t.2.2 < ps.length) {l:List Tri} (b:t ∉ l) (a:l.length < 16777216):cT [#v[Shd ps],some (.dt (tb ps l),.u),#v[Td t]]=some (.ok .nx,[#v[Shd ps],some (.dt (tb ps (l++[t])),.u),#v[Td t]]):=by
 obtain ⟨i,j,k⟩:=t
 dsimp only at h1 h2 h3
 have f:d5 [(Shd ps,.z),(Td (i,j,k),.z)]=some (.ok (.int (tq ps (i,j,k)),.z),[(Shd ps,.z),(Td (i,j,k),.z)]):=tF (kc (ps:=ps) (i:=i) (by lia)) (kc (ps:=ps) (i:=j) (by lia)) (kc (ps:=ps) (i:=k) (by lia)) (fZ g.small (show i < ps.length by lia)) (fZ g.small (show j < ps.length by lia))
 have e:=EA (ps:=ps) b a
 unfold cT
 have c:au d5 (aa (ac 0) (aa (ac 2) ah)) [#v[Shd ps],some (.dt (tb ps l),.u),#v[Td (i,j,k)]]=some (.ok (.val (.int (tq ps (i,j,k))) .z),[#v[Shd ps],some (.dt (tb ps l),.u),#v[Td (i,j,k)]]):=by (nomatch [f])
 exact vG (i:=1) (Z2:=[#v[Shd ps],some (.dt (tb ps l),.u),#v[Td (i,j,k)]]) (Z3:=[#v[Shd ps],some (.dt (tb ps l),.u),#v[Td (i,j,k)]]) c rfl (ay (i:=2) rfl) rfl rfl e
theorem rf {ps:List Pt} (g:GoodSh ps) (f:ps.length<=9):cA [(Shd ps,.z)]=some (.ok (.dt (tb ps (jc ps.length)),.u),[(Shd ps,.z)]):=by
 have nd:=sY ps.length f
 have l:=yi ps.length f
 obtain ⟨Z',e,v2,rfl⟩:=bC (bnd:=al 2) (b:=cT) (λm Z=>∃ v2,Z=[#v[Shd ps],some (.dt (tb ps ((jc ps.length).take m)),.u),v2]) (ds:=(jc ps.length).map Td) (Z:=[#v[Shd ps],some (.dt [],.u),none]) (k:=0) #[none,rfl] (by
  rintro m d Z hd ⟨v2,rfl⟩
  rw[Hr]
  rw[Hh] at hd
  obtain ⟨t,a,rfl⟩:=G3.mp hd
  obtain ⟨i,h,j⟩:=rT (He a)
  rw[wu a]
  exact #[_,_,rfl,.inl (x4 g i h j (t6 nd a) (by rw[Hv];lia)),_,rfl])
 rw[Hr,Hb,List.take_length] at e
 have c:=wK g
 have th:=l7 ps.length (by lia)
 have hlen:cq [Shd ps]=#v[.int (ps.length:Nat)]:=by simp[pU,c1]
 apply aU (Z:=[#v[Shd ps],none,none]) rfl rfl
 .apply ao (Z1:=[#v[Shd ps],none,none])
  .exact fA (aw c (ak (ay rfl) aG) rfl rfl rfl)
  .apply ao (Z1:=[#v[Shd ps],some (.dt [],.u),none])
   .rfl
   .apply ao
    .apply dQ
     .nomatch [th],[hlen]
     .rfl
     .exact e
    .nofun
 .rfl
abbrev k3 (i j k:Nat):List Key:=[.inl (i:Int),.inl (j:Int),.inl (k:Int)]
structure Sg where
 length:Nat
 f:Nat->Nat->Nat->Int
def trn (ps:Sg) (i j k:Nat):Int:=ps.f i j k
def o5 (ps:Sg) (T:List (List Key×L3.D)):Prop:=∀ i j k,i < j->j < k->k < ps.length->cC T (k3 i j k)=some (.int (trn ps i j k))
theorem wZ {n i j k:Nat} (h1:i < j) (h2:j < k) (h3:k < n):(i,j,k)∈jc n:=by
 refine HG.mpr #[i,List.mem_range.mpr (by lia),HG.mpr #[j - (i+1),List.mem_range.mpr (by lia),Hg.mpr #[k - (j+1),List.mem_range.mpr (by lia),?_]]]
 refine Prod.ext rfl (Prod.ext ?_ ?_) <;> simp <;> lia
theorem sub3 {kvs:List (List Key×L3.D)} {i j k:Nat} {d:L3.D} (h:cC kvs (k3 i j k)=some d):aH (.dt kvs) (.tup [.int i,.int j,.int k])=#v[d]:=by
 show (cC kvs (k3 i j k)).map (λd=>(d,Fl.z))=_
 rw[h];rfl
def sgn (ps:List Pt):Sg:=#[ps.length,λi j k=>qJ (bO ps i) (bO ps j) (bO ps k)]
theorem qH (ps:List Pt):o5 (sgn ps) (tb ps (jc ps.length)):=λi j k h1 h2 h3=>AC (t:=(i,j,k)) (wZ h1 h2 h3)
abbrev Nd (l:List Nat):List L3.D:=l.map λ(i:Nat)=>L3.D.int (i:Int)
def el (L:List Nat) (i:Nat):Nat:=L.getD i 0
theorem jv {L:List Nat} {i:Nat} (h:i < L.length):L[i]?=some (el L i):=by simp[el,List.getD,h]
theorem qf {L:List Nat} {i:Nat} (h:i < L.length):el L i∈L:=He (jv h)
theorem wg {α:Type} (b:α->Bool):∀ xs:List α,eZ (xs.map λx=>L3.D.bl (b x))=some (xs.map b)
 | []=>rfl
 | x::xs=>by simp[eZ,wg b xs]
theorem GQ {α:Type} (b:α->Bool) (xs:List α):Bb [.lst (xs.map λx=>L3.D.bl (b x))]=#v[.bl (xs.all b)]:=by
 show (eZ _).map _=_
 rw[wg]
 simp[List.all_map]
theorem GO {xs:List L3.D} {i:Nat} {d:L3.D} (h:xs[i]?=some d):L2.atI xs (i:Int)=some d:=by
 have lt:=(Hc.mp h).1
 unfold L2.atI L2.ixN
 rw[if_pos (by lia),if_pos (by lia)]
 simpa using h
theorem Bg {r:List Nat} {i:Nat} (h:i < r.length):(Nd r)[i]?=some (.int (el r i)):=by rw[Hh,jv h];rfl
theorem o9 {r:List Nat} {i:Nat} (h:i < r.length):aH (.tup (Nd r)) (.int (i:Int))=#v[.int (el r i)]:=io (GO (Bg h))
theorem Di {xs:List L3.D} {d:L3.D} (h:xs[xs.length - 1]?=some d):L2.atI xs (-1)=some d:=by
 have lt:=(Hc.mp h).1
 unfold L2.atI L2.ixN
 rw[if_neg (by decide),if_pos (by lia)]
 rw[show ((-1:Int)+(xs.length:Int)).toNat=xs.length - 1 by lia,Option.bind_some]
 exact h
structure Ris (n:Nat) (r:List Nat):Prop where
 up:r.Pairwise (· < ·)
 lt:∀ x∈r,x < n
theorem Ris.at {n:Nat} {r:List Nat} (h:Ris n r) {i j:Nat} (a:i < j) (c:j < r.length):el r i < el r j:=by
 have:=List.pairwise_iff_getElem.mp h.up i j (by lia) c a
 have e1:=jv (L:=r) (i:=i) (by lia)
 have b:=jv (L:=r) (i:=j) c
 rw[G7 (by lia)] at e1 b
 injection e1 with e1
 injection b with b
 lia
theorem u3 {n:Nat}:∀ (r:List Nat) (a:Nat),r.Pairwise (· < ·)->(∀ x∈r,a<=x/\x < n)->r.length<=n - a
 | [],a,_,_=>Nat.zero_le _
 | x::r,a,hp,hb=>by
  rw[List.pairwise_cons] at hp
  have h0:=hb x GX
  have:=u3 r (x+1) hp.2 λy b=>#[hp.1 y b,(hb y (GY _ b)).2]
  rw[Hu]
  lia
theorem Ris.len {n:Nat} {r:List Nat} (h:Ris n r):r.length<=n:=u3 r 0 h.up λx a=>#[Nat.zero_le _,h.lt x a]
def rb (s:Sg) (row:List Nat) (way:Int):Bool:=(List.range (row.length - 2)).all λa=>decide (s.f (el row a) (el row (a+1)) (el row (a+2))=way)
theorem fl_nx {bnd:L3.D->Sto->Option Sto} {b:SM} {d:L3.D} {ds:List L3.D} {Z Z1 Z2:Sto} {x:Option (Except L3.D Flw×Sto)} (h1:bnd d Z=some Z1) (h2:b Z1=some (.ok .nx,Z2)) (h3:dH bnd b ds Z2=x):dH bnd b (d::ds) Z=x:=by
 simp only[dH,h1,af,h2,h3]
theorem fl_rt {bnd:L3.D->Sto->Option Sto} {b:SM} {d:L3.D} {ds:List L3.D} {Z Z1 Z2:Sto} {y:L3.D} {g:Fl} (h1:bnd d Z=some Z1) (h2:b Z1=some (.ok (.rt y g),Z2)):dH bnd b (d::ds) Z=some (.ok (.rt y g),Z2):=by
 simp only[dH,h1,af,h2];rfl
theorem Dv {α:Type} (f:α->Int):∀ l:List α,∃ qs,nB (l.map λx=>L3.D.int (f x))=some qs/\PyData.canLayAll0 qs=true/\PyData.depthAll qs<=10/\qs.length=l.length
 | []=>#[[],rfl,rfl,by decide,rfl]
 | x::l=>by
  obtain ⟨qs,e1,b,c,a⟩:=Dv f l
  refine #[.int (f x)::qs,?_,?_,?_,?_]
  .show (match pyD (.int (f x)),nB (l.map λx=>L3.D.int (f x)) with | some p,some ps=>some (p::ps) | _,_=>none)=_
   rw[e1];rfl
  .simp[PyData.canLayAll0,PyData.canLay0,b]
  .simp[PyData.depthAll,PyData.depth];lia
  .simp[a]
theorem xB {d:L3.D} {p:PyData} (b:eqS d d=none) (h:pyD d=some p) (a:p.canLay0=true) (hd:p.depth<=30):eqX d d=#v[.bl true]:=by
 have h1:eqA d d=some true:=by
  unfold eqA
  rw[b]
  exact AL h a hd
 show (eqA d d).map _=_
 rw[h1];rfl
theorem vz:∀ (l ns:List Int),l.Nodup->(∀ x∈l,x ∉ ns)->l.foldl met ns=ns++l
 | [],ns,_,_=>by simp
 | x::l,ns,hd,hx=>by
  rw[List.nodup_cons] at hd
  rw[List.foldl_cons,show met ns x=ns++[x] from if_neg (hx x GX),vz l (ns++[x]) hd.2 λy a h=>?_]
  .simp
  .rcases G9.mp h with h | h
   .exact hx y (GY _ a) h
   .exact hd.1 (Hy.mp h ▸ a)
theorem ss_is {n:Nat} {r:List Nat} (h:Ris n r) (d:n<=24):ssD [.tup (Nd r)]=some (.lst (Nd r),.u):=by
 have b:=h.len
 have c:bd (Nd r)=some (r.map λx:Nat=>(x:Int)):=by
  clear h b
  induction r with
  | nil=>rfl
  | cons x r ih=>simp[bd,ih]
 have up:(r.map λx:Nat=>(x:Int)).Pairwise (· < ·):=List.pairwise_map.mpr (h.up.imp λa=>by lia)
 have m:=vz (r.map λx:Nat=>(x:Int)) [] (up.imp λa=>by lia) (λ_ _=>List.not_mem_nil)
 rw[List.nil_append] at m
 have st:srt (r.map λx:Nat=>(x:Int))=r.map λx:Nat=>(x:Int):=dy (iq _) (d7 _) (up.imp λa=>by lia)
 show (bd (Nd r)).bind _=_
 rw[c]
 show (if (r.map λx:Nat=>(x:Int)).length < 64 then some ((.lst ((srt ((r.map λx:Nat=>(x:Int)).foldl met [])).map .int),.u):L3.D×Fl) else none)=_
 rw[if_pos (by rw[Hb];lia),m,st,HH]
 rfl
theorem C9 (r:List Nat):eqX (.lst (Nd r)) (.lst (Nd r))=#v[.bl true]:=by
 obtain ⟨qs,e1,b,d,c⟩:=Dv (λi:Nat=>(i:Int)) r
 have a:pyD (.lst (Nd r))=some (.list qs):=by unfold pyD;rw[e1];rfl
 exact xB rfl a (by simp[PyData.canLay0,b]) (by simp[PyData.depth];lia)
theorem jZ {α:Type} {bnd:L3.D->Sto->Option Sto} {b:SM} (D:α->L3.D) (t:α->Bool) (P:Sto->Prop) {r:L3.D} {f:Fl}:∀ {xs:List α} {Z:Sto},P Z->(∀ x∈xs,∀ Z,P Z->∃ Z1 Z2,bnd (D x) Z=some Z1/\b Z1=some (.ok (if t x=true then .nx else .rt r f),Z2)/\P Z2)->∃ Z',dH bnd b (xs.map D) Z=some (.ok (if xs.all t=true then .nx else .rt r f),Z')/\P Z'
 | [],Z,h0,_=>#[Z,rfl,h0]
 | x::xs,Z,h0,hs=>by
  obtain ⟨Z1,Z2,e1,a,h1⟩:=hs x GX Z h0
  rw[Hm,List.all_cons]
  cases c:t x with
  | true =>
   rw[c] at a
   obtain ⟨Z',e,h3⟩:=jZ D t P (xs:=xs) (Z:=Z2) h1 λy d=>hs y (GY _ d)
   exact #[Z',fl_nx e1 a (by rw[Bool.true_and];exact e),h3]
  | false =>
   rw[c] at a
   exact #[Z2,fl_rt e1 a,h1]
theorem tH (i:Int):jb [(.int i,.z)]=some (.ok (.bl true,.z),[(.int i,.z)]):=by kernel_rfl
theorem q9 {n:Nat} {r:List Nat} (h:Ris n r) (m:n<=24):gv [(.tup (Nd r),.z),(.int (n:Int),.z)]=some (.ok (.bl true,.z),[(.tup (Nd r),.z),(.int (n:Int),.z)]):=by
 have o:=h.len
 obtain ⟨O',e,a,rfl⟩:=bx (bnd:=al 0) (c:=fI) (elt:=fq) (λO=>∃ a,O=[a]) (λi:Nat=>L3.D.int (i:Int)) (λ_=>true) (λ_=>.bl true) (xs:=r) (O:=[none]) #[none,rfl] (by
  rintro k g O ⟨a,rfl⟩
  have w:=tH (k:Int)
  exact #[[#v[.int (k:Int)]],_,rfl,rfl,(λh=>by cases h),λ_=>#[.val (.bl true) .z,[#v[.int (k:Int)]],(.bl true,.z),_,by unfold fq;(nomatch [w]),rfl,rfl,_,rfl]])
 rw[HF.mpr (λ_ _=>rfl)] at e
 have a1:=GQ (λ_:Nat=>true) r
 rw[List.all_eq_true.mpr (λ_ _=>rfl)] at a1
 have e1:jh [#v[.tup (Nd r)],#v[.int (n:Int)]]=some (.ok (.val (.lst (r.map λ_=>.bl true)) .u),[#v[.tup (Nd r)],#v[.int (n:Int)]]):=ba (rs:=[.pl 0]) (Z1:=[#v[.tup (Nd r)],#v[.int (n:Int)]]) (Z2:=[#v[.tup (Nd r)],#v[.int (n:Int)]]) rfl e (by rw[Hb];lia) rfl
 obtain ⟨O2,f,v,rfl⟩:=bx (bnd:=al 0) (c:=ft) (elt:=ji) (λO=>∃ a,O=[a,#v[.int (n:Int)]]) (λi:Nat=>L3.D.int (i:Int)) (λ_=>false) (λ_=>.non) (xs:=r) (O:=[none,#v[.int (n:Int)]]) #[none,rfl] (by
  rintro k g O ⟨a,rfl⟩
  have lt:=h.lt k g
  have l:ltI (.int (k:Int)) (.int 0)=#v[.bl false]:=by simp[dn]
  have c1:geI (.int (k:Int)) (.int (n:Int))=#v[.bl false]:=by simp[dn];lia
  refine #[[#v[.int (k:Int)],#v[.int (n:Int)]],[#v[.int (k:Int)],#v[.int (n:Int)]],rfl,?_,λ_=>#[_,rfl],λh=>by cases h]
  unfold ft
  refine lf (b:=false) (Z1:=[#v[.int (k:Int)],#v[.int (n:Int)]]) ?_ rfl ?_
  .exists l
  ·(exists c1))
 rw[List.filter_eq_nil_iff.mpr (λ_ _=>by decide)] at f
 have j:jg [#v[.tup (Nd r)],#v[.int (n:Int)]]=some (.ok (.val (.lst []) .u),[#v[.tup (Nd r)],#v[.int (n:Int)]]):=ba (rs:=[.pl 0]) (Z1:=[#v[.tup (Nd r)],#v[.int (n:Int)]]) (Z2:=[#v[.tup (Nd r)],#v[.int (n:Int)]]) rfl f (by rw[Hb];lia) rfl
 have ss:=ss_is h m
 have li:F7 [.tup (Nd r)]=some (.lst (Nd r),.u):=rfl
 have eq:=C9 r
 have z:neX (.lst []) (.lst [])=#v[.bl false]:=by kernel_rfl
 have d:kA "tuple" (.tup (Nd r))=#v[.bl true]:=rfl
 generalize L3.D.lst (Nd r)=RL at *
 generalize L3.D.tup (Nd r)=R at *
 generalize L3.D.int (n:Int)=N at *
 apply aU (Z:=[#v[R],#v[N]]) (Z1:=[#v[R],#v[N]]) rfl rfl
 .unfold mH
  apply ao (Z1:=[#v[R],#v[N]])
  .refine dF (b:=false) (lf (b:=false) (Z1:=[#v[R],#v[N]]) ?_ rfl ?_) rfl rfl
   .exact jt (gj (C2 (ay rfl) rfl d) rfl)
   .exact jt (gj (bK (ak e1 aG) rfl a1) rfl)
  apply ao (Z1:=[#v[R],#v[N]])
  .exact dF (b:=false) (gj (bW j rfl rfl rfl z) rfl) rfl rfl
  .apply dE
   .exists ss,li,eq
   .rfl
 .rfl
theorem EH {ps:List Pt} (g:GoodSh ps) {i j k:Nat} (h1:i < ps.length) (h2:j < ps.length) (h3:k < ps.length):qA [(Shd ps,.z),(.int i,.z),(.int j,.z),(.int k,.z)]=some (.ok (.bl (decide (aY (bO ps i) (bO ps j) (bO ps k) > 0)),.z),[(Shd ps,.z),(.int i,.z),(.int j,.z),(.int k,.z)]):=by
 have s:=Small.sub (fZ g.small h1) (fZ g.small h2)
 have b:=re (bO ps i) (bO ps j) (bO ps k) s.1 s.2
 have a1:=kc h1
 have a2:=kc h2
 have a3:=kc h3
 generalize bO ps i=p at *
 generalize bO ps j=q at *
 generalize bO ps k=r at *
 have z:gtI (.int (aY p q r)) (.int 0)=#v[.bl (decide (aY p q r > 0))]:=rfl
 generalize Shd ps=H at *
 generalize decide (aY p q r > 0)=B at *
 generalize aY p q r=M at *
 generalize Pd p=p at *
 generalize Pd q=q at *
 generalize Pd r=r at *
 apply aU (Z:=[#v[H],#v[.int i],#v[.int j],#v[.int k]]) (Z1:=[#v[H],#v[.int i],#v[.int j],#v[.int k]]) rfl rfl
 .apply dE
  .nomatch [b],[a1,a2,a3,z]
  .rfl
 .rfl
def way (b:Bool):Int:=if b then 1 else -1
theorem f_way (ps:List Pt) (i j k:Nat) (b:Bool):decide (decide (aY (bO ps i) (bO ps j) (bO ps k) > 0)=b)=decide ((sgn ps).f i j k=way b):=by
 show _=decide ((if 0 < aY (bO ps i) (bO ps j) (bO ps k) then (1:Int) else -1)=way b)
 by_cases h:0 < aY (bO ps i) (bO ps j) (bO ps k)
 .rw[if_pos h,Hn (show aY (bO ps i) (bO ps j) (bO ps k) > 0 from h)]
  cases b <;> rfl
 .rw[if_neg h,Ho (show ¬ aY (bO ps i) (bO ps j) (bO ps k) > 0 from h)]
  cases b <;> rfl
theorem jr (ps:List Pt):cq [Shd ps]=#v[.int (ps.length:Int)]:=by simp[pU,c1]
theorem uL {ps:List Pt} (g:GoodSh ps) {row:List Nat} (h:Ris ps.length row) {k:Nat} (c:k+2 < row.length) {b:Bool}:cR [#v[Shd ps],#v[.tup (Nd row)],#v[.bl b],#v[.int (k:Int)]]=some (.ok (if decide ((sgn ps).f (el row k) (el row (k+1)) (el row (k+2))=way b)=true then .nx else .rt (.bl false) .z),[#v[Shd ps],#v[.tup (Nd row)],#v[.bl b],#v[.int (k:Int)]]):=by
 have f:=EH g (h.lt _ (qf (L:=row) (i:=k) (by lia))) (h.lt _ (qf (L:=row) (i:=k+1) (by lia))) (h.lt _ (qf (L:=row) (i:=k+2) (by lia)))
 have s0:=o9 (r:=row) (i:=k) (by lia)
 have s1:aH (.tup (Nd row)) (.int ((k:Int)+1))=#v[.int (el row (k+1))]:=o9 (r:=row) (i:=k+1) (by lia)
 have s2:aH (.tup (Nd row)) (.int ((k:Int)+2))=#v[.int (el row (k+2))]:=o9 (r:=row) (i:=k+2) (by lia)
 have a:=f_way ps (el row k) (el row (k+1)) (el row (k+2)) b
 rw[<- a]
 generalize decide (aY (bO ps (el row k)) (bO ps (el row (k+1))) (bO ps (el row (k+2))) > 0)=u at *
 have ne:neX (.bl u) (.bl b)=#v[.bl (!decide (u=b))]:=rfl
 generalize Shd ps=H at *
 generalize L3.D.tup (Nd row)=R at *
 unfold cR
 cases hd:decide (u=b) with
 | true =>
  rw[hd] at ne
  refine dF (b:=false) ?_ rfl rfl
  nomatch [f],[s0,s1,s2,ne]
 | false =>
  rw[hd] at ne
  refine lg (b:=true) ?_ rfl (dE i_c rfl)
  nomatch [f],[s0,s1,s2,ne]
theorem tJ {ps:List Pt} (g:GoodSh ps) {row:List Nat} (h:Ris ps.length row) (h2:2<=row.length) {b:Bool}:fO [(Shd ps,.z),(.tup (Nd row),.z),(.bl b,.z)]=some (.ok (.bl (rb (sgn ps) row (way b)),.z),[(Shd ps,.z),(.tup (Nd row),.z),(.bl b,.z)]):=by
 have o:=g.most
 have n:=h.len
 have l:=q9 h (by lia)
 have ln:=jr ps
 have c:cq [.tup (Nd row)]=#v[.int (row.length:Int)]:=by simp[pU,c1]
 have c2:ltI (.int (row.length:Int)) (.int 2)=#v[.bl false]:=by simp[dn];lia
 have d:bV [.int ((row.length:Int) - 2)]=some (aS 0 (row.length - 2)):=cJ (by lia) (by lia)
 obtain ⟨Z',e,v,rfl⟩:=jZ (bnd:=al 3) (b:=cR) (λi:Nat=>L3.D.int (0+(i:Int))) (λk=>decide ((sgn ps).f (el row k) (el row (k+1)) (el row (k+2))=way b)) (λZ=>∃ v,Z=[#v[Shd ps],#v[.tup (Nd row)],#v[.bl b],v]) (r:=.bl false) (f:=.z) (xs:=List.range (row.length - 2)) (Z:=[#v[Shd ps],#v[.tup (Nd row)],#v[.bl b],none]) #[none,rfl] (by
  rintro k m Z ⟨v,rfl⟩
  rw[List.mem_range] at m
  rw[Int.zero_add]
  exact #[_,_,rfl,uL g h (k:=k) (by lia),_,rfl])
 have a:(List.range (row.length - 2)).all (λk=>decide ((sgn ps).f (el row k) (el row (k+1)) (el row (k+2))=way b))=rb (sgn ps) row (way b):=rfl
 rw[a] at e
 have j:dH (al 3) cR (aS 0 (row.length - 2)) [#v[Shd ps],#v[.tup (Nd row)],#v[.bl b],none]=some (.ok (if rb (sgn ps) row (way b)=true then .nx else .rt (.bl false) .z),[#v[Shd ps],#v[.tup (Nd row)],#v[.bl b],v]):=e
 generalize rb (sgn ps) row (way b)=B at *
 generalize Shd ps=H at *
 generalize L3.D.tup (Nd row)=R at *
 generalize L3.D.int (ps.length:Int)=N at *
 generalize (row.length:Int)=M at *
 apply aU (Z:=[#v[H],#v[R],#v[.bl b],none]) (Z1:=[#v[H],#v[R],#v[.bl b],v]) rfl rfl
 .unfold km
  apply ao (Z1:=[#v[H],#v[R],#v[.bl b],none])
  .refine dF (b:=false) (lf (b:=false) (Z1:=[#v[H],#v[R],#v[.bl b],none]) ?_ rfl ?_) rfl rfl
   .exact jt (gj (aw l (ak (ay rfl) (ak (bK (ak (ay rfl) aG) rfl ln) aG)) rfl rfl rfl) rfl)
   .exists c,c2
  cases B with
  | true =>
   apply ao (Z1:=[#v[H],#v[R],#v[.bl b],v])
   .apply dQ
    ·(repeat' (first | with_reducible apply cb (h3:=d) | infer_instance | exact c | eq_refl))
    .rfl
    .exact j
   .exact dE i_c rfl
  | false =>
   apply l4
   apply dQ
   ·(repeat' (first | with_reducible apply cb (h3:=d) | infer_instance | exact c | eq_refl))
   .rfl
   .exact j
 .rfl
abbrev k2 (i j:Nat):List Key:=[.inl (i:Int),.inl (j:Int)]
theorem uj {i j a b:Nat} (h:k2 i j=k2 a b):i=a/\j=b:=by
 simp only[k2,List.cons.injEq,Sum.inl.injEq,and_true] at h
 lia
theorem AD (kvs:List (List Key×L3.D)) (k b:List Key) (v:L3.D):cC (fj kvs k v) b=if b=k then some v else cC kvs b:=by
 unfold fj
 by_cases c:(kvs.any λa=>decide (a.1=k))=true
 .rw[if_pos c]
  induction kvs with
  | nil=>simp at c
  | cons p r ih =>
   unfold cC at *
   rw[Hm,List.find?_cons,List.find?_cons]
   by_cases h1:p.1=k
   .by_cases h2:b=k
    .simp[h1,h2]
    .have h3:¬ (k=b):=λe=>h2 e.symm
     simp only[h1,if_pos,decide_eq_true_eq,h3,decide_false,if_neg h2]
     by_cases f:(r.any λa=>decide (a.1=k))=true
     .have:=ih f
      simpa[h2] using this
     .have h:r.map (λa=>if a.1=k then (a.1,v) else a)=r:=by
       conv=>rhs;rw[<- List.map_id r]
       refine HI λx d=>?_
       have:¬ x.1=k:=λe=>f (List.any_eq_true.mpr #[x,d,Hn e])
       simp[this]
      rw[h]
   .have f:(r.any λa=>decide (a.1=k))=true:=by simpa[h1] using c
    have:=ih f
    simp only[h1,if_false]
    by_cases g:p.1=b
    .have j:¬ (b=k):=λe=>h1 (g.trans e)
     simp[g,j]
    .simp only[g,decide_false]
     exact this
 .rw[if_neg c]
  have i:∀ x∈kvs,¬ x.1=k:=λx d e=>c (List.any_eq_true.mpr #[x,d,Hn e])
  unfold cC
  rw[List.find?_append]
  by_cases h2:b=k
  .subst h2
   have:kvs.find? (λa=>decide (a.1=b))=none:=List.find?_eq_none.mpr λx d=>by simpa using i x d
   simp[this]
  .have h3:¬ (k=b):=λe=>h2 e.symm
   simp[h2,h3]
theorem Cg (kvs:List (List Key×L3.D)) (k:List Key) (v:L3.D):(fj kvs k v).length<=kvs.length+1:=by
 unfold fj
 split <;> simp
theorem Cf {kvs:List (List Key×L3.D)} {k:List Key} {v:L3.D} {x:List Key×L3.D} (h:x∈fj kvs k v):x∈kvs\/x=(k,v):=by
 unfold fj at h
 split at h
 .obtain ⟨y,a,rfl⟩:=Hg.mp h
  by_cases e:y.1=k
  .rw[if_pos e,<- e];exact .inr rfl
  .rw[if_neg e];exact .inl a
 .rcases G9.mp h with h | h
  .exact .inl h
  .exact .inr (Hy.mp h)
theorem BH {kvs:List (List Key×L3.D)} {i j:Nat} {d:L3.D} (h:cC kvs (k2 i j)=some d):aH (.dt kvs) (.tup [.int i,.int j])=#v[d]:=by
 show lh (.dt kvs) (.tup [.int i,.int j])=_
 show (cC kvs (k2 i j)).map (λd=>(d,Fl.z))=_
 rw[h];rfl
theorem set2 {kvs:List (List Key×L3.D)} {i j:Nat} {d:L3.D} (h:kvs.length < 16777216):tz (.dt kvs) [.tup [.int i,.int j],d]=some (.dt (fj kvs (k2 i j) d),.non):=by
 show (if kvs.length < 16777216 then some (L3.D.dt (fj kvs (k2 i j) d),L3.D.non) else none)=_
 rw[if_pos h]
theorem vP (a b:Int):eqX (.int a) (.int b)=#v[.bl (decide (a=b))]:=rfl
structure TbP (kvs:List (List Key×L3.D)) (n:Nat) (f:Nat->Nat->Int) (S:Nat->Nat->Prop) (c:Nat):Prop where
 all:∀ kv∈kvs,∃ i j,i < j/\j < n/\kv=(k2 i j,.int (f i j))
 get:∀ i j,S i j->cC kvs (k2 i j)=some (.int (f i j))
 len:kvs.length<=c
theorem TbP.put {kvs:List (List Key×L3.D)} {n:Nat} {f:Nat->Nat->Int} {S g:Nat->Nat->Prop} {c:Nat} (h:TbP kvs n f S c) {i j:Nat} (h1:i < j) (h2:j < n) (l:∀ a b,g a b->S a b\/(a=i/\b=j)):TbP (fj kvs (k2 i j) (.int (f i j))) n f g (c+1) where
 all:=λk d=>by
  rcases Cf d with d | rfl
  .exact h.all k d
  .exact #[i,j,h1,h2,rfl]
 get:=λa b m=>by
  rw[AD]
  by_cases e:k2 a b=k2 i j
  .obtain ⟨rfl,rfl⟩:=uj e
   rw[if_pos rfl]
  .rw[if_neg e]
   rcases l a b m with h' | ⟨rfl,rfl⟩
   .exact h.get a b h'
   .exact absurd rfl e
 len:=by have:=Cg kvs (k2 i j) (.int (f i j));have:=h.len;lia
theorem TbP.mono {kvs:List (List Key×L3.D)} {n:Nat} {f:Nat->Nat->Int} {S e:Nat->Nat->Prop} {c d:Nat} (h:TbP kvs n f S c) (j:∀ a b,e a b->S a b) (g:c<=d):TbP kvs n f e d:=#[h.all,λa b i=>h.get a b (j a b i),HE h.len g]
def mx1 (l:List Int):Int:=(rM l).getD 1
theorem lL {l:List Int} (h:l≠[]):mx1 l∈l:=by
 cases l with
 | nil=>exact absurd rfl h
 | cons x xs=>exact (gk xs x).1
theorem t7 {l:List Int} {n:Int} (h:n∈l):n<=mx1 l:=by
 cases l with
 | nil=>cases h
 | cons x xs=>exact (gk xs x).2 n h
theorem zX {l:List Int} (h:l≠[]):rM l=some (mx1 l):=by
 cases l with
 | nil=>exact absurd rfl h
 | cons x xs=>rfl
theorem zY {l:List Int} (h:∀ n∈l,1<=n):1<=mx1 l:=by
 cases l with
 | nil=>exact Int.le_refl 1
 | cons x xs=>exact h _ (lL (by simp))
section
variable (w:Nat->Nat->Nat->Bool)
def qi:Nat->Nat->Nat->Int
 | 0,_,_=>2
 | f+1,i,j=>1+mx1 (((List.range i).filter λh=>w h i j).map λh=>qi f h i)
def bF (i j:Nat):Int:=qi w i i j
theorem mU:∀ (f a i j:Nat),i<=f->i<=a->qi w f i j=qi w a i j
 | 0,0,_,_,_,_=>rfl
 | 0,a+1,i,j,h,_=>by
  obtain rfl:i=0:=by lia
  rfl
 | f+1,0,i,j,_,h=>by
  obtain rfl:i=0:=by lia
  rfl
 | f+1,a+1,i,j,h,h'=>by
  unfold qi
  congr 2
  refine HI λk b=>?_
  have b:=List.mem_range.mp (HA.mp b).1
  exact mU f a k i (by lia) (by lia)
theorem j0 (i j:Nat):bF w i j=1+mx1 (((List.range i).filter λh=>w h i j).map λh=>bF w h i):=by
 have h:bF w i j=qi w (i+1) i j:=mU w i (i+1) i j (Hi _) (Nat.le_succ _)
 rw[h]
 show 1+mx1 (((List.range i).filter λh=>w h i j).map λh=>qi w i h i)=_
 congr 2
 refine HI λk a=>?_
 have a:=List.mem_range.mp (HA.mp a).1
 exact mU w i k k i (by lia) (Hi _)
theorem sF:∀ (f i j:Nat),2<=qi w f i j
 | 0,_,_=>Int.le_refl 2
 | f+1,i,j=>by
  show 2<=1+mx1 _
  have:=zY (l:=((List.range i).filter λh=>w h i j).map λh=>qi w f h i) λn a=>by
   obtain ⟨k,_,rfl⟩:=Hg.mp a
   have:=sF f k i
   lia
  lia
theorem AT (i j:Nat):2<=bF w i j:=sF w i i j
theorem xG {h i j:Nat} (hw:w h i j=true) (a:h < i):bF w h i+1<=bF w i j:=by
 rw[j0 w i j]
 have:=t7 (l:=((List.range i).filter λh=>w h i j).map λh=>bF w h i) (n:=bF w h i) (Hg.mpr #[h,HA.mpr #[List.mem_range.mpr a,hw],rfl])
 lia
def ks (n j:Nat):List Nat:=(List.range (n - (j+1))).map λd=>j+1+d
theorem mem_ks {n j k:Nat}:k∈ks n j ↔ j < k/\k < n:=by
 unfold ks
 constructor
 .intro h
  obtain ⟨d,hd,rfl⟩:=Hg.mp h
  have:=List.mem_range.mp hd
  lia
 .intro h
  exact Hg.mpr #[k - (j+1),List.mem_range.mpr (by lia),by lia]
def onF (n:Nat):Nat->Nat->Nat->Int
 | 0,_,_=>2
 | f+1,i,j=>1+mx1 (((ks n j).filter λk=>w i j k).map λk=>onF n f j k)
def onE (n i j:Nat):Int:=onF w n (n - (j+1)) i j
theorem pH (n:Nat):∀ (f a i j:Nat),n - (j+1)<=f->n - (j+1)<=a->onF w n f i j=onF w n a i j
 | 0,0,_,_,_,_=>rfl
 | 0,a+1,i,j,h,_=>by
  have e:ks n j=[]:=by unfold ks;rw[show n - (j+1)=0 by lia];rfl
  unfold onF
  rw[e]
  rfl
 | f+1,0,i,j,_,h=>by
  have e:ks n j=[]:=by unfold ks;rw[show n - (j+1)=0 by lia];rfl
  unfold onF
  rw[e]
  rfl
 | f+1,a+1,i,j,h,h'=>by
  unfold onF
  congr 2
  refine HI λk b=>?_
  have b:=mem_ks.mp (HA.mp b).1
  exact pH n f a j k (by lia) (by lia)
theorem mw (n i j:Nat):onE w n i j=1+mx1 (((ks n j).filter λk=>w i j k).map λk=>onE w n j k):=by
 have h:onE w n i j=onF w n (n - (j+1)+1) i j:=pH w n _ _ i j (Hi _) (Nat.le_succ _)
 rw[h]
 show 1+mx1 (((ks n j).filter λk=>w i j k).map λk=>onF w n (n - (j+1)) j k)=_
 congr 2
 refine HI λk a=>?_
 have a:=mem_ks.mp (HA.mp a).1
 exact pH w n _ _ j k (by lia) (Hi _)
theorem vv (n:Nat):∀ (f i j:Nat),2<=onF w n f i j
 | 0,_,_=>Int.le_refl 2
 | f+1,i,j=>by
  show 2<=1+mx1 _
  have:=zY (l:=((ks n j).filter λk=>w i j k).map λk=>onF w n f j k) λb a=>by
   obtain ⟨k,_,rfl⟩:=Hg.mp a
   have:=vv n f j k
   lia
  lia
theorem CA (n i j:Nat):2<=onE w n i j:=vv w n _ i j
theorem zS {n i j k:Nat} (hw:w i j k=true) (a:j < k) (b:k < n):onE w n j k+1<=onE w n i j:=by
 rw[mw w n i j]
 have:=t7 (l:=((ks n j).filter λk=>w i j k).map λk=>onE w n j k) (n:=onE w n j k) (Hg.mpr #[k,HA.mpr #[mem_ks.mpr #[a,b],hw],rfl])
 lia
inductive Pth (n:Nat):Nat->Nat->Nat->Nat->Nat->Prop
 | nil {i j:Nat}:i < j->j < n->Pth n 0 i j i j
 | cons {m i j k i' j':Nat}:i < j->w i j k=true->Pth n m j k i' j'->Pth n (m+1) i j i' j'
variable {w}
theorem Pth.lt {n m i j d c:Nat} (h:Pth w n m i j d c):i < j/\j < n/\d < c/\c < n:=by
 induction h with
 | nil a b=>exact #[a,b,a,b]
 | cons a _ _ ih=>exact #[a,by lia,ih.2.2]
end
theorem jW {α:Type} (f:α->Int):∀ xs:List α,bd (xs.map λx=>L3.D.int (f x))=some (xs.map f)
 | []=>rfl
 | x::xs=>by simp only[Hm,bd,jW f xs,Hw]
def wv (ps:Sg) (way:Int) (h i j:Nat):Bool:=decide (trn ps h i j=way)
theorem vA {α:Type} (xs:List α) (f:α->Int):pL (.lst (xs.map λx=>L3.D.int (f x))) (.int 1)=#v[.int (mx1 (xs.map f))]:=by
 show (bd (xs.map λx=>L3.D.int (f x))).map _=_
 rw[jW]
 show some _=_
 unfold mx1
 cases h:rM (xs.map f) <;> simp[h]
theorem B2 {a:Int} (c:-1000<=a/\a<=1000) {n:Nat} (d:(a+1).toNat=n):tN [.int a,.int (-1),.int (-1)]=some (jJ a n):=by
 have lm:cy a=true:=Hn (by lia)
 have b:cy (-1)=true:=Hn (by lia)
 show (if (cy a && cy (-1) && ((-1:Int) == -1))=true then some (jJ a (a - (-1)).toNat) else none)=_
 rw[lm,b,show (a - (-1)).toNat=n by lia]
 rfl
theorem zg {hi:Int} {n i:Nat} {d:L3.D} (h:(jJ hi n)[i]?=some d):i < n/\d=.int (hi - i):=by
 unfold jJ at h
 rw[Hh] at h
 obtain ⟨k,a,b⟩:=G3.mp h
 obtain ⟨c,e⟩:=Hc.mp a
 rw[List.getElem_range] at e
 subst e
 rw[List.length_range] at c
 exact #[c,b.symm]
theorem zf {hi:Int} {n:Nat}:(jJ hi n).length=n:=by unfold jJ;simp
theorem An (n j:Nat):aS ((j:Int)+1) (n - (j+1))=(ks n j).map λk:Nat=>L3.D.int (k:Int):=by
 unfold aS ks
 rw[HH]
 refine HI λd _=>?_
 show L3.D.int _=L3.D.int _
 congr 1
section
variable {ps:Sg} {way:Int} {T kvs:List (List Key×L3.D)} {i j n:Nat}
abbrev owS (n:Nat) (way:Int) (T kvs:List (List Key×L3.D)) (a b:Option (L3.D×Fl)):Sto:=[some (.dt T,.u),#v[.int (n:Int)],#v[.int way],some (.dt kvs,.u),a,b]
theorem Cv (l:n=ps.length) (f:o5 ps T) (m:j < n) (hi:i < j) (h:n<=24) (g:∀ k,j < k->k < n->cC kvs (k2 j k)=some (.int (onE (wv ps way) n j k))) :
  cO (owS n way T kvs #v[.int i] #v[.int j])=some (.ok (.val (.lst (((ks n j).filter λk=>wv ps way i j k).map λk=>L3.D.int (onE (wv ps way) n j k))) .u),owS n way T kvs #v[.int i] #v[.int j]):=by
 obtain ⟨O',e,a,rfl⟩:=bx (bnd:=al 0) (c:=bQ) (elt:=bP) (λO=>∃ a,O=[a,some (.dt kvs,.u),#v[.int j],#v[.int way],some (.dt T,.u),#v[.int i]]) (λk:Nat=>L3.D.int (k:Int)) (λk=>wv ps way i j k) (λk=>L3.D.int (onE (wv ps way) n j k)) (xs:=ks n j) (O:=[none,some (.dt kvs,.u),#v[.int j],#v[.int way],some (.dt T,.u),#v[.int i]]) #[none,rfl] (by
  rintro k b O ⟨a,rfl⟩
  have b:=mem_ks.mp b
  have s3:=sub3 (f i j k hi b.1 (by lia))
  have s2:=BH (g k b.1 b.2)
  have c:bQ [#v[.int k],some (.dt kvs,.u),#v[.int j],#v[.int way],some (.dt T,.u),#v[.int i]]=some (.ok (wv ps way i j k),[#v[.int k],some (.dt kvs,.u),#v[.int j],#v[.int way],some (.dt T,.u),#v[.int i]]):=by
   unfold bQ
   exists s3,vP _ _
  have el:bP [#v[.int k],some (.dt kvs,.u),#v[.int j],#v[.int way],some (.dt T,.u),#v[.int i]]=some (.ok (.val (.int (onE (wv ps way) n j k)) .z),[#v[.int k],some (.dt kvs,.u),#v[.int j],#v[.int way],some (.dt T,.u),#v[.int i]]):=by
   unfold bP
   exists s2
  exact #[_,_,rfl,c,λ_=>#[_,rfl],λ_=>#[_,_,_,_,el,rfl,rfl,_,rfl]])
 rw[<- An] at e
 have d:fh [.int ((j:Int)+1),.int (n:Nat)]=some (aS ((j:Int)+1) (n - (j+1))):=i8 (by lia) (by lia) (by lia)
 have im:aP fh (aa (aj bX (ac 5) (mC (.int 1))) (aa (ac 1) ah)) (owS n way T kvs #v[.int i] #v[.int j])=some (.ok ([],aS ((j:Int)+1) (n - (j+1))),owS n way T kvs #v[.int i] #v[.int j]):=by (repeat' (first | with_reducible apply cb (h3:=d) | infer_instance | eq_refl))
 exact ba (rs:=[]) im e (by rw[bp];lia) rfl
theorem Cw (d:n=ps.length) (a:o5 ps T) (f:j < n) (hi:i < j) (b:n<=24) (g:∀ k,j < k->k < n->cC kvs (k2 j k)=some (.int (onE (wv ps way) n j k))) (e:kvs.length < 16777216) :
  bS (owS n way T kvs #v[.int i] #v[.int j])=some (.ok .nx,owS n way T (fj kvs (k2 i j) (.int (onE (wv ps way) n i j))) #v[.int i] #v[.int j]):=by
 have c:=Cv d a f hi b g
 have v:aj bX (mC (.int 1)) (aj pL cO (mC (.int 1))) (owS n way T kvs #v[.int i] #v[.int j])=some (.ok (.val (.int (onE (wv ps way) n i j)) .z),owS n way T kvs #v[.int i] #v[.int j]):=by
  rw[mw]
  exact bW i_c (bW c i_c rfl rfl (vA _ _)) rfl rfl rfl
 unfold bS
 exact vG (i:=3) (Z1:=owS n way T kvs #v[.int i] #v[.int j]) (Z2:=owS n way T kvs #v[.int i] #v[.int j]) (Z3:=owS n way T kvs #v[.int i] #v[.int j]) v rfl (by (nofun)) rfl rfl (set2 e)
theorem EJ (r:n=ps.length) (p:o5 ps T) (q:n<=24) (h2:2<=n):∃ kvs,bY [(.dt T,.u),(.int (n:Int),.z),(.int way,.z)]=some (.ok (.dt kvs,.u),[(.dt T,.u),(.int (n:Int),.z),(.int way,.z)])/\TbP kvs n (onE (wv ps way) n) (λa b=>a < b/\b < n) 1000:=by
 have inner:∀ (i:Nat) (kvs:List (List Key×L3.D)) (g:Option (L3.D×Fl)),i+1 < n->TbP kvs n (onE (wv ps way) n) (λa b=>a < b/\b < n/\i < a) (25 * (n - i)) ->
   ∃ c l,bR (owS n way T kvs #v[.int i] g)=some (.ok .nx,owS n way T c #v[.int i] l)/\TbP c n (onE (wv ps way) n) (λa b=>a < b/\b < n/\i<=a) (25 * (n - i+1)):=by
  intro i kvs g hi tb
  obtain ⟨Z',e,c,l,rfl,f⟩:=bC (bnd:=al 5) (b:=bS) (λm Z=>∃ kvs g,Z=owS n way T kvs #v[.int i] g/\TbP kvs n (onE (wv ps way) n) (λa b=>a < b/\b < n/\(i < a\/(a=i/\b < i+1+m))) (25 * (n - i)+m)) (ds:=aS ((i:Int)+1) (n - (i+1))) (Z:=owS n way T kvs #v[.int i] g) (k:=0) #[kvs,g,rfl,tb.mono (λa b h=>by lia) (by lia)] (by
   rintro m d Z hd ⟨kvs,g,rfl,tb⟩
   obtain ⟨hm,rfl⟩:=cI hd
   rw[Hr] at tb ⊢
   have b:=Cw (way:=way) (kvs:=kvs) (i:=i) (j:=i+1+m) r p (by lia) (by lia) q (λk h1 h2=>tb.get (i+1+m) k #[by lia,by lia,.inl (by lia)]) (by have:=tb.len;lia)
   rw[show ((i+1+m:Nat):Int)=(i:Int)+1+m by lia] at b
   refine #[_,_,rfl,.inl b,_,_,rfl,?_]
   exact (tb.put (i:=i) (j:=i+1+m) (by lia) (by lia) (λa b h=>by lia)).mono (λa b h=>h) (by lia))
  rw[bp,Hr] at f
  have o:fh [.int ((i:Int)+1),.int (n:Nat)]=some (aS ((i:Int)+1) (n - (i+1))):=i8 (by lia) (by lia) (by lia)
  refine #[c,l,?_,f.mono (λa b h=>by lia) (by lia)]
  unfold bR
  apply dQ
  ·(repeat' (first | with_reducible apply cb (h3:=o) | infer_instance | eq_refl))
  .rfl
  .exact e
 obtain ⟨Z',e,c,v4,g,rfl,f⟩:=bC (bnd:=al 4) (b:=bR) (λm Z=>∃ kvs v4 g,Z=owS n way T kvs v4 g/\TbP kvs n (onE (wv ps way) n) (λa b=>a < b/\b < n/\n - 1<=a+m) (25 * (m+2))) (ds:=jJ ((n:Int) - 2) (n - 1)) (Z:=owS n way T [] none none) (k:=0) #[[],none,none,rfl,#[λ_ h=>(by cases h),λa b h=>by lia,by simp]] (by
  rintro m d Z hd ⟨kvs,v4,g,rfl,tb⟩
  obtain ⟨hm,rfl⟩:=zg hd
  rw[Hr] at tb ⊢
  obtain ⟨c,l,e,f⟩:=inner (n - 2 - m) kvs g (by lia) (tb.mono (λa b h=>by lia) (by lia))
  rw[show ((n - 2 - m:Nat):Int)=(n:Int) - 2 - m by lia] at e
  exact #[_,_,rfl,.inl e,_,_,_,rfl,f.mono (λa b h=>by lia) (by lia)])
 rw[zf,Hr] at f
 have o:tN [.int ((n:Int) - 2),.int (-1),.int (-1)]=some (jJ ((n:Int) - 2) (n - 1)):=B2 (by lia) (by lia)
 refine #[c,?_,f.mono (λa b h=>by lia) (by lia)]
 apply aU (Z:=[some (.dt T,.u),#v[.int (n:Int)],#v[.int way],none,none,none]) rfl rfl
 .apply ao (Z1:=owS n way T [] none none)
  .rfl
  .apply ao
   .apply dQ
    ·(repeat' (first | with_reducible apply cb (h3:=o) | infer_instance | eq_refl))
    .rfl
    .exact e
   .nofun
 .rfl
end
theorem jj {P t:List Nat} {a:Nat} (h:a < P.length):el (P++t) a=el P a:=by
 simp[el,List.getD,List.getElem?_append,h]
theorem DK {P t:List Nat} {a:Nat} (h:P.length<=a):el (P++t) a=el t (a - P.length):=by
 have:¬ a < P.length:=by lia
 simp[el,List.getD,List.getElem?_append,this]
structure Rw (w:Nat->Nat->Nat->Bool) (n:Nat) (r:List Nat):Prop where
 two:2<=r.length
 up:∀ a,a+1 < r.length->el r a < el r (a+1)
 lt:∀ a,a < r.length->el r a < n
 ok:∀ a,a+2 < r.length->w (el r a) (el r (a+1)) (el r (a+2))=true
section
variable {w:Nat->Nat->Nat->Bool} {n:Nat}
theorem Rw.pair {i j:Nat} (h1:i < j) (h2:j < n):Rw w n [i,j] where
 two:=Hi _
 up:=λa b=>by
  have:a=0:=by simp at b;lia
  subst this;exact h1
 lt:=λa b=>by
  have:a=0\/a=1:=by simp at b;lia
  rcases this with rfl | rfl
  .show i < n;lia
  .exact h2
 ok:=λa b=>by simp at b;lia
theorem Rw.snoc {r:List Nat} {k:Nat} (h:Rw w n r) (h1:el r (r.length - 1) < k) (h2:k < n) (h3:w (el r (r.length - 2)) (el r (r.length - 1)) k=true):Rw w n (r++[k]):=by
 have h0:=h.two
 have c:el (r++[k]) r.length=k:=by rw[DK (Hi _),Nat.sub_self];rfl
 refine #[by simp;lia,λa b=>?_,λa b=>?_,λa b=>?_]
 .simp at b
  by_cases e:a+1 < r.length
  .rw[jj (by lia),jj e];exact h.up a e
  .rw[jj (by lia),show a+1=r.length by lia,c,show a=r.length - 1 by lia];exact h1
 .simp at b
  by_cases e:a < r.length
  .rw[jj e];exact h.lt a e
  .rw[show a=r.length by lia,c];exact h2
 .simp at b
  by_cases e:a+2 < r.length
  .rw[jj (by lia),jj (by lia),jj e];exact h.ok a e
  .rw[jj (by lia),jj (by lia),show a+2=r.length by lia,c,show a=r.length - 2 by lia,show r.length - 2+1=r.length - 1 by lia];exact h3
theorem Rw.on {r:List Nat} (h:Rw w n r):∀ d a,a+2+d=r.length->2+(d:Int)<=onE w n (el r a) (el r (a+1))
 | 0,a,_=>CA w n _ _
 | d+1,a,e=>by
  have h1:=h.on d (a+1) (by lia)
  have h2:=zS (w:=w) (n:=n) (h.ok a (by lia)) (h.up (a+1) (by lia)) (h.lt (a+2) (by lia))
  rw[show a+1+1=a+2 from rfl] at h1
  lia
end
def lx:Nat->Nat->List (List Nat)
 | 0,_=>[[]]
 | k+1,a=>[]::((lx k (a+1)).map (λr=>a::r)++(lx k (a+1)).tail)
abbrev Pl (l:List (List Nat)):List L3.D:=l.map λp=>L3.D.tup (Nd p)
theorem Ag:∀ (k a:Nat),∀ r∈lx k a,r.Pairwise (· < ·)/\∀ x∈r,a<=x/\x < a+k
 | 0,a,r,h=>by
  rcases Hy.mp h with rfl
  exact #[.nil,λx b=>by cases b]
 | k+1,a,r,h=>by
  rcases G6.mp h with rfl | h
  .exact #[.nil,λx b=>by cases b]
  rcases G9.mp h with h | h
  .obtain ⟨q,c,rfl⟩:=Hg.mp h
   obtain ⟨h1,h2⟩:=Ag k (a+1) q c
   refine #[List.pairwise_cons.mpr #[λx b=>?_,h1],λx b=>?_]
   .have:=h2 x b;lia
   .rcases G6.mp b with rfl | b
    .lia
    .have:=h2 x b;lia
  .obtain ⟨h1,h2⟩:=Ag k (a+1) r (List.mem_of_mem_tail h)
   exact #[h1,λx b=>by have:=h2 x b;lia]
theorem Af {n:Nat} {r:List Nat} (h:r∈lx n 0):Ris n r:=by
 obtain ⟨h1,h2⟩:=Ag n 0 r h
 exact #[h1,λx a=>by have:=h2 x a;lia]
theorem nR:∀ ns:List (List Int),kO (ns.map ntD)=some ns
 | []=>rfl
 | n::ns=>by
  have a:=nR ns
  have e:bd (n.map L3.D.int)=some n:=by
   clear a
   induction n with
   | nil=>rfl
   | cons x n a=>simp[bd,a]
  show (bd (n.map L3.D.int)).bind (λn=>(kO (ns.map ntD)).map (n::·))=_
  rw[e,a];rfl
theorem nW {ns:List (List Int)} {is:List Nat} (h1:Au ns=true) (h2:ns.length<=16777216) (h3:bA ns=some is) (b:is.length<=16777216) (a:(is.all λi=>decide (i < ns.length))=true):lX [.lst (ns.map ntD)]=some (.lst (is.map λi=>ntD (ns.getD i [])),.u):=by
 show (kO (ns.map ntD)).bind _=_
 rw[nR]
 show (if (Au ns && decide (ns.length<=16777216))=true then _ else _)=_
 rw[h1,Hn h2,Bool.and_self,if_pos rfl,h3]
 show (if (decide (is.length<=16777216) && is.all λi=>decide (i < ns.length))=true then _ else _)=_
 rw[a,Hn b,Bool.and_self,if_pos rfl]
theorem fp1:bj [(.int (1:Int),.z)]=some (.ok (.lst (Pl (lx 1 0)),.u),[(.int (1:Int),.z)]):=by kernel_rfl
theorem fp2:bj [(.int (2:Int),.z)]=some (.ok (.lst (Pl (lx 2 0)),.u),[(.int (2:Int),.z)]):=by kernel_rfl
theorem fp3:bj [(.int (3:Int),.z)]=some (.ok (.lst (Pl (lx 3 0)),.u),[(.int (3:Int),.z)]):=by kernel_rfl
theorem fp4:bj [(.int (4:Int),.z)]=some (.ok (.lst (Pl (lx 4 0)),.u),[(.int (4:Int),.z)]):=by kernel_rfl
theorem fp5:bj [(.int (5:Int),.z)]=some (.ok (.lst (Pl (lx 5 0)),.u),[(.int (5:Int),.z)]):=by kernel_rfl
theorem fq6:(cj (aP bV (aa (ac 0) ah)) (al 2) gg) [#v[.int (6:Int)],some (.lst [.tup []],.u),none]=some (.ok .nx,[#v[.int (6:Int)],some (.lst (φ6.map ntD),.u),#v[.int (5:Int)]]):=by kernel_rfl
theorem fr6:(L6_4.map λi=>ntD (φ6.getD i []))=Pl (lx 6 0):=by kernel_rfl
theorem fs6:lX [.lst (φ6.map ntD)]=some (.lst (Pl (lx 6 0)),.u):=by
 rw[<- fr6]
 exact nW (by kernel_rfl) (by decide +kernel) sort6 (by decide +kernel) (by decide +kernel)
theorem fp6:bj [(.int (6:Int),.z)]=some (.ok (.lst (Pl (lx 6 0)),.u),[(.int (6:Int),.z)]):=by
 have s:=fs6
 have q:=fq6
 generalize L3.D.lst (φ6.map ntD)=A at *
 generalize L3.D.lst (Pl (lx 6 0))=B at *
 apply aU (Z:=[#v[.int (6:Int)],none,none]) (Z1:=[#v[.int (6:Int)],some (A,.u),#v[.int (5:Int)]]) rfl rfl
 .unfold kj
  refine ao (Z1:=[#v[.int (6:Int)],some (.lst [.tup []],.u),none]) rfl ?_
  refine ao q ?_
  exact dE (bK (ak (ay rfl) aG) rfl s) rfl
 .rfl
theorem fq7:(cj (aP bV (aa (ac 0) ah)) (al 2) gg) [#v[.int (7:Int)],some (.lst [.tup []],.u),none]=some (.ok .nx,[#v[.int (7:Int)],some (.lst (φ7.map ntD),.u),#v[.int (6:Int)]]):=by kernel_rfl
theorem fr7:(L7_10.map λi=>ntD (φ7.getD i []))=Pl (lx 7 0):=by kernel_rfl
theorem fs7:lX [.lst (φ7.map ntD)]=some (.lst (Pl (lx 7 0)),.u):=by
 rw[<- fr7]
 exact nW (by kernel_rfl) (by decide +kernel) sort7 (by decide +kernel) (by decide +kernel)
theorem fp7:bj [(.int (7:Int),.z)]=some (.ok (.lst (Pl (lx 7 0)),.u),[(.int (7:Int),.z)]):=by
 have s:=fs7
 have q:=fq7
 generalize L3.D.lst (φ7.map ntD)=A at *
 generalize L3.D.lst (Pl (lx 7 0))=B at *
 apply aU (Z:=[#v[.int (7:Int)],none,none]) (Z1:=[#v[.int (7:Int)],some (A,.u),#v[.int (6:Int)]]) rfl rfl
 .unfold kj
  refine ao (Z1:=[#v[.int (7:Int)],some (.lst [.tup []],.u),none]) rfl ?_
  refine ao q ?_
  exact dE (bK (ak (ay rfl) aG) rfl s) rfl
 .rfl
theorem wJ:∀ n:Nat,1<=n->n<=7->bj [(.int (n:Int),.z)]=some (.ok (.lst (Pl (lx n 0)),.u),[(.int (n:Int),.z)])
 | 0,h,_=>absurd h (by decide)
 | 1,_,_=>fp1
 | 2,_,_=>fp2
 | 3,_,_=>fp3
 | 4,_,_=>fp4
 | 5,_,_=>fp5
 | 6,_,_=>fp6
 | 7,_,_=>fp7
 | n+8,_,h=>absurd h (by omega)
theorem lx_hd:∀ (k a:Nat),∃ l,lx k a=[]::l
 | 0,_=>#[[],rfl]
 | _+1,_=>#[_,rfl]
theorem pR:∀ (k a:Nat) (r:List Nat),r.Pairwise (· < ·)->(∀ x∈r,a<=x/\x < a+k)->r∈lx k a
 | 0,a,[],_,_=>Hy.mpr rfl
 | 0,a,x::r,_,h=>by have:=h x GX;lia
 | k+1,a,[],_,_=>GX
 | k+1,a,x::r,hp,h=>by
  refine GY _ (G9.mpr ?_)
  have f:=h x GX
  obtain ⟨c,p2⟩:=List.pairwise_cons.mp hp
  by_cases e:x=a
  .subst e
   exact .inl (Hg.mpr #[r,pR k (x+1) r p2 λy b=>by have:=c y b;have:=h y (GY _ b);lia,rfl])
  .have:=pR k (a+1) (x::r) hp λy b=>by
    have:=h y b
    rcases G6.mp b with rfl | b
    .lia
    .have:=c y b;lia
   obtain ⟨l,d⟩:=lx_hd k (a+1)
   rw[d] at this ⊢
   rcases G6.mp this with h | h
   .cases h
   .exact .inr h
theorem Ah:∀ n:Nat,n<=7->(lx n 0).length<=128
 | 0,_=>by decide +kernel
 | 1,_=>by decide +kernel
 | 2,_=>by decide +kernel
 | 3,_=>by decide +kernel
 | 4,_=>by decide +kernel
 | 5,_=>by decide +kernel
 | 6,_=>by decide +kernel
 | 7,_=>by decide +kernel
 | n+8,h=>absurd h (by omega)
def rwB (s:Sg) (way:Int) (r:List Nat):Bool:=decide (2<=r.length) && rb s r way
theorem rw_iff {s:Sg} {way:Int} {r:List Nat}:Rw (wv s way) s.length r ↔ Ris s.length r/\rwB s way r=true:=by
 constructor
 .intro h
  have up:r.Pairwise (· < ·):=by
   rw[List.pairwise_iff_getElem]
   intro i j hi g l
   have key:∀ d,i+d < r.length->0 < d->el r i < el r (i+d):=by
    intro d
    induction d with
    | zero=>intro _ h;cases h
    | succ d ih =>
     intro hd _
     have h1:=h.up (i+d) (by lia)
     by_cases e:d=0
     .subst e;exact h1
     .have:=ih (by lia) (by lia)
      rw[show i+(d+1)=i+d+1 by lia]
      lia
   have:=key (j - i) (by lia) (by lia)
   rw[show i+(j - i)=j by lia] at this
   have e1:=jv (L:=r) hi
   have f:=jv (L:=r) g
   rw[G7 hi] at e1
   rw[G7 g] at f
   injection e1 with e1
   injection f with f
   lia
  refine #[#[up,λx k=>?_],?_]
  .obtain ⟨i,hi,rfl⟩:=List.mem_iff_getElem.mp k
   have e1:=jv (L:=r) hi
   rw[G7 hi] at e1
   injection e1 with e1
   rw[e1]
   exact h.lt i hi
  .unfold rwB rb
   rw[Hn h.two,Bool.true_and,List.all_eq_true]
   intro a b
   exact h.ok a (by have:=List.mem_range.mp b;lia)
 .rintro ⟨h,c⟩
  unfold rwB at c
  rw[Bool.and_eq_true] at c
  refine #[of_decide_eq_true c.1,λa b=>h.at (by lia) b,λa b=>h.lt _ (qf b),λa b=>?_]
  exact List.all_eq_true.mp c.2 a (List.mem_range.mpr (by lia))
theorem Ak (r:List Nat):cq [.tup (Nd r)]=#v[.int (r.length:Int)]:=by simp[pU,c1]
theorem EK {ps:List Pt} (g:GoodSh ps) {r:List Nat} (h:Ris ps.length r) (b:Bool):fO [(Shd ps,.z),(.tup (Nd r),.z),(.bl b,.z)]=some (.ok (.bl (rwB (sgn ps) (way b) r),.z),[(Shd ps,.z),(.tup (Nd r),.z),(.bl b,.z)]):=by
 have pm:=g.most
 by_cases h2:2<=r.length
 .have e:rwB (sgn ps) (way b) r=rb (sgn ps) r (way b):=by unfold rwB;rw[Hn h2,Bool.true_and]
  rw[e]
  exact tJ g h h2
 .have e:rwB (sgn ps) (way b) r=false:=by unfold rwB;rw[Ho h2,Bool.false_and]
  rw[e]
  have a:=q9 h pm
  have c:=jr ps
  have ln:=Ak r
  have lt:ltI (.int (r.length:Int)) (.int 2)=#v[.bl true]:=by simp[dn];lia
  generalize L3.D.int (ps.length:Int)=LN at *
  generalize L3.D.int (r.length:Int)=LR at *
  generalize L3.D.tup (Nd r)=R at *
  generalize Shd ps=H at *
  apply aU (Z:=[#v[H],#v[R],#v[.bl b],none]) (Z1:=[#v[H],#v[R],#v[.bl b],none]) rfl rfl
  .unfold km
   refine l4 (lg (b:=true) (lf (b:=false) (Z1:=[#v[H],#v[R],#v[.bl b],none]) ?_ rfl ?_) rfl (dE i_c rfl))
   .exact jt (gj (aw a (ak (ay rfl) (ak (bK (ak (ay rfl) aG) rfl c) aG)) rfl rfl rfl) rfl)
   .exact gj (bW (bK (ak (ay rfl) aG) rfl ln) i_c rfl rfl lt) rfl
  .rfl
abbrev rws (ps:List Pt) (b:Bool):List (List Nat):=(lx ps.length 0).filter (rwB (sgn ps) (way b))
theorem mem_rws {ps:List Pt} {b:Bool} {r:List Nat}:r∈rws ps b ↔ Rw (wv (sgn ps) (way b)) ps.length r:=by
 rw[HA]
 constructor
 .rintro ⟨h1,h2⟩
  exact rw_iff.mpr #[Af h1,h2]
 .intro h
  obtain ⟨h1,h2⟩:=rw_iff.mp h
  exact #[pR _ _ _ h1.up λx a=>#[Nat.zero_le _,by have h3:x < ps.length:=h1.lt x a;lia],h2]
theorem qZ {ps:List Pt} (g:GoodSh ps) (a:ps.length<=7) (b:Bool):fM [(Shd ps,.z),(.bl b,.z)]=some (.ok (.lst (Pl (rws ps b)),.u),[(Shd ps,.z),(.bl b,.z)]):=by
 have pr:=wJ ps.length g.pos a
 have i:=Ah ps.length a
 have d:=jr ps
 obtain ⟨O',e,v,rfl⟩:=bx (bnd:=al 0) (c:=iI) (elt:=k6) (λO=>∃ v,O=[v,#v[Shd ps],#v[.bl b]]) (λr:List Nat=>L3.D.tup (Nd r)) (rwB (sgn ps) (way b)) (λr:List Nat=>L3.D.tup (Nd r)) (xs:=lx ps.length 0) (O:=[none,#v[Shd ps],#v[.bl b]]) #[none,rfl] (by
  rintro r f O ⟨v,rfl⟩
  have q:=EK g (Af f) b
  generalize rwB (sgn ps) (way b) r=bb at *
  generalize L3.D.tup (Nd r)=R at *
  generalize Shd ps=H at *
  exact #[[#v[R],#v[H],#v[.bl b]],[#v[R],#v[H],#v[.bl b]],rfl,by unfold iI;(nomatch [q]),λ_=>#[_,rfl],λ_=>#[.pl 0,[#v[R],#v[H],#v[.bl b]],(R,.z),[#v[R],#v[H],#v[.bl b]],ay rfl,rfl,rfl,_,rfl]])
 have el:((lx ps.length 0).map λr:List Nat=>L3.D.tup (Nd r)).length < 16777216:=by rw[Hb];lia
 generalize L3.D.int (ps.length:Int)=LN at *
 change fM _=some (.ok (.lst ((rws ps b).map λr:List Nat=>L3.D.tup (Nd r)),.u),_)
 generalize ((rws ps b).map λr:List Nat=>L3.D.tup (Nd r))=X at *
 have pr:bj [(LN,.z)]=some (.ok (.lst ((lx ps.length 0).map λr:List Nat=>L3.D.tup (Nd r)),.u),[(LN,.z)]):=pr
 generalize ((lx ps.length 0).map λr:List Nat=>L3.D.tup (Nd r))=P at *
 generalize Shd ps=H at *
 have h:kZ [#v[H],#v[.bl b]]=some (.ok (.val (.lst X) .u),[#v[H],#v[.bl b]]):=ba (rs:=[.val (.lst P) .u]) (Z1:=[#v[H],#v[.bl b]]) (Z2:=[#v[H],#v[.bl b]]) (by (nomatch [pr],[d])) e el rfl
 apply aU (Z:=[#v[H],#v[.bl b]]) (Z1:=[#v[H],#v[.bl b]]) rfl rfl
 .unfold r0
  exact dE h rfl
 .rfl
def tbl (f:Nat->Nat->Int) (l:List (Nat×Nat)):List (List Key×L3.D):=l.map λp=>(k2 p.1 p.2,.int (f p.1 p.2))
theorem Ce {f:Nat->Nat->Int} {l:List (Nat×Nat)} {i j:Nat} (h:(i,j) ∉ l):fj (tbl f l) (k2 i j) (.int (f i j))=tbl f (l++[(i,j)]):=by
 have a:¬ ((tbl f l).any λb=>decide (b.1=k2 i j))=true:=by
  intro d
  obtain ⟨x,g,e⟩:=List.any_eq_true.mp d
  obtain ⟨u,hu,rfl⟩:=Hg.mp g
  obtain ⟨e1,c⟩:=uj (of_decide_eq_true e)
  exact h (by rw[<- e1,<- c];exact hu)
 unfold fj
 rw[if_neg a]
 unfold tbl
 rw[List.map_append]
 rfl
theorem qa {f:Nat->Nat->Int} {i j:Nat}:∀ {l:List (Nat×Nat)},(i,j)∈l->cC (tbl f l) (k2 i j)=some (.int (f i j))
 | u::l,h=>by
  unfold cC tbl
  rw[Hm,List.find?_cons]
  by_cases e:k2 u.1 u.2=k2 i j
  .obtain ⟨e1,b⟩:=uj e
   simp[e1,b]
  .have:(i,j)∈l:=by
    rcases G6.mp h with rfl | h
    .exact absurd rfl e
    .exact h
   have a:=qa (f:=f) this
   unfold cC tbl at a
   simp only[e,decide_false]
   exact a
theorem Bt {f:Nat->Nat->Int} {l:List (Nat×Nat)}:(tbl f l).length=l.length:=Hb ..
def rI (n i m:Nat):List (Nat×Nat):=(List.range m).map λd=>(i,i+1+d)
def pI (n m:Nat):List (Nat×Nat):=(List.range m).flatMap λi=>rI n i (n - (i+1))
theorem Cc (n i m:Nat):rI n i (m+1)=rI n i m++[(i,i+1+m)]:=by simp[rI,List.range_succ]
theorem vt (n m:Nat):pI n (m+1)=pI n m++rI n m (n - (m+1)):=by simp[pI,List.range_succ,List.flatMap_append]
theorem mem_rI {n i m a b:Nat}:(a,b)∈rI n i m ↔ a=i/\i < b/\b < i+1+m:=by
 simp only[rI,Hg,List.mem_range,Prod.mk.injEq]
 constructor
 .rintro ⟨d,h,rfl,rfl⟩;omega
 .rintro ⟨rfl,h1,h2⟩;exact #[b - (a+1),by omega,rfl,by omega]
theorem mem_pI {n m a b:Nat}:(a,b)∈pI n m ↔ a < m/\a < b/\b < n:=by
 simp only[pI,HG,List.mem_range]
 constructor
 .rintro ⟨i,h,h2⟩
  have:=mem_rI.mp h2
  lia
 .intro h
  exact #[a,h.1,mem_rI.mpr #[rfl,h.2.1,by omega]]
theorem zv {n i m:Nat}:(rI n i m).length=m:=by simp[rI]
theorem zM (n:Nat):∀ m,(pI n m).length<=n * m
 | 0=>by simp[pI]
 | m+1=>by
  have:=zM n m
  rw[vt,Ht,zv,Nat.mul_succ]
  lia
abbrev rtS (ps:List Pt) (way:Int) (T kvs:List (List Key×L3.D)) (a b:Option (L3.D×Fl)):Sto:=[#v[Shd ps],#v[.int way],some (.dt T,.u),some (.dt kvs,.u),a,b]
section
variable {ps:List Pt} {way:Int} {T kvs:List (List Key×L3.D)} {i j:Nat}
theorem BS (f:o5 (sgn ps) T) (g:j < ps.length) (hi:i < j) (l:ps.length<=24) (k:∀ h,h < i->cC kvs (k2 h i)=some (.int (bF (wv (sgn ps) way) h i))) :
  eg (rtS ps way T kvs #v[.int i] #v[.int j])=some (.ok (.val (.lst (((List.range i).filter λh=>wv (sgn ps) way h i j).map λh=>L3.D.int (bF (wv (sgn ps) way) h i))) .u),rtS ps way T kvs #v[.int i] #v[.int j]):=by
 obtain ⟨O',e,a,rfl⟩:=bx (bnd:=al 0) (c:=cL) (elt:=cK) (λO=>∃ a,O=[a,some (.dt kvs,.u),#v[.int i],#v[.int way],some (.dt T,.u),#v[.int j]]) (λh:Nat=>L3.D.int (0+(h:Int))) (λh=>wv (sgn ps) way h i j) (λh=>L3.D.int (bF (wv (sgn ps) way) h i)) (xs:=List.range i) (O:=[none,some (.dt kvs,.u),#v[.int i],#v[.int way],some (.dt T,.u),#v[.int j]]) #[none,rfl] (by
  rintro h b O ⟨a,rfl⟩
  have b:=List.mem_range.mp b
  have s3:=sub3 (f h i j b hi g)
  have s2:=BH (k h b)
  have c:cL [#v[.int h],some (.dt kvs,.u),#v[.int i],#v[.int way],some (.dt T,.u),#v[.int j]]=some (.ok (wv (sgn ps) way h i j),[#v[.int h],some (.dt kvs,.u),#v[.int i],#v[.int way],some (.dt T,.u),#v[.int j]]):=by
   unfold cL
   exists s3,vP _ _
  have el:cK [#v[.int h],some (.dt kvs,.u),#v[.int i],#v[.int way],some (.dt T,.u),#v[.int j]]=some (.ok (.val (.int (bF (wv (sgn ps) way) h i)) .z),[#v[.int h],some (.dt kvs,.u),#v[.int i],#v[.int way],some (.dt T,.u),#v[.int j]]):=by
   unfold cK
   exists s2
  exact #[_,_,by rw[Int.zero_add];rfl,c,λ_=>#[_,rfl],λ_=>#[_,_,_,_,el,rfl,rfl,_,rfl]])
 have d:bV [.int (i:Int)]=some (aS 0 i):=cJ (by omega) (by omega)
 have im:aP bV (aa (ac 4) ah) (rtS ps way T kvs #v[.int i] #v[.int j])=some (.ok ([],aS 0 i),rtS ps way T kvs #v[.int i] #v[.int j]):=by (repeat' (first | with_reducible apply cb (h3:=d) | infer_instance | eq_refl))
 exact ba (rs:=[]) im e (by rw[bp];lia) rfl
theorem BT (a:o5 (sgn ps) T) (e:j < ps.length) (hi:i < j) (b:ps.length<=24) (f:∀ h,h < i->cC kvs (k2 h i)=some (.int (bF (wv (sgn ps) way) h i))) (d:kvs.length < 16777216) :
  cN (rtS ps way T kvs #v[.int i] #v[.int j])=some (.ok .nx,rtS ps way T (fj kvs (k2 i j) (.int (bF (wv (sgn ps) way) i j))) #v[.int i] #v[.int j]):=by
 have c:=BS a e hi b f
 have v:aj bX (mC (.int 1)) (aj pL eg (mC (.int 1))) (rtS ps way T kvs #v[.int i] #v[.int j])=some (.ok (.val (.int (bF (wv (sgn ps) way) i j)) .z),rtS ps way T kvs #v[.int i] #v[.int j]):=by
  rw[j0]
  exact bW i_c (bW c i_c rfl rfl (vA _ _)) rfl rfl rfl
 unfold cN
 exact vG (i:=3) (Z1:=rtS ps way T kvs #v[.int i] #v[.int j]) (Z2:=rtS ps way T kvs #v[.int i] #v[.int j]) (Z3:=rtS ps way T kvs #v[.int i] #v[.int j]) v rfl (by (nofun)) rfl rfl (set2 d)
theorem EI (g:GoodSh ps) (q:ps.length<=8):fc [(Shd ps,.z),(.int way,.z)]=some (.ok (.dt (tbl (bF (wv (sgn ps) way)) (pI ps.length ps.length)),.u),[(Shd ps,.z),(.int way,.z)]):=by
 have n:=rf g (by omega)
 have o:=qH ps
 generalize tb ps (jc ps.length)=T at *
 have p:=g.most
 have inner:∀ (i:Nat) (a:Option (L3.D×Fl)),i < ps.length->∃ c,cM (rtS ps way T (tbl (bF (wv (sgn ps) way)) (pI ps.length i)) #v[.int i] a)=some (.ok .nx,rtS ps way T (tbl (bF (wv (sgn ps) way)) (pI ps.length (i+1))) #v[.int i] c):=by
  intro i a hi
  obtain ⟨Z',e,c,rfl⟩:=bC (bnd:=al 5) (b:=cN) (λm Z=>∃ a,Z=rtS ps way T (tbl (bF (wv (sgn ps) way)) (pI ps.length i++rI ps.length i m)) #v[.int i] a) (ds:=aS ((i:Int)+1) (ps.length - (i+1))) (Z:=rtS ps way T (tbl (bF (wv (sgn ps) way)) (pI ps.length i)) #v[.int i] a) (k:=0) #[a,by simp[rI]] (by
   rintro m d Z hd ⟨a,rfl⟩
   obtain ⟨hm,rfl⟩:=cI hd
   rw[Hr]
   have r:(tbl (bF (wv (sgn ps) way)) (pI ps.length i++rI ps.length i m)).length < 16777216:=by
    have:=zM ps.length i
    have:ps.length * i<=8 * 8:=Nat.mul_le_mul q (by omega)
    rw[Bt,Ht,zv]
    lia
   have b:=BT (way:=way) (kvs:=tbl (bF (wv (sgn ps) way)) (pI ps.length i++rI ps.length i m)) (i:=i) (j:=i+1+m) o (by omega) (by omega) p (λh l=>qa (G4 _ (mem_pI.mpr #[l,l,hi]))) r
   rw[Ce (λz=>(G9.mp z).elim (λz=>by have:=mem_pI.mp z;omega) λz=>by have:=mem_rI.mp z;omega),List.append_assoc,<- Cc] at b
   rw[show ((i+1+m:Nat):Int)=(i:Int)+1+m by lia] at b
   exact #[_,_,rfl,.inl b,_,rfl])
  rw[bp,Hr,<- vt] at e
  have f:fh [.int ((i:Int)+1),.int (ps.length:Nat)]=some (aS ((i:Int)+1) (ps.length - (i+1))):=i8 (by omega) (by omega) (by omega)
  have hlen:=jr ps
  refine #[c,?_]
  unfold cM
  apply dQ
  ·(repeat' (first | with_reducible apply cb (h3:=f) | infer_instance | exact hlen | eq_refl))
  .rfl
  .exact e
 obtain ⟨Z',e,v4,a,rfl⟩:=bC (bnd:=al 4) (b:=cM) (λm Z=>∃ v4 a,Z=rtS ps way T (tbl (bF (wv (sgn ps) way)) (pI ps.length m)) v4 a) (ds:=aS 0 ps.length) (Z:=rtS ps way T [] none none) (k:=0) #[none,none,rfl] (by
  rintro m d Z hd ⟨v4,a,rfl⟩
  obtain ⟨hm,rfl⟩:=cI hd
  rw[Hr]
  obtain ⟨c,e⟩:=inner m a hm
  exact #[_,_,by rw[Int.zero_add];rfl,.inl e,_,_,rfl])
 rw[bp,Hr] at e
 have f:bV [.int (ps.length:Nat)]=some (aS 0 ps.length):=cJ (by omega) (by omega)
 have hlen:=jr ps
 apply aU (Z:=[#v[Shd ps],#v[.int way],none,none,none,none]) rfl rfl
 .apply ao (Z1:=[#v[Shd ps],#v[.int way],some (.dt T,.u),none,none,none])
  .nomatch [n]
  .apply ao (Z1:=rtS ps way T [] none none)
   .rfl
   .apply ao
    .apply dQ
     ·(repeat' (first | with_reducible apply cb (h3:=f) | infer_instance | exact hlen | eq_refl))
     .rfl
     .exact e
    .nofun
 .rfl
end
section
variable {w:Nat->Nat->Nat->Bool} {n:Nat}
theorem Db:∀ (f i j:Nat),i<=f->i < j->j < n->∃ r,Rw w n r/\(r.length:Int)=bF w i j/\el r (r.length - 2)=i/\el r (r.length - 1)=j:=by
 have base:∀ i j:Nat,i < j->j < n->bF w i j=2->∃ r,Rw w n r/\(r.length:Int)=bF w i j/\el r (r.length - 2)=i/\el r (r.length - 1)=j:=λi j h1 h2 h3=>#[[i,j],Rw.pair h1 h2,by rw[h3];rfl,rfl,rfl]
 intro f
 induction f with
 | zero =>
  intro i j h0 h1 h2
  obtain rfl:i=0:=by lia
  exact base 0 j h1 h2 (by rw[j0];rfl)
 | succ f ih =>
  intro i j h0 h1 h2
  by_cases he:((List.range i).filter λh=>w h i j).map (λh=>bF w h i)=[]
  .exact base i j h1 h2 (by rw[j0,he];rfl)
  .obtain ⟨h,hm,e⟩:=Hg.mp (lL he)
   obtain ⟨b,hw⟩:=HA.mp hm
   have b:=List.mem_range.mp b
   obtain ⟨r,c,d,g,a⟩:=ih h i (by omega) b (by omega)
   have t:=c.two
   refine #[r++[j],c.snoc (by rw[a];exact h1) h2 (by rw[g,a];exact hw),?_,?_,?_]
   .rw[j0,Ht,<- e,<- d]
    simp
    lia
   .rw[Ht,jj (by simp;omega)]
    simpa using a
   .rw[Ht,DK (by simp)]
    simp[el]
theorem Rw.cup {r:List Nat} (h:Rw w n r):∀ d:Nat,d+2<=r.length->2+(d:Int)<=bF w (el r d) (el r (d+1))
 | 0,_=>AT w _ _
 | d+1,hd=>by
  have a:=h.cup d (by omega)
  have b:=xG w (h.ok d (by omega)) (h.up d (by omega))
  have e:d+1+1=d+2:=rfl
  rw[e]
  lia
end
theorem EO {ps:List Pt} (g:GoodSh ps) (a:ps.length<=8):ff [(Shd ps,.z)]=some (.ok (.dt (tbl (bF (wv (sgn ps) (way true))) (pI ps.length ps.length)),.u),[(Shd ps,.z)]):=by
 have r:=EI (way:=way true) g a
 generalize tbl (bF (wv (sgn ps) (way true))) (pI ps.length ps.length)=T at *
 generalize Shd ps=H at *
 apply aU (Z:=[#v[H]]) (Z1:=[#v[H]]) rfl rfl
 .unfold k7
  apply dE
  .nomatch [r]
  .rfl
 .rfl
theorem oE:∀ (l ns:List Int),ns.Nodup->(l.foldl met ns).Nodup
 | [],_,h=>h
 | x::l,ns,h=>by
  rw[List.foldl_cons]
  refine oE l _ ?_
  unfold met
  split
  .exact h
  .rename_i d
   refine List.nodup_append.mpr #[h,by simp,λa e b c=>?_]
   simp at c
   rintro rfl
   exact d (c ▸ e)
theorem vy:∀ (l ns:List Int) (x:Int),x∈l.foldl met ns ↔ x∈ns\/x∈l
 | [],ns,x=>by simp
 | y::l,ns,x=>by
  rw[List.foldl_cons,vy l]
  unfold met
  split
  .rename_i h
   rw[G6]
   exact #[λh=>h.imp_right .inr,λh'=>h'.elim .inl λh'=>h'.elim (λe=>.inl (e ▸ h)) .inr]
  .rw[G9,Hy,G6,or_assoc]
theorem yz {n:Nat} {zs T:List Nat} (b:Ris n T) (f:n<=24) (c:zs.length < 4000) (hm:∀ x,x∈T ↔ x∈zs):yA [.lst (Nd zs)]=some (.lst (Nd T),.u):=by
 have e:=b.len
 have d:bd (Nd zs)=some (zs.map λx:Nat=>(x:Int)):=jW _ zs
 have up:(T.map λx:Nat=>(x:Int)).Pairwise (· < ·):=List.pairwise_map.mpr (b.up.imp λa=>by omega)
 have pm:((zs.map λx:Nat=>(x:Int)).foldl met []).Perm (T.map λx:Nat=>(x:Int)):=(List.perm_ext_iff_of_nodup (oE _ [] .nil) (up.imp λa=>by omega)).mpr λx=>by
  rw[vy]
  simp[hm]
 have st:srt ((zs.map λx:Nat=>(x:Int)).foldl met [])=T.map λx:Nat=>(x:Int):=dy ((iq _).trans pm) (d7 _) (up.imp λa=>by omega)
 show (bd (Nd zs)).bind _=_
 rw[d]
 show (if _/\_ then some ((.lst ((srt ((zs.map λx:Nat=>(x:Int)).foldl met [])).map .int),.u):L3.D×Fl) else none)=_
 rw[if_pos #[by rw[Hb];exact c,by rw[pm.length_eq,Hb];omega],st,HH]
 rfl
section
variable {w:Nat->Nat->Nat->Bool} {n:Nat}
theorem gl (i:Nat) (r:List Nat) (a:Nat):el (i::r) (a+1)=el r a:=by simp[el]
theorem Rw.cons {r:List Nat} {i:Nat} (h:Rw w n r) (h1:i < el r 0) (h3:w i (el r 0) (el r 1)=true):Rw w n (i::r) where
 two:=by have:=h.two;simp;omega
 up:=λa b=>by
  rw[gl]
  cases a with
  | zero=>exact h1
  | succ a=>rw[gl];exact h.up a (by simpa using b)
 lt:=λa b=>by
  cases a with
  | zero=>have:=h.lt 0 (by have:=h.two;omega);show i < n;omega
  | succ a=>rw[gl];exact h.lt a (by simpa using b)
 ok:=λa b=>by
  rw[gl,gl]
  cases a with
  | zero=>exact h3
  | succ a=>rw[gl];exact h.ok a (by simp at b;omega)
theorem FQ:∀ (f i j:Nat),n - (j+1)<=f->i < j->j < n->∃ r,Rw w n r/\(r.length:Int)=onE w n i j/\el r 0=i/\el r 1=j:=by
 have base:∀ i j:Nat,i < j->j < n->onE w n i j=2->∃ r,Rw w n r/\(r.length:Int)=onE w n i j/\el r 0=i/\el r 1=j:=λi j h1 h2 h3=>#[[i,j],Rw.pair h1 h2,by rw[h3];rfl,rfl,rfl]
 intro f
 induction f with
 | zero =>
  intro i j h0 h1 h2
  refine base i j h1 h2 ?_
  rw[mw]
  have:ks n j=[]:=by unfold ks;rw[show n - (j+1)=0 by omega];rfl
  rw[this]
  rfl
 | succ f ih =>
  intro i j h0 h1 h2
  by_cases he:((ks n j).filter λk=>w i j k).map (λk=>onE w n j k)=[]
  .exact base i j h1 h2 (by rw[mw,he];rfl)
  .obtain ⟨k,hm,e⟩:=Hg.mp (lL he)
   obtain ⟨c,hw⟩:=HA.mp hm
   obtain ⟨k1,k2⟩:=mem_ks.mp c
   obtain ⟨r,g,d,a,b⟩:=ih j k (by omega) k1 k2
   refine #[i::r,g.cons (by rw[a];exact h1) (by rw[a,b];exact hw),?_,rfl,?_]
   .rw[mw,Hu,<- e,<- d]
    lia
   .rw[gl];exact a
def eB (w:Nat->Nat->Nat->Bool) (k:Int) (j:Nat):Bool:=(List.range j).any λi=>decide (k<=bF w i j)
def sB (w:Nat->Nat->Nat->Bool) (n:Nat) (k:Int) (i:Nat):Bool:=(ks n i).any λj=>decide (k<=onE w n i j)
abbrev eL (w:Nat->Nat->Nat->Bool) (n:Nat) (k:Int):List Nat:=(List.range n).filter (eB w k)
abbrev sL (w:Nat->Nat->Nat->Bool) (n:Nat) (k:Int):List Nat:=(List.range n).filter (sB w n k)
theorem u5 (n:Nat) (p:Nat->Bool):Ris n ((List.range n).filter p):=#[List.pairwise_lt_range.sublist List.filter_sublist,λx a=>List.mem_range.mp (HA.mp a).1]
abbrev lst (r:List Nat):Nat:=el r (r.length - 1)
theorem FZ {k:Int} {X:List (List Nat)} (a:∀ r,r∈X ↔ Rw w n r) (x:Nat):x∈eL w n k ↔ x∈(X.filter λr=>decide ((r.length:Int) ≥ k)).map lst:=by
 rw[HA,List.mem_range,Hg]
 constructor
 .rintro ⟨h1,h2⟩
  obtain ⟨i,hi,b⟩:=List.any_eq_true.mp h2
  have b:=of_decide_eq_true b
  obtain ⟨r,f,g,h,d⟩:=Db (w:=w) (n:=n) i i x (Hi _) (List.mem_range.mp hi) h1
  exact #[r,HA.mpr #[(a r).mpr f,Hn (by omega)],d]
 .rintro ⟨r,e,rfl⟩
  obtain ⟨h1,h2⟩:=HA.mp e
  have h1:=(a r).mp h1
  have h2:=of_decide_eq_true h2
  have two:=h1.two
  have c:=h1.cup (r.length - 2) (by omega)
  have u:=h1.up (r.length - 2) (by omega)
  rw[show r.length - 2+1=r.length - 1 by omega] at c u
  exact #[h1.lt _ (by omega),List.any_eq_true.mpr #[el r (r.length - 2),List.mem_range.mpr u,Hn (by show k<=bF w (el r (r.length - 2)) (el r (r.length - 1));omega)]]
theorem FY {k:Int} {X:List (List Nat)} (b:∀ r,r∈X ↔ Rw w n r) (x:Nat):x∈sL w n k ↔ x∈(X.filter λr=>decide ((r.length:Int) ≥ k)).map λr=>el r 0:=by
 rw[HA,List.mem_range,Hg]
 constructor
 .rintro ⟨h1,h2⟩
  obtain ⟨j,i,a⟩:=List.any_eq_true.mp h2
  have a:=of_decide_eq_true a
  obtain ⟨f,e⟩:=mem_ks.mp i
  obtain ⟨r,g,m,h,l⟩:=FQ (w:=w) (n:=n) _ x j (Hi _) f e
  exact #[r,HA.mpr #[(b r).mpr g,Hn (by omega)],h]
 .rintro ⟨r,d,rfl⟩
  obtain ⟨h1,h2⟩:=HA.mp d
  have h1:=(b r).mp h1
  have h2:=of_decide_eq_true h2
  have two:=h1.two
  have c:=h1.on (r.length - 2) 0 (by omega)
  have u:=h1.up 0 (by omega)
  exact #[h1.lt _ (by omega),List.any_eq_true.mpr #[el r 1,mem_ks.mpr #[u,h1.lt 1 (by omega)],Hn (by show k<=onE w n (el r 0) (el r 1);have c:2+((r.length - 2:Nat):Int)<=onE w n (el r 0) (el r 1):=c;omega)]]
end
theorem max0 {α:Type} (xs:List α) (f:α->Int) {k:Int} (b:0 < k):∃ M,pL (.lst (xs.map λx=>L3.D.int (f x))) (.int 0)=#v[.int M]/\decide (M ≥ k)=xs.any λx=>decide (k<=f x):=by
 by_cases a:xs=[]
 .subst a
  exact #[0,rfl,by simp;omega]
 .have hm:xs.map f≠[]:=by simpa using a
  refine #[mx1 (xs.map f),?_,?_]
  .show (bd (xs.map λx=>L3.D.int (f x))).map _=_
   rw[jW]
   show some _=_
   simp[zX hm]
  .rw[Bool.eq_iff_iff,decide_eq_true_eq,List.any_eq_true]
   constructor
   .intro h
    obtain ⟨x,h1,h2⟩:=Hg.mp (lL hm)
    exact #[x,h1,Hn (by omega)]
   .rintro ⟨x,h1,h2⟩
    have:=t7 (List.mem_map_of_mem (f:=f) h1)
    have:=of_decide_eq_true h2
    lia
section
variable {H:L3.D} {k:Int} {T:List (List Key×L3.D)} {w:Nat->Nat->Nat->Bool} {n:Nat}
theorem ce_in (f:∀ i j,i < j->j < n->cC T (k2 i j)=some (.int (bF w i j))) {j:Nat} (g:j < n) (l:n<=24) :
  hJ [#v[.int (j:Int)],#v[.int k],some (.dt T,.u)]=some (.ok (.val (.lst ((List.range j).map λi=>L3.D.int (bF w i j))) .u),[#v[.int (j:Int)],#v[.int k],some (.dt T,.u)]):=by
 obtain ⟨O',e,a,rfl⟩:=bx (bnd:=al 0) (c:=fI) (elt:=cf) (λO=>∃ a,O=[a,some (.dt T,.u),#v[.int (j:Int)]]) (λh:Nat=>L3.D.int (0+(h:Int))) (λ_=>true) (λi=>L3.D.int (bF w i j)) (xs:=List.range j) (O:=[none,some (.dt T,.u),#v[.int (j:Int)]]) #[none,rfl] (by
  rintro h b O ⟨a,rfl⟩
  have b:=List.mem_range.mp b
  have s2:=BH (f h j b g)
  have el:cf [#v[.int h],some (.dt T,.u),#v[.int j]]=some (.ok (.val (.int (bF w h j)) .z),[#v[.int h],some (.dt T,.u),#v[.int j]]):=by
   unfold cf
   exists s2
  exact #[_,_,by rw[Int.zero_add];rfl,rfl,(λh=>by cases h),λ_=>#[_,_,_,_,el,rfl,rfl,_,rfl]])
 rw[HF.mpr (λ_ _=>rfl)] at e
 have d:bV [.int (j:Int)]=some (aS 0 j):=cJ (by omega) (by omega)
 have im:aP bV (aa (ac 0) ah) [#v[.int (j:Int)],#v[.int k],some (.dt T,.u)]=some (.ok ([],aS 0 j),[#v[.int (j:Int)],#v[.int k],some (.dt T,.u)]):=by (repeat' (first | with_reducible apply cb (h3:=d) | infer_instance | eq_refl))
 exact ba (rs:=[]) im e (by rw[bp];lia) rfl
theorem GB (l:∀ i j,i < j->j < n->cC T (k2 i j)=some (.int (bF w i j))) (o:n<=24) (h0:0 < k) (m:cq [H]=#v[.int (n:Int)]) :
  gJ [#v[H],#v[.int k],some (.dt T,.u)]=some (.ok (.val (.lst (Nd (eL w n k))) .u),[#v[H],#v[.int k],some (.dt T,.u)]):=by
 obtain ⟨O',e,a,rfl⟩:=bx (bnd:=al 0) (c:=cg) (elt:=hU) (λO=>∃ a,O=[a,#v[.int k],some (.dt T,.u)]) (λh:Nat=>L3.D.int (0+(h:Int))) (eB w k) (λj:Nat=>L3.D.int (j:Int)) (xs:=List.range n) (O:=[none,#v[.int k],some (.dt T,.u)]) #[none,rfl] (by
  rintro j b O ⟨a,rfl⟩
  have b:=List.mem_range.mp b
  obtain ⟨M,g,f⟩:=max0 (List.range j) (λi=>bF w i j) h0
  have li:=ce_in (k:=k) l b o
  have ge:geI (.int M) (.int k)=#v[.bl (eB w k j)]:=by
   show some (L3.D.bl (decide (M ≥ k)),Fl.z)=_
   rw[f]
   rfl
  have c:cg [#v[.int (j:Int)],#v[.int k],some (.dt T,.u)]=some (.ok (eB w k j),[#v[.int (j:Int)],#v[.int k],some (.dt T,.u)]):=by
   unfold cg
   exact gj (bW (bW li i_c rfl rfl g) (ay rfl) rfl rfl ge) rfl
  exact #[_,_,by rw[Int.zero_add];rfl,c,λ_=>#[_,rfl],λ_=>#[.pl 0,_,(.int (j:Int),.z),_,ay rfl,rfl,rfl,_,rfl]])
 have d:bV [.int (n:Int)]=some (aS 0 n):=cJ (by lia) (by lia)
 have im:aP bV (aa (av cq (aa (ac 0) ah)) ah) [#v[H],#v[.int k],some (.dt T,.u)]=some (.ok ([],aS 0 n),[#v[H],#v[.int k],some (.dt T,.u)]):=by (repeat' (first | with_reducible apply cb (h3:=d) | infer_instance | exact m | eq_refl))
 exact ba (rs:=[]) im e (by rw[bp];lia) rfl
theorem cs_in (g:∀ i j,i < j->j < n->cC T (k2 i j)=some (.int (onE w n i j))) {i:Nat} (hi:i < n) (l:n<=24) (f:cq [H]=#v[.int (n:Int)]) :
  eU [#v[.int (i:Int)],#v[.int k],some (.dt T,.u),#v[H]]=some (.ok (.val (.lst ((ks n i).map λj=>L3.D.int (onE w n i j))) .u),[#v[.int (i:Int)],#v[.int k],some (.dt T,.u),#v[H]]):=by
 obtain ⟨O',e,a,rfl⟩:=bx (bnd:=al 0) (c:=fI) (elt:=bT) (λO=>∃ a,O=[a,some (.dt T,.u),#v[.int (i:Int)]]) (λh:Nat=>L3.D.int (h:Int)) (λ_=>true) (λj=>L3.D.int (onE w n i j)) (xs:=ks n i) (O:=[none,some (.dt T,.u),#v[.int (i:Int)]]) #[none,rfl] (by
  rintro h d O ⟨a,rfl⟩
  obtain ⟨h1,h2⟩:=mem_ks.mp d
  have s2:=BH (g i h h1 h2)
  have el:bT [#v[.int h],some (.dt T,.u),#v[.int i]]=some (.ok (.val (.int (onE w n i h)) .z),[#v[.int h],some (.dt T,.u),#v[.int i]]):=by
   unfold bT
   exists s2
  exact #[_,_,rfl,rfl,(λh=>by cases h),λ_=>#[_,_,_,_,el,rfl,rfl,_,rfl]])
 rw[HF.mpr (λ_ _=>rfl),<- An] at e
 have b:fh [.int ((i:Int)+1),.int (n:Nat)]=some (aS ((i:Int)+1) (n - (i+1))):=i8 (by omega) (by omega) (by omega)
 have im:aP fh (aa (aj bX (ac 0) (mC (.int 1))) (aa (av cq (aa (ac 3) ah)) ah)) [#v[.int (i:Int)],#v[.int k],some (.dt T,.u),#v[H]]=some (.ok ([],aS ((i:Int)+1) (n - (i+1))),[#v[.int (i:Int)],#v[.int k],some (.dt T,.u),#v[H]]):=by (repeat' (first | with_reducible apply cb (h3:=b) | infer_instance | exact f | eq_refl))
 exact ba (rs:=[]) im e (by rw[bp];lia) rfl
theorem Gz (m:∀ i j,i < j->j < n->cC T (k2 i j)=some (.int (onE w n i j))) (o:n<=24) (h0:0 < k) (d:cq [H]=#v[.int (n:Int)]) :
  eS [#v[H],#v[.int k],some (.dt T,.u)]=some (.ok (.val (.lst (Nd (sL w n k))) .u),[#v[H],#v[.int k],some (.dt T,.u)]):=by
 obtain ⟨O',e,a,rfl⟩:=bx (bnd:=al 0) (c:=bU) (elt:=eV) (λO=>∃ a,O=[a,#v[.int k],some (.dt T,.u),#v[H]]) (λh:Nat=>L3.D.int (0+(h:Int))) (sB w n k) (λj:Nat=>L3.D.int (j:Int)) (xs:=List.range n) (O:=[none,#v[.int k],some (.dt T,.u),#v[H]]) #[none,rfl] (by
  rintro j b O ⟨a,rfl⟩
  have b:=List.mem_range.mp b
  obtain ⟨M,l,g⟩:=max0 (ks n j) (λi=>onE w n j i) h0
  have li:=cs_in (k:=k) m b o d
  have ge:geI (.int M) (.int k)=#v[.bl (sB w n k j)]:=by
   show some (L3.D.bl (decide (M ≥ k)),Fl.z)=_
   rw[g]
   rfl
  have c:bU [#v[.int (j:Int)],#v[.int k],some (.dt T,.u),#v[H]]=some (.ok (sB w n k j),[#v[.int (j:Int)],#v[.int k],some (.dt T,.u),#v[H]]):=by
   unfold bU
   exact gj (bW (bW li i_c rfl rfl l) (ay rfl) rfl rfl ge) rfl
  exact #[_,_,by rw[Int.zero_add];rfl,c,λ_=>#[_,rfl],λ_=>#[.pl 0,_,(.int (j:Int),.z),_,ay rfl,rfl,rfl,_,rfl]])
 have f:bV [.int (n:Int)]=some (aS 0 n):=cJ (by lia) (by lia)
 have im:aP bV (aa (av cq (aa (ac 0) ah)) ah) [#v[H],#v[.int k],some (.dt T,.u)]=some (.ok ([],aS 0 n),[#v[H],#v[.int k],some (.dt T,.u)]):=by (repeat' (first | with_reducible apply cb (h3:=f) | infer_instance | exact d | eq_refl))
 exact ba (rs:=[]) im e (by rw[bp];lia) rfl
end
section
variable {ps:List Pt} {k:Int} {d H:L3.D}
theorem fX (g:GoodSh ps):bo [(Shd ps,.z)]=some (.ok (.non,.z),[(Shd ps,.z)]):=by
 have h1:=kR g
 apply GT (Z:=[#v[Shd ps]]) rfl rfl
 .apply dF
  .nomatch [h1]
  .rfl
  .rfl
 .rfl
theorem q8 (h1:2<=k) (h2:k<=24):aW [(.int k,.z),(.int 2,.z),(.int 24,.z)]=some (.ok (.non,.z),[(.int k,.z),(.int 2,.z),(.int 24,.z)]):=by
 have a:leI (.int 2) (.int k)=#v[.bl true]:=by simp[dn,h1]
 have c:leI (.int k) (.int 24)=#v[.bl true]:=by simp[dn,h2]
 have f:=n5 k
 apply GT (Z:=[#v[.int k],#v[.int 2],#v[.int 24]]) rfl rfl
 .apply dF
  .apply lf (b:=false)
   .apply jt (b:=true)
    nomatch [f]
   .rfl
   .exact jt (gj (vJ (ay rfl) (ay rfl) rfl rfl a (ay rfl) rfl rfl c) rfl)
  .rfl
  .rfl
 .rfl
theorem ceX (g:GoodSh ps) (e:ps.length<=7) (h1:2<=k) (h2:k<=24):bL [(Shd ps,.z),(.int k,.z)]=some (.ok (.lst (Nd (eL (wv (sgn ps) (way true)) ps.length k)),.u),[(Shd ps,.z),(.int k,.z)]):=by
 have c:=fX g
 have nm:=q8 h1 h2
 have ct:=EO g (by omega)
 have d:=GB (H:=Shd ps) (w:=wv (sgn ps) (way true)) (n:=ps.length) (k:=k) (T:=tbl (bF (wv (sgn ps) (way true))) (pI ps.length ps.length)) (λi j a b=>qa (mem_pI.mpr #[by omega,a,b])) (by omega) (by omega) (jr ps)
 generalize tbl (bF (wv (sgn ps) (way true))) (pI ps.length ps.length)=T at *
 generalize Shd ps=H at *
 apply aU (Z:=[#v[H],#v[.int k],none]) (Z1:=[#v[H],#v[.int k],some (.dt T,.u)]) rfl rfl
 .unfold gh
  apply ao (Z1:=[#v[H],#v[.int k],none])
  .exact fA (eW c (ak (ay rfl) aG) rfl rfl rfl)
  apply ao (Z1:=[#v[H],#v[.int k],none])
  .exact fA (eW nm (ak (ay rfl) (ak i_c (ak i_c aG))) rfl rfl rfl)
  apply ao (Z1:=[#v[H],#v[.int k],some (.dt T,.u)])
  .nomatch [ct]
  exact dE d rfl
 .rfl
theorem FI (g:GoodSh ps) (c:ps.length<=7):∃ T,bY [(.dt (tb ps (jc ps.length)),.u),(.int (ps.length:Int),.z),(.int (-1),.z)]=some (.ok (.dt T,.u),[(.dt (tb ps (jc ps.length)),.u),(.int (ps.length:Int),.z),(.int (-1),.z)])/\∀ i j,i < j->j < ps.length->cC T (k2 i j)=some (.int (onE (wv (sgn ps) (way false)) ps.length i j)):=by
 by_cases h1:ps.length=1
 .refine #[[],?_,λi j a b=>by omega]
  rw[h1]
  generalize tb ps (jc 1)=T
  kernel_rfl
 .have:=g.pos
  obtain ⟨T,e,t⟩:=EJ (ps:=sgn ps) (way:=way false) (n:=ps.length) rfl (qH ps) (by omega) (by omega)
  exact #[T,e,λi j a b=>t.get i j #[a,b]]
theorem csX (g:GoodSh ps) (c:ps.length<=7) (h1:2<=k) (h2:k<=24):bg [(Shd ps,.z),(.int k,.z)]=some (.ok (.lst (Nd (sL (wv (sgn ps) (way false)) ps.length k)),.u),[(Shd ps,.z),(.int k,.z)]):=by
 have b:=fX g
 have nm:=q8 h1 h2
 have at':=rf g (by lia)
 have a:=jr ps
 obtain ⟨T,d,get⟩:=FI g c
 have e:=Gz (H:=Shd ps) (w:=wv (sgn ps) (way false)) (n:=ps.length) (k:=k) (T:=T) get (by omega) (by omega) a
 clear get
 generalize tb ps (jc ps.length)=φ at *
 generalize L3.D.int (ps.length:Int)=N at *
 generalize Shd ps=H at *
 apply aU (Z:=[#v[H],#v[.int k],none]) (Z1:=[#v[H],#v[.int k],some (.dt T,.u)]) rfl rfl
 .unfold en
  apply ao (Z1:=[#v[H],#v[.int k],none])
  .exact fA (eW b (ak (ay rfl) aG) rfl rfl rfl)
  apply ao (Z1:=[#v[H],#v[.int k],none])
  .exact fA (eW nm (ak (ay rfl) (ak i_c (ak i_c aG))) rfl rfl rfl)
  apply ao (Z1:=[#v[H],#v[.int k],some (.dt T,.u)])
  .exact sk (aw d (ak (aw at' (ak (ay rfl) aG) rfl rfl rfl) (ak (bK (ak (ay rfl) aG) rfl a) (ak i_c aG))) rfl rfl rfl) rfl (Nat.le_of_ble_eq_true rfl) rfl
  exact dE e rfl
 .rfl
def Bad (d:L3.D):Prop:=aW [(d,.z),(.int 2,.z),(.int 24,.z)]=some (.error (.exc "NoNumber" []),[(d,.z),(.int 2,.z),(.int 24,.z)])
theorem Dh:∀ a:Nat,a < 9->Bad (.int (-1 - (a:Int)))
 | 0,_=>by unfold Bad;kernel_rfl
 | 1,_=>by unfold Bad;kernel_rfl
 | 2,_=>by unfold Bad;kernel_rfl
 | 3,_=>by unfold Bad;kernel_rfl
 | 4,_=>by unfold Bad;kernel_rfl
 | 5,_=>by unfold Bad;kernel_rfl
 | 6,_=>by unfold Bad;kernel_rfl
 | 7,_=>by unfold Bad;kernel_rfl
 | 8,_=>by unfold Bad;kernel_rfl
 | a+9,h=>absurd h (by omega)
theorem GK (h:d∈[.int 1,.int 25,.int 0,.bl true,.non,.str "3",.lst [.int 3]]):Bad d:=by
 simp only[G6,List.not_mem_nil,or_false] at h
 rcases h with rfl | rfl | rfl | rfl | rfl | rfl | rfl <;> (unfold Bad;kernel_rfl)
theorem GC (g:GoodSh ps) (h:Bad d):bL [(Shd ps,.z),(d,.z)]=some (.error (.exc "NoNumber" []),[(Shd ps,.z),(d,.z)]):=by
 have a:=fX g
 unfold Bad at h
 generalize Shd ps=H at *
 apply DS (Z:=[#v[H],#v[d],none]) (Z1:=[#v[H],#v[d],none]) rfl rfl
 .unfold gh
  apply ao (Z1:=[#v[H],#v[d],none])
  .exact fA (eW a (ak (ay rfl) aG) rfl rfl rfl)
  exact uq (vI (lN h (ak (ay rfl) (ak i_c (ak i_c aG))) rfl rfl rfl))
 .rfl
theorem GA (g:GoodSh ps) (h:Bad d):bg [(Shd ps,.z),(d,.z)]=some (.error (.exc "NoNumber" []),[(Shd ps,.z),(d,.z)]):=by
 have a:=fX g
 unfold Bad at h
 generalize Shd ps=H at *
 apply DS (Z:=[#v[H],#v[d],none]) (Z1:=[#v[H],#v[d],none]) rfl rfl
 .unfold en
  apply ao (Z1:=[#v[H],#v[d],none])
  .exact fA (eW a (ak (ay rfl) aG) rfl rfl rfl)
  exact uq (vI (lN h (ak (ay rfl) (ak i_c (ak i_c aG))) rfl rfl rfl))
 .rfl
theorem z6 (c a b:L3.D):kY [#v[c],#v[a],#v[b],#v[.exc "NoNumber" []]]=some (.ok (.rt (.str "number") .z),[#v[c],#v[a],#v[b],#v[.exc "NoNumber" []]]):=by kernel_rfl
theorem said0 {r:L3.D} (h:bL [(H,.z),(d,.z)]=some (.ok (r,.u),[(H,.z),(d,.z)])):bM [(.int 0,.z),(H,.z),(d,.z)]=some (.ok (r,.u),[(.int 0,.z),(H,.z),(d,.z)]):=by
 apply aU (Z:=[#v[.int 0],#v[H],#v[d],none]) (Z1:=[#v[.int 0],#v[H],#v[d],none]) rfl rfl
 .unfold iH
  refine Aw ?_
  unfold dC
  exact l4 (lg (b:=true) (gj (bW (ay rfl) i_c rfl rfl rfl) rfl) rfl (dE (eW h (ak (ay rfl) (ak (ay rfl) aG)) rfl rfl rfl) rfl))
 .rfl
theorem said1 {r:L3.D} (h:bg [(H,.z),(d,.z)]=some (.ok (r,.u),[(H,.z),(d,.z)])):bM [(.int 1,.z),(H,.z),(d,.z)]=some (.ok (r,.u),[(.int 1,.z),(H,.z),(d,.z)]):=by
 apply aU (Z:=[#v[.int 1],#v[H],#v[d],none]) (Z1:=[#v[.int 1],#v[H],#v[d],none]) rfl rfl
 .unfold iH
  refine Aw ?_
  unfold dC
  apply ao (Z1:=[#v[.int 1],#v[H],#v[d],none])
  .exact dF (b:=false) (gj (bW (ay rfl) i_c rfl rfl rfl) rfl) rfl rfl
  exact dE (eW h (ak (ay rfl) (ak (ay rfl) aG)) rfl rfl rfl) rfl
 .rfl
theorem ED (h:bL [(H,.z),(d,.z)]=some (.error (.exc "NoNumber" []),[(H,.z),(d,.z)])):bM [(.int 0,.z),(H,.z),(d,.z)]=some (.ok (.str "number",.z),[(.int 0,.z),(H,.z),(d,.z)]):=by
 apply aU (Z:=[#v[.int 0],#v[H],#v[d],none]) (Z1:=[#v[.int 0],#v[H],#v[d],#v[.exc "NoNumber" []]]) rfl rfl
 .unfold iH
  refine Ax (c:="NoNumber") (Z1:=[#v[.int 0],#v[H],#v[d],none]) ?_ (by decide) (z6 _ _ _)
  unfold dC
  exact uq (lg (b:=true) (gj (bW (ay rfl) i_c rfl rfl rfl) rfl) rfl (Ay (lN h (ak (ay rfl) (ak (ay rfl) aG)) rfl rfl rfl)))
 .rfl
theorem EC (h:bg [(H,.z),(d,.z)]=some (.error (.exc "NoNumber" []),[(H,.z),(d,.z)])):bM [(.int 1,.z),(H,.z),(d,.z)]=some (.ok (.str "number",.z),[(.int 1,.z),(H,.z),(d,.z)]):=by
 apply aU (Z:=[#v[.int 1],#v[H],#v[d],none]) (Z1:=[#v[.int 1],#v[H],#v[d],#v[.exc "NoNumber" []]]) rfl rfl
 .unfold iH
  refine Ax (c:="NoNumber") (Z1:=[#v[.int 1],#v[H],#v[d],none]) ?_ (by decide) (z6 _ _ _)
  unfold dC
  apply ao (Z1:=[#v[.int 1],#v[H],#v[d],none])
  .exact dF (b:=false) (gj (bW (ay rfl) i_c rfl rfl rfl) rfl) rfl rfl
  exact Ay (lN h (ak (ay rfl) (ak (ay rfl) aG)) rfl rfl rfl)
 .rfl
end
theorem zW (s:Str):neX (.str s) (.str s)=#v[.bl false]:=by
 simp[eqA,eqS]
def okR:Option (L3.D×Fl)->Bool
 | #v[.str _]=>true
 | _=>false
theorem FR:∀ {o:Option (L3.D×Fl)},okR o=true->∃ t,o=#v[.str t]
 | #v[.str t],_=>#[t,rfl]
theorem EY:(lx 7 0).map (λr=>okR (jL [.lst (Nd r)]))=(lx 7 0).map λ_=>true:=by kernel_rfl
theorem ze {n:Nat} {r:List Nat} (h:Ris n r) (b:n<=7):∃ t,jL [.lst (Nd r)]=#v[.str t] :=
 FR (List.map_inj_left.mp EY r (pR 7 0 r h.up λx a=>#[Nat.zero_le _,by have:=h.lt x a;omega]))
section
variable {X:List (List Nat)} {k:Int} {a0 a1 a2 a3 a5 a7 a8 a9 a10 a11 a12:Option (L3.D×Fl)}
theorem DD {r:List Nat}:(cB (aj geI (av cq (aa (ac 0) ah)) (ac 1))) [#v[.tup (Nd r)],#v[.int k]]=some (.ok (decide ((r.length:Int) ≥ k)),[#v[.tup (Nd r)],#v[.int k]]):=by
 have ln:=Ak r
 have ge:geI (.int (r.length:Int)) (.int k)=#v[.bl (decide ((r.length:Int) ≥ k))]:=rfl
 exact gj (bW (bK (ak (ay rfl) aG) rfl ln) (ay rfl) rfl rfl ge) rfl
theorem F9 (d:∀ r∈X,2<=r.length) (f:X.length < 4000) :
  rZ [a0,a1,a2,a3,#v[.lst (Pl X)],a5,#v[.int k],a7,a8,a9,a10,a11,a12]=some (.ok (.val (.lst (Nd ((X.filter λr=>decide ((r.length:Int) ≥ k)).map lst))) .u),[a0,a1,a2,a3,#v[.lst (Pl X)],a5,#v[.int k],a7,a8,a9,a10,a11,a12]):=by
 obtain ⟨O',e,v,rfl⟩:=bx (bnd:=al 0) (c:=mG) (elt:=iG) (λO=>∃ v,O=[v,#v[.int k]]) (λr:List Nat=>L3.D.tup (Nd r)) (λr=>decide ((r.length:Int) ≥ k)) (λr:List Nat=>L3.D.int (lst r:Int)) (xs:=X) (O:=[none,#v[.int k]]) #[none,rfl] (by
  rintro r a O ⟨v,rfl⟩
  have two:=d r a
  have sb:aH (.tup (Nd r)) (.int (-1))=#v[.int (lst r:Int)]:=io (Di (by rw[Hb];exact Bg (by omega)))
  have el:iG [#v[.tup (Nd r)],#v[.int k]]=some (.ok (.val (.int (lst r:Int)) .z),[#v[.tup (Nd r)],#v[.int k]]):=by
   unfold iG
   exact bW (ay rfl) (C2 i_c rfl rfl) rfl rfl sb
  exact #[_,_,rfl,DD,λ_=>#[_,rfl],λ_=>#[_,_,_,_,el,rfl,rfl,_,rfl]])
 rw[show ((X.filter λr=>decide ((r.length:Int) ≥ k)).map λr:List Nat=>L3.D.int (lst r:Int))=Nd ((X.filter λr=>decide ((r.length:Int) ≥ k)).map lst) by unfold Nd;rw[HH];rfl] at e
 have b:(Pl X).length < 16777216:=by rw[Hb];omega
 have e:b5 (al 0) mG iG (Pl X) [none,#v[.int k]]=_:=e
 generalize Pl X=P at *
 exact ba (rs:=[.pl 4]) (Z1:=[a0,a1,a2,a3,#v[.lst P],a5,#v[.int k],a7,a8,a9,a10,a11,a12]) (Z2:=[a0,a1,a2,a3,#v[.lst P],a5,#v[.int k],a7,a8,a9,a10,a11,a12]) rfl e b rfl
theorem F8 (d:∀ r∈X,2<=r.length) (f:X.length < 4000) :
  rY [a0,a1,a2,a3,a5,#v[.lst (Pl X)],#v[.int k],a7,a8,a9,a10,a11,a12]=some (.ok (.val (.lst (Nd ((X.filter λr=>decide ((r.length:Int) ≥ k)).map λr=>el r 0))) .u),[a0,a1,a2,a3,a5,#v[.lst (Pl X)],#v[.int k],a7,a8,a9,a10,a11,a12]):=by
 obtain ⟨O',e,v,rfl⟩:=bx (bnd:=al 0) (c:=mF) (elt:=iF) (λO=>∃ v,O=[v,#v[.int k]]) (λr:List Nat=>L3.D.tup (Nd r)) (λr=>decide ((r.length:Int) ≥ k)) (λr:List Nat=>L3.D.int (el r 0:Int)) (xs:=X) (O:=[none,#v[.int k]]) #[none,rfl] (by
  rintro r a O ⟨v,rfl⟩
  have two:=d r a
  have sb:aH (.tup (Nd r)) (.int (0:Int))=#v[.int (el r 0:Int)]:=o9 (i:=0) (by omega)
  have el:iF [#v[.tup (Nd r)],#v[.int k]]=some (.ok (.val (.int (el r 0:Int)) .z),[#v[.tup (Nd r)],#v[.int k]]):=by
   unfold iF
   exact bW (ay rfl) i_c rfl rfl sb
  exact #[_,_,rfl,DD,λ_=>#[_,rfl],λ_=>#[_,_,_,_,el,rfl,rfl,_,rfl]])
 rw[show ((X.filter λr=>decide ((r.length:Int) ≥ k)).map λr:List Nat=>L3.D.int (el r 0:Int))=Nd ((X.filter λr=>decide ((r.length:Int) ≥ k)).map λr=>el r 0) by unfold Nd;rw[HH];rfl] at e
 have b:(Pl X).length < 16777216:=by rw[Hb];omega
 have e:b5 (al 0) mF iF (Pl X) [none,#v[.int k]]=_:=e
 generalize Pl X=P at *
 exact ba (rs:=[.pl 5]) (Z1:=[a0,a1,a2,a3,a5,#v[.lst P],#v[.int k],a7,a8,a9,a10,a11,a12]) (Z2:=[a0,a1,a2,a3,a5,#v[.lst P],#v[.int k],a7,a8,a9,a10,a11,a12]) rfl e b rfl
end
theorem Gn {i j:Nat} {ms:M3 (List R3)} {a b:L3.D} {f c:Fl} {Z Z1 Z3:Sto} (h1:ms Z=some (.ok [.val a f,.val b c],Z1)) (hi:(i < Z1.length/\j < Z1.length)/\f≠.l/\c≠.l) (h3:(Z1.set i (some (a,f))).set j (some (b,c))=Z3):qY i j ms Z=some (.ok .nx,Z3):=by
 simp only[qY,af,h1]
 rw[if_pos hi,h3]
section
variable {H:L3.D} {E S:List Nat} {k:L3.D} {a0 a1 a2 a4 a5 a7:Option (L3.D×Fl)} {t u:Str}
theorem Gd (s0:bM [(.int 0,.z),(H,.z),(k,.z)]=some (.ok (.lst (Nd E),.u),[(.int 0,.z),(H,.z),(k,.z)])) (s1:bM [(.int 1,.z),(H,.z),(k,.z)]=some (.ok (.lst (Nd S),.u),[(.int 1,.z),(H,.z),(k,.z)]))
  (e:jL [.lst (Nd E)]=#v[.str t]) (f:jL [.lst (Nd S)]=#v[.str u]) (m:E.length < 100) (l:S.length < 100) (a10 a11 a12:Option (L3.D×Fl)) :
  ∃ c a,jS [a0,a1,a2,#v[H],a4,a5,#v[k],a7,some (.lst (Nd E),.u),some (.lst (Nd S),.u),a10,a11,a12]=some (.ok .nx,[a0,a1,a2,#v[H],a4,a5,#v[k],a7,some (.lst (Nd E),.u),some (.lst (Nd S),.u),a10,c,a]):=by
 have g:=zW t
 have j:=zW u
 have i:=uP (A:=Nd E) (d:=.int 0) (by rw[Hb];omega)
 have p2:=uP (A:=Nd S) (d:=.int 0) (by rw[Hb];omega)
 generalize Nd E++[L3.D.int 0]=E2 at *
 generalize Nd S++[L3.D.int 0]=S2 at *
 generalize Nd E=E1 at *
 generalize Nd S=S1 at *
 refine #[some (.lst E2,.u),some (.lst S2,.u),?_]
 unfold jS
 apply ao (Z1:=[a0,a1,a2,#v[H],a4,a5,#v[k],a7,some (.lst E1,.u),some (.lst S1,.u),a10,some (.lst E1,.u),some (.lst S1,.u)])
 .exact Gn (ak (aw s0 (ak i_c (ak (ay rfl) (ak (ay rfl) aG))) rfl rfl rfl) (ak (aw s1 (ak i_c (ak (ay rfl) (ak (ay rfl) aG))) rfl rfl rfl) aG)) #[#[Nat.le_of_ble_eq_true rfl,Nat.le_of_ble_eq_true rfl],(λh=>by cases h),λh=>by cases h] rfl
 apply ao (Z1:=[a0,a1,a2,#v[H],a4,a5,#v[k],a7,some (.lst E1,.u),some (.lst S1,.u),a10,some (.lst E1,.u),some (.lst S1,.u)])
 .exact dF (b:=false) (lf (b:=false) (gj (bW (bK (ak (ay rfl) aG) rfl e) (bK (ak (ay rfl) aG) rfl e) rfl rfl g) rfl) rfl (gj (bW (bK (ak (ay rfl) aG) rfl f) (bK (ak (ay rfl) aG) rfl f) rfl rfl j) rfl)) rfl rfl
 apply ao (Z1:=[a0,a1,a2,#v[H],a4,a5,#v[k],a7,some (.lst E1,.u),some (.lst S1,.u),a10,some (.lst E2,.u),some (.lst S1,.u)])
 .exact fA (Az rfl rfl (ak i_c aG) rfl rfl i rfl)
 exact fA (Az rfl rfl (ak i_c aG) rfl rfl p2 rfl)
end
abbrev stL (S L B H C P:L3.D) (v6 v7 v8 v9 v10 v11 a:Option (L3.D×Fl)):Sto:=[#v[S],#v[L],some (B,.u),#v[H],#v[C],#v[P],v6,v7,v8,v9,v10,v11,a]
theorem Gb {ps:List Pt} (g:GoodSh ps) (j:ps.length<=7) {k:Int} (h1:2<=k) (h2:k<=24) {S L B:L3.D} (v7 v8 v9 v10 v11 a:Option (L3.D×Fl)) :
  ∃ p y i f h,jR (stL S L B (Shd ps) (.lst (Pl (rws ps true))) (.lst (Pl (rws ps false))) #v[.int k] v7 v8 v9 v10 v11 a)=some (.ok .nx,stL S L B (Shd ps) (.lst (Pl (rws ps true))) (.lst (Pl (rws ps false))) #v[.int k] v7 p y i f h):=by
 have c:∀ b,(rws ps b).length < 4000:=λb=>by
  have:=Ah ps.length j
  have:(rws ps b).length<=(lx ps.length 0).length:=List.length_filter_le ..
  lia
 have two:∀ b,∀ r∈rws ps b,2<=r.length:=λb r o=>(mem_rws.mp o).two
 have l:=u5 ps.length (eB (wv (sgn ps) (way true)) k)
 have n:=u5 ps.length (sB (wv (sgn ps) (way false)) ps.length k)
 have x:(eL (wv (sgn ps) (way true)) ps.length k).length<=ps.length:=l.len
 have w:(sL (wv (sgn ps) (way false)) ps.length k).length<=ps.length:=n.len
 have s:=yz (zs:=((rws ps true).filter λr=>decide ((r.length:Int) ≥ k)).map lst) l (by omega) (by rw[Hb];exact Nat.lt_of_le_of_lt (List.length_filter_le _ _) (c true)) (FZ λr=>mem_rws)
 have v:=yz (zs:=((rws ps false).filter λr=>decide ((r.length:Int) ≥ k)).map λr=>el r 0) n (by omega) (by rw[Hb];exact Nat.lt_of_le_of_lt (List.length_filter_le _ _) (c false)) (FY λr=>mem_rws)
 obtain ⟨t,tE⟩:=ze l j
 obtain ⟨u,tS⟩:=ze n j
 have s0:=said0 (ceX g j h1 h2)
 have s1:=said1 (csX g j h1 h2)
 have b1:=λa10 a11 a12=>Gd (a0:=#v[S]) (a1:=#v[L]) (a2:=some (B,.u)) (a4:=#v[.lst (Pl (rws ps true))]) (a5:=#v[.lst (Pl (rws ps false))]) (a7:=v7) s0 s1 tE tS (by omega) (by omega) a10 a11 a12
 have e1:=λa8 a9 a10 a11 a12=>F9 (k:=k) (a0:=#v[S]) (a1:=#v[L]) (a2:=some (B,.u)) (a3:=#v[Shd ps]) (a5:=#v[.lst (Pl (rws ps false))]) (a7:=v7) (a8:=a8) (a9:=a9) (a10:=a10) (a11:=a11) (a12:=a12) (two true) (c true)
 have q:=λa8 a9 a10 a11 a12=>F8 (k:=k) (a0:=#v[S]) (a1:=#v[L]) (a2:=some (B,.u)) (a3:=#v[Shd ps]) (a5:=#v[.lst (Pl (rws ps true))]) (a7:=v7) (a8:=a8) (a9:=a9) (a10:=a10) (a11:=a11) (a12:=a12) (two false) (c false)
 clear s0 s1 tE tS l n x w two c g j
 generalize Nd (((rws ps true).filter λr=>decide ((r.length:Int) ≥ k)).map lst)=ρ1 at *
 generalize Nd (((rws ps false).filter λr=>decide ((r.length:Int) ≥ k)).map λr=>el r 0)=ρ2 at *
 generalize Nd (eL (wv (sgn ps) (way true)) ps.length k)=EL at *
 generalize Nd (sL (wv (sgn ps) (way false)) ps.length k)=SL at *
 generalize Pl (rws ps true)=C at *
 generalize Pl (rws ps false)=P at *
 generalize Shd ps=H at *
 obtain ⟨Z1,A,i,f,h,rfl⟩:=bC (bnd:=al 10) (b:=jS) (λ_ Z=>∃ a10 a11 a12,Z=stL S L B H (.lst C) (.lst P) #v[.int k] v7 (some (.lst EL,.u)) (some (.lst SL,.u)) a10 a11 a12) (ds:=aS 0 2) (Z:=stL S L B H (.lst C) (.lst P) #v[.int k] v7 (some (.lst EL,.u)) (some (.lst SL,.u)) v10 v11 a) (k:=0) #[v10,v11,a,rfl] (by
  rintro m d Z hd ⟨a10,a11,a12,rfl⟩
  obtain ⟨f,h,e⟩:=b1 #v[d] a11 a12
  exact #[_,_,rfl,.inl e,_,_,_,rfl])
 refine #[some (.lst EL,.u),some (.lst SL,.u),i,f,h,?_]
 have o:bV [.int 2]=some (aS 0 2):=rfl
 unfold jR
 apply ao (Z1:=stL S L B H (.lst C) (.lst P) #v[.int k] v7 (some (.lst EL,.u)) v9 v10 v11 a)
 .exact sk (bK (ak (e1 v8 v9 v10 v11 a) aG) rfl s) rfl (Nat.le_of_ble_eq_true rfl) rfl
 apply ao (Z1:=stL S L B H (.lst C) (.lst P) #v[.int k] v7 (some (.lst EL,.u)) (some (.lst SL,.u)) v10 v11 a)
 .exact sk (bK (ak (q (some (.lst EL,.u)) v9 v10 v11 a) aG) rfl v) rfl (Nat.le_of_ble_eq_true rfl) rfl
 apply dQ
 ·(repeat' (first | with_reducible apply cb (h3:=o) | infer_instance | eq_refl))
 .rfl
 .exact A
theorem Ga {ps:List Pt} (g:GoodSh ps) {d:L3.D} (h:Bad d) {S L B C P:L3.D} (v6 v8 v9 v10 v11 a:Option (L3.D×Fl)):jQ (stL S L B (Shd ps) C P v6 #v[d] v8 v9 v10 v11 a)=some (.ok .nx,stL S L B (Shd ps) C P v6 #v[d] v8 v9 v10 v11 a):=by
 have e1:=ED (GC g h)
 have c:=EC (GA g h)
 generalize Shd ps=H at *
 unfold jQ
 exact dF (b:=false) (lf (b:=false) (gj (bW (aw e1 (ak i_c (ak (ay rfl) (ak (ay rfl) aG))) rfl rfl rfl) i_c rfl rfl rfl) rfl) rfl (gj (bW (aw c (ak i_c (ak (ay rfl) (ak (ay rfl) aG))) rfl rfl rfl) i_c rfl rfl rfl) rfl)) rfl rfl
theorem Am {ns:List Int} (i:Nat) (v2 y v4 p v6 v7 v8 v9 v10 v11 c:Option (L3.D×Fl)):∃ N G τ F K w s x n l m,jP [#v[.fls (ns.map .int)],#v[.int (i:Int)],v2,y,v4,p,v6,v7,v8,v9,v10,v11,c]=some (.ok .nx,[#v[.fls (ns.map .int)],#v[.int (i:Int)],N,G,τ,F,K,w,s,x,n,l,m]):=by
 obtain ⟨v,I⟩:=BR ns i
 obtain ⟨a,ps,es,g,R⟩:=wG v 7 (by decide) (by decide)
 have q:ps.length<=7:=by omega
 have es:fL [(.lst [.int v],.u),(.int 7,.z)]=some (.ok (Shd ps,.z),[(.lst [.int a],.u),(.int 7,.z)]):=es
 have M:=qZ g q true
 have J:=qZ g q false
 obtain ⟨Z1,e1,j,a8,a9,a10,a11,a12,rfl⟩:=jZ (bnd:=al 6) (b:=jR) (r:=.bl false) (f:=.z) (λk:Int=>L3.D.int k) (λ_=>true) (λZ=>∃ j a8 a9 a10 a11 a12,Z=stL (.fls (ns.map .int)) (.int (i:Int)) (.lst [.int a]) (Shd ps) (.lst (Pl (rws ps true))) (.lst (Pl (rws ps false))) j v7 a8 a9 a10 a11 a12) (xs:=[2,3,4,5,7,24]) (Z:=stL (.fls (ns.map .int)) (.int (i:Int)) (.lst [.int a]) (Shd ps) (.lst (Pl (rws ps true))) (.lst (Pl (rws ps false))) v6 v7 v8 v9 v10 v11 c) #[v6,v8,v9,v10,v11,c,rfl] (by
  rintro k Q Z ⟨j,a8,a9,a10,a11,a12,rfl⟩
  have o:2<=k/\k<=24:=by
   simp only[G6,List.not_mem_nil,or_false] at Q
   lia
  obtain ⟨s,x,n,l,m,e⟩:=Gb g q o.1 o.2 (S:=.fls (ns.map .int)) (L:=.int (i:Int)) (B:=.lst [.int a]) v7 a8 a9 a10 a11 a12
  exact #[_,_,rfl,e,_,s,x,n,l,m,rfl])
 rw[if_pos (by simp)] at e1
 have t:=l8 a 9 (by decide)
 have E:∀ d∈[L3.D.int 1,.int 25,.int 0,.int (-1 - a % 9),.bl true,.non,.str "3",.lst [.int 3]],Bad d:=by
  intro d hd
  by_cases e:d=.int (-1 - a % 9)
  .rw[e]
   have h1:=Int.emod_nonneg a (b:=9) (by decide)
   have h2:=Int.emod_lt_of_pos a (b:=9) (by decide)
   have:=Dh (a % 9).toNat (by omega)
   rwa [Int.toNat_of_nonneg h1] at this
  .simp only[G6,List.not_mem_nil,or_false] at hd
   refine GK ?_
   simp only[G6,List.not_mem_nil,or_false]
   rcases hd with h | h | h | h | h
   .exact .inl h
   .exact .inr (.inl h)
   .exact .inr (.inr (.inl h))
   .exact absurd h e
   .exact .inr (.inr (.inr h))
 obtain ⟨Z2,A,w,rfl⟩:=jZ (bnd:=al 7) (b:=jQ) (r:=.bl false) (f:=.z) (λd:L3.D=>d) (λ_=>true) (λZ=>∃ a7,Z=stL (.fls (ns.map .int)) (.int (i:Int)) (.lst [.int (a / 9)]) (Shd ps) (.lst (Pl (rws ps true))) (.lst (Pl (rws ps false))) j a7 a8 a9 a10 a11 a12) (xs:=[L3.D.int 1,.int 25,.int 0,.int (-1 - a % 9),.bl true,.non,.str "3",.lst [.int 3]]) (Z:=stL (.fls (ns.map .int)) (.int (i:Int)) (.lst [.int (a / 9)]) (Shd ps) (.lst (Pl (rws ps true))) (.lst (Pl (rws ps false))) j v7 a8 a9 a10 a11 a12) #[v7,rfl] (by
  rintro d hd Z ⟨a7,rfl⟩
  exact #[_,_,rfl,Ga g (E d hd) j a8 a9 a10 a11 a12,_,rfl])
 rw[if_pos (by simp),List.map_id'] at A
 refine #[some (.lst [.int (a / 9)],.u),#v[Shd ps],#v[.lst (Pl (rws ps true))],#v[.lst (Pl (rws ps false))],j,w,a8,a9,a10,a11,a12,?_]
 clear E g q
 generalize Pl (rws ps true)=C at *
 generalize Pl (rws ps false)=P at *
 generalize Shd ps=H at *
 unfold jP
 apply ao (Z1:=[#v[.fls (ns.map .int)],#v[.int (i:Int)],some (.lst [.int v],.u),y,v4,p,v6,v7,v8,v9,v10,v11,c])
 .nomatch [I]
 apply ao (Z1:=[#v[.fls (ns.map .int)],#v[.int (i:Int)],some (.lst [.int a],.u),#v[H],v4,p,v6,v7,v8,v9,v10,v11,c])
 .nomatch [es]
 apply ao (Z1:=stL (.fls (ns.map .int)) (.int (i:Int)) (.lst [.int a]) H (.lst C) (.lst P) v6 v7 v8 v9 v10 v11 c)
 .exact i_par (Z2:=[#v[.fls (ns.map .int)],#v[.int (i:Int)],some (.lst [.int a],.u),#v[H],v4,p,v6,v7,v8,v9,v10,v11,c]) (ak (aw M (ak (ay rfl) (ak i_c aG)) rfl rfl rfl) (ak (aw J (ak (ay rfl) (ak i_c aG)) rfl rfl rfl) aG)) rfl (Nat.le_of_ble_eq_true rfl) (Nat.le_of_ble_eq_true rfl) rfl
 apply ao
 .exact dQ (p7 (p8 (ak i_c (ak i_c (ak i_c (ak i_c (ak i_c (ak i_c aG)))))) rfl (Nat.le_of_ble_eq_true rfl)) rfl rfl) rfl e1
 have dl:fF (aa (mC (.int 1)) (aa (mC (.int 25)) (aa (mC (.int 0)) (aa (aj fB (mUn mz (mC (.int 1))) (au bE (aa (ac 2) (aa (mC (.int 9)) ah)))) (aa (mC (.bl true)) (aa (mC .non) (aa (mC (.str "3")) (aa (fF (aa (mC (.int 3)) ah)) ah)))))))) (stL (.fls (ns.map .int)) (.int (i:Int)) (.lst [.int a]) H (.lst C) (.lst P) j v7 a8 a9 a10 a11 a12)=some (.ok (.val (.lst [.int 1,.int 25,.int 0,.int (-1 - a % 9),.bl true,.non,.str "3",.lst [.int 3]]) .u),stL (.fls (ns.map .int)) (.int (i:Int)) (.lst [.int (a / 9)]) H (.lst C) (.lst P) j v7 a8 a9 a10 a11 a12) :=
  p8 (ak i_c (ak i_c (ak i_c (ak (bW (C2 i_c rfl rfl) (aw (Z2:=stL (.fls (ns.map .int)) (.int (i:Int)) (.lst [.int (a / 9)]) H (.lst C) (.lst P) j v7 a8 a9 a10 a11 a12) t (ak (ay rfl) (ak i_c aG)) rfl rfl rfl) rfl rfl rfl) (ak i_c (ak i_c (ak i_c (ak (p8 (ak i_c aG) rfl (Nat.le_of_ble_eq_true rfl)) aG)))))))) rfl (Nat.le_of_ble_eq_true rfl)
 exact dQ (p7 dl rfl rfl) rfl A
theorem BP (ns:List Int) (s:ns.length<=63):DR [(.fls (ns.map .int),.z)]=some (.ok (.bl true,.z),[(.fls (ns.map .int),.z)]):=by
 have h:∃ m:Nat,(if (if ((3:Int) < ((ns.map L3.D.int).length:Int)) then (3:Int) else ((ns.map L3.D.int).length:Int)) > 1 then (if ((3:Int) < ((ns.map L3.D.int).length:Int)) then (3:Int) else ((ns.map L3.D.int).length:Int)) else (1:Int))=(m:Int)/\m<=3:=by
  refine #[max 1 (min ns.length 3),?_,by lia]
  simp only[Hb]
  split <;> split <;> lia
 obtain ⟨m,hm,n⟩:=h
 obtain ⟨Z',e,v1,v2,c,v4,f,v6,v7,v8,v9,v10,v11,a,rfl⟩:=bC (bnd:=al 1) (b:=jP) (λ_ Z=>∃ v1 v2 c v4 f v6 v7 v8 v9 v10 v11 a,Z=[#v[.fls (ns.map .int)],v1,v2,c,v4,f,v6,v7,v8,v9,v10,v11,a]) (ds:=aS 0 m) (Z:=[#v[.fls (ns.map .int)],none,none,none,none,none,none,none,none,none,none,none,none]) (k:=0) #[_,_,_,_,_,_,_,_,_,_,_,_,rfl] (by
  rintro i d Z hd ⟨v1,v2,c,v4,f,v6,v7,v8,v9,v10,v11,a,rfl⟩
  obtain ⟨hi,rfl⟩:=cI hd
  rw[Int.zero_add]
  obtain ⟨w,r,x,q,v,t,p,u,l,g,j,e⟩:=Am (ns:=ns) i v2 c v4 f v6 v7 v8 v9 v10 v11 a
  exact #[_,_,rfl,.inl e,_,_,_,_,_,_,_,_,_,_,_,_,rfl])
 have o:bV [.int (if (if ((3:Int) < ((ns.map L3.D.int).length:Int)) then (3:Int) else ((ns.map L3.D.int).length:Int)) > 1 then (if ((3:Int) < ((ns.map L3.D.int).length:Int)) then (3:Int) else ((ns.map L3.D.int).length:Int)) else (1:Int))]=some (aS 0 m):=by
  rw[hm]
  exact cJ (by lia) (by lia)
 apply aU (Z:=[#v[.fls (ns.map .int)],none,none,none,none,none,none,none,none,none,none,none,none]) rfl rfl
 .apply ao
  .apply dQ
   ·(repeat' (first | with_reducible apply cb (h3:=o) | infer_instance | eq_refl))
   .rfl
   .exact e
  .nofun
 .rfl
end Bn
end
namespace Bn
open PySem L2 L3
theorem GP {l:PySem.W.OpenLaw} {w:World} {K:FG} {h:Heap} {mg:Str -> Option Value} {fa:Addr} (X:K.In h) (G:h.Ns mainGlobals mg) (fi:mg "law"=some (.ref fa)) (e:BN K=vK) :
  ∃ fd:FuncData,(∀ (s:Shared) (v:Value),BindsTo s fd #[[v],[]] [("_law_script",v)]) /\ ∀ base:Heap,K.In base -> base.Ns mainGlobals mg -> FnOk l.prog w K mg base CX0 11 fa fd ["_law_script"] (yB K):=by
 have g:dsL.map (λp=>sA K p.1)=dsL.map (λp=>mP p.1 p.2):=congrArg (λx=>x.1) e
 have e1:blL.map (PySem.W.nsIn K mainGlobals)=blL.map (λ_=>some none):=congrArg (λx=>x.2.1) e
 have e2:ciL.map (λp=>p6 K p.1)=ciL.map (λp=>some p.2):=congrArg (λx=>x.2.2.1) e
 have e3:csL.map (λp=>yy K p.1)=csL.map (λp=>some p.2):=congrArg (λx=>x.2.2.2.1) e
 have e4:xrL.map (λr:String=>vY K r)=xrL.map (λ_:String=>qj):=congrArg (λx=>x.2.2.2.2.1) e
 have e5:xcL.map (ja K)=xcL.map (λ_=>true):=congrArg (λx=>x.2.2.2.2.2.1) e
 have e6:xbL.map (PySem.W.nsIn K mainGlobals)=xbL.map (λ_=>some none):=congrArg (λx=>x.2.2.2.2.2.2.1) e
 have e7:qg K=lQ:=congrArg (λx=>x.2.2.2.2.2.2.2.1) e
 have C:[PySem.W.kitOne K (.ref (ag K "NoNumber")) (.ref (ag K "Apart")),PySem.W.kitOne K (.ref (ag K "NoSheet")) (.ref (ag K "Apart")),PySem.W.kitOne K (.ref (ag K "NoNumber")) (.ref (ag K "Bare")),PySem.W.kitOne K (.ref (ag K "NoSheet")) (.ref (ag K "Bare")),PySem.W.kitOne K (.ref (ag K "NoNumber")) (.ref (ag K "BentError")),PySem.W.kitOne K (.ref (ag K "NoSheet")) (.ref (ag K "BentError")),PySem.W.kitOne K (.ref (ag K "NoNumber")) (.ref (ag K "NoNumber")),PySem.W.kitOne K (.ref (ag K "NoSheet")) (.ref (ag K "NoNumber")),PySem.W.kitOne K (.ref (ag K "NoNumber")) (.ref (ag K "NoPlace")),PySem.W.kitOne K (.ref (ag K "NoSheet")) (.ref (ag K "NoPlace")),PySem.W.kitOne K (.ref (ag K "NoNumber")) (.ref (ag K "NoRing")),PySem.W.kitOne K (.ref (ag K "NoSheet")) (.ref (ag K "NoRing")),PySem.W.kitOne K (.ref (ag K "NoNumber")) (.ref (ag K "NoRow")),PySem.W.kitOne K (.ref (ag K "NoSheet")) (.ref (ag K "NoRow")),PySem.W.kitOne K (.ref (ag K "NoNumber")) (.ref (ag K "NoSheet")),PySem.W.kitOne K (.ref (ag K "NoSheet")) (.ref (ag K "NoSheet")),PySem.W.kitOne K (.ref (ag K "NoNumber")) (.ref (ag K "NoText")),PySem.W.kitOne K (.ref (ag K "NoSheet")) (.ref (ag K "NoText")),PySem.W.kitOne K (.ref (ag K "NoNumber")) (.ref (ag K "OnLine")),PySem.W.kitOne K (.ref (ag K "NoSheet")) (.ref (ag K "OnLine")),PySem.W.kitOne K (.ref (ag K "NoNumber")) (.ref (ag K "TooMany")),PySem.W.kitOne K (.ref (ag K "NoSheet")) (.ref (ag K "TooMany")),PySem.W.kitOne K (.ref (ag K "NoNumber")) (.type "ValueError"),PySem.W.kitOne K (.ref (ag K "NoSheet")) (.type "ValueError")]=[some false,some false,some false,some false,some true,some true,some true,some false,some false,some false,some false,some false,some false,some false,some false,some true,some false,some false,some false,some false,some false,some false,some true,some true]:=congrArg (λx=>x.2.2.2.2.2.2.2.2.1) e
 have e9:[PySem.W.exmOne K (.ref (ag K "NoNumber")) (.ref (ag K "BentError")),PySem.W.exmOne K (.ref (ag K "NoSheet")) (.ref (ag K "BentError"))]=[some true,some true]:=congrArg (λx=>x.2.2.2.2.2.2.2.2.2) e
 have B:Bl mg:=#[b8 X G e1 0 rfl,b8 X G e1 1 rfl,b8 X G e1 2 rfl,b8 X G e1 3 rfl,b8 X G e1 4 rfl,b8 X G e1 5 rfl,b8 X G e1 6 rfl,b8 X G e1 7 rfl,b8 X G e1 8 rfl,b8 X G e1 9 rfl,b8 X G e1 10 rfl,b8 X G e1 11 rfl,b8 X G e1 12 rfl,b8 X G e1 13 rfl,b8 X G e1 14 rfl,b8 X G e1 15 rfl,b8 X G e1 16 rfl,b8 X G e1 17 rfl,b8 X G e1 18 rfl,b8 X G e1 19 rfl]
 have D0:Def K mg "is_whole" fT:=aJ X G g 0 rfl
 have D1:Def K mg "is_point" fV:=aJ X G g 1 rfl
 have D2:Def K mg "check_number" cG:=aJ X G g 2 rfl
 have D3:Def K mg "are_points" dS:=aJ X G g 3 rfl
 have D4:Def K mg "has_rising_x" cF:=aJ X G g 4 rfl
 have D5:Def K mg "bend" ph:=aJ X G g 5 rfl
 have D6:Def K mg "threes" jC:=aJ X G g 6 rfl
 have D7:Def K mg "first_on_line" ce:=aJ X G g 7 rfl
 have D8:Def K mg "is_sheet" fU:=aJ X G g 8 rfl
 have D9:Def K mg "check_sheet" b7:=aJ X G g 9 rfl
 have fb:Def K mg "turn_at" iX:=aJ X G g 10 rfl
 have fw:Def K mg "all_turns" eJ:=aJ X G g 11 rfl
 have f5:Def K mg "row_table" eG:=aJ X G g 12 rfl
 have fo:Def K mg "cup_table" eI:=aJ X G g 13 rfl
 have eo:Def K mg "onward_table" cE:=aJ X G g 14 rfl
 have f7:Def K mg "cup_ends" fW:=aJ X G g 15 rfl
 have eH:Def K mg "cap_starts" dR:=aJ X G g 16 rfl
 have et:Def K mg "_law_cell" jH:=aJ X G g 17 rfl
 have f6:Def K mg "_law_mix" lG:=aJ X G g 18 rfl
 have er:Def K mg "_law_box" lH:=aJ X G g 19 rfl
 have fz:Def K mg "_law_take" jD:=aJ X G g 20 rfl
 have fy:Def K mg "_law_whole" iY:=aJ X G g 21 rfl
 have ew:Def K mg "_law_bend" jI:=aJ X G g 22 rfl
 have eN:Def K mg "_law_free" jG:=aJ X G g 23 rfl
 have fk:Def K mg "_law_sheet" iZ:=aJ X G g 24 rfl
 have ep:Def K mg "_law_up" pg:=aJ X G g 25 rfl
 have ey:Def K mg "_law_rising" fS:=aJ X G g 26 rfl
 have eT:Def K mg "_law_bends" i7:=aJ X G g 27 rfl
 have fC:Def K mg "_law_parts" i5:=aJ X G g 28 rfl
 have eu:Def K mg "_law_rows" jF:=aJ X G g 29 rfl
 have f3:Def K mg "_law_marks" i6:=aJ X G g 30 rfl
 have ez:Def K mg "_law_said" jE:=aJ X G g 31 rfl
 obtain ⟨f,fd,F0,hf⟩:Def K mg "law" iu:=aJ X G g 32 rfl
 cases fi.symm.trans hf
 have F:=F0
 obtain ⟨oc,od,kV,doc,pm,an,fe,ct,gn,ef,lk,g4⟩:=F0.ex
 subst ef
 obtain ⟨gm,Q0⟩:=p5 X G e2 0 (n:="MOST_POINTS") (v:=24) rfl
 obtain ⟨g0,Q1⟩:=p5 X G e2 1 (n:="UP") (v:=1) rfl
 obtain ⟨gs,Q2⟩:=p5 X G e2 2 (n:="LEAST_PLACES") (v:=2) rfl
 obtain ⟨gy,Q3⟩:=p5 X G e2 3 (n:="DOWN") (v := -1) rfl
 obtain ⟨a,ck⟩:=AW X G e7 e4 0 (r:="NoNumber") rfl
 obtain ⟨b,c7⟩:=AW X G e7 e4 1 (r:="NoSheet") rfl
 have b4:mg "NoNumber"=_:=ee X G e5 0 rfl
 have c0:mg "NoSheet"=_:=ee X G e5 1 rfl
 have ed:mg "Apart"=_:=ee X G e5 2 rfl
 have ek:mg "Bare"=_:=ee X G e5 3 rfl
 have j:mg "BentError"=_:=ee X G e5 4 rfl
 have cv:mg "NoPlace"=_:=ee X G e5 5 rfl
 have ea:mg "NoRing"=_:=ee X G e5 6 rfl
 have eb:mg "NoRow"=_:=ee X G e5 7 rfl
 have d0:mg "NoText"=_:=ee X G e5 8 rfl
 have d1:mg "OnLine"=_:=ee X G e5 9 rfl
 have dr:mg "TooMany"=_:=ee X G e5 10 rfl
 have T:mg "ValueError"=none:=b8 X G e6 0 rfl
 have ec:IsX K (.ref (ag K "Apart")) [("NoNumber",false),("NoSheet",false)]:=(.cons a (dB C 0 rfl rfl) (.cons b (dB C 1 rfl rfl) .nil))
 have ej:IsX K (.ref (ag K "Bare")) [("NoNumber",false),("NoSheet",false)]:=(.cons a (dB C 2 rfl rfl) (.cons b (dB C 3 rfl rfl) .nil))
 have ae:IsX K (.ref (ag K "BentError")) [("NoNumber",true),("NoSheet",true)]:=(.cons a (dB C 4 rfl rfl) (.cons b (dB C 5 rfl rfl) .nil))
 have bb:IsX K (.ref (ag K "NoNumber")) [("NoNumber",true),("NoSheet",false)]:=(.cons a (dB C 6 rfl rfl) (.cons b (dB C 7 rfl rfl) .nil))
 have dx:IsX K (.ref (ag K "NoPlace")) [("NoNumber",false),("NoSheet",false)]:=(.cons a (dB C 8 rfl rfl) (.cons b (dB C 9 rfl rfl) .nil))
 have d3:IsX K (.ref (ag K "NoRing")) [("NoNumber",false),("NoSheet",false)]:=(.cons a (dB C 10 rfl rfl) (.cons b (dB C 11 rfl rfl) .nil))
 have ei:IsX K (.ref (ag K "NoRow")) [("NoNumber",false),("NoSheet",false)]:=(.cons a (dB C 12 rfl rfl) (.cons b (dB C 13 rfl rfl) .nil))
 have dc:IsX K (.ref (ag K "NoSheet")) [("NoNumber",false),("NoSheet",true)]:=(.cons a (dB C 14 rfl rfl) (.cons b (dB C 15 rfl rfl) .nil))
 have d2:IsX K (.ref (ag K "NoText")) [("NoNumber",false),("NoSheet",false)]:=(.cons a (dB C 16 rfl rfl) (.cons b (dB C 17 rfl rfl) .nil))
 have d4:IsX K (.ref (ag K "OnLine")) [("NoNumber",false),("NoSheet",false)]:=(.cons a (dB C 18 rfl rfl) (.cons b (dB C 19 rfl rfl) .nil))
 have c3:IsX K (.ref (ag K "TooMany")) [("NoNumber",false),("NoSheet",false)]:=(.cons a (dB C 20 rfl rfl) (.cons b (dB C 21 rfl rfl) .nil))
 have N:IsX K (.type "ValueError") [("NoNumber",true),("NoSheet",true)]:=(.cons a (dB C 22 rfl rfl) (.cons b (dB C 23 rfl rfl) .nil))
 have a6:ExX K (ag K "BentError") ["NoNumber","NoSheet"]:=(.cons a (dB e9 0 rfl rfl) (.cons b (dB e9 1 rfl rfl) .nil))
 refine #[PySem.W.fnOf "law" "law" (aK iu) (aB iu) (ad iu) .none kV doc pm an fe ct,λs v=>.of_eq rfl,λbase _ _=>?_]
 have t:=qu (P:=l.prog) (w:=w) (base:=base) B D0
 have b3:=qw (P:=l.prog) (w:=w) (base:=base) B D1 t
 have c:=jw (P:=l.prog) (w:=w) (base:=base) B D2 t a ck
 have τ:=m4 (P:=l.prog) (w:=w) (base:=base) B D3 b3 Q0
 have y:=kJ (P:=l.prog) (w:=w) (base:=base) B D4
 have dV:=A6 (P:=l.prog) (w:=w) (base:=base) B D5
 have φ:=uE (P:=l.prog) (w:=w) (base:=base) B D6
 have o:=j3 (P:=l.prog) (w:=w) (base:=base) B D7 dV φ
 have q:=qv (P:=l.prog) (w:=w) (base:=base) B D8 τ o y
 have I:=lD (P:=l.prog) (w:=w) (base:=base) B D9 q
 have d:=j4 (P:=l.prog) (w:=w) (base:=base) B D9 q b c7
 have c5:=sM (P:=l.prog) (w:=w) (base:=base) B fb dV
 have i:=nN (P:=l.prog) (w:=w) (base:=base) B fw I φ c5
 have V:=nJ (P:=l.prog) (w:=w) (base:=base) B f5 i
 have ar:=nM (P:=l.prog) (w:=w) (base:=base) B fo V Q1
 have z:=kI (P:=l.prog) (w:=w) (base:=base) B eo
 have R:=mZ (P:=l.prog) (w:=w) (base:=base) B f7 c d ar Q2 Q0
 have u:=kK (P:=l.prog) (w:=w) (base:=base) B eH i c d z Q3 Q2 Q0
 have ρ:=uJ (P:=l.prog) (w:=w) (base:=base) B et
 have cm:=xU (P:=l.prog) (w:=w) (base:=base) B f6
 have bt:=xV (P:=l.prog) (w:=w) (base:=base) B er ρ cm
 have k:=uF (P:=l.prog) (w:=w) (base:=base) B fz
 have M:=sN (P:=l.prog) (w:=w) (base:=base) B fy
 have m:=uK (P:=l.prog) (w:=w) (base:=base) B ew
 have az:=uI (P:=l.prog) (w:=w) (base:=base) B eN m
 have J:=sO (P:=l.prog) (w:=w) (base:=base) B fk az k
 have c4:=A5 (P:=l.prog) (w:=w) (base:=base) B ep m
 have D:=qt (P:=l.prog) (w:=w) (base:=base) B ey M
 have S:=sQ (P:=l.prog) (w:=w) (base:=base) B eT D c4
 have L:=sP (P:=l.prog) (w:=w) (base:=base) B fC
 have σ:=uH (P:=l.prog) (w:=w) (base:=base) B eu S L
 have A:=nK (P:=l.prog) (w:=w) (base:=base) B f3 ed ec ek ej j ae b4 bb cv dx ea d3 eb ei c0 dc d0 d2 d1 d4 dr c3 T N
 have ax:=uG (P:=l.prog) (w:=w) (base:=base) B ez A u R j a6
 exact FnOk.imp (C4 (P:=l.prog) (w:=w) (base:=base) B F bt σ ax J k) λvs H Q E h=>CU (λns hn=>#[_,BP ns hn]) h
theorem walkL:PySem.W.WalkO viL loL (λ_ _=>True) (λ_ h=>∃ K:FG,K.In h /\ BN K=vK) PySem.Challenge.rw_bentrows_k19_ends_and_starts.row.toRowW ⟨"law",aK iu,aB iu,ad iu,stPos iu⟩ [] (λf g=>PySem.call f g) :=
 L2.walk_ofS (l:=PySem.Challenge.rw_bentrows_k19_ends_and_starts) (n:=63) (k:=11) (x:="_law_script") (S:=λK=>BN K=vK) (CX:=CX0) (sp:=yB) rfl (by decide) rfl ⟨rfl,by decide,by decide,rfl⟩ (λ_ _ z=>z) (λ_ _ _ _ _ e X G hm=>GP X G hm e) (λ_ _ a ns b d c=>⟨a,ns,rfl,c,d,b,λ_=>rfl⟩) λ_ _ _ _ z=>z
end Bn
open PySem PySem.W PyProof.Rows
set_option maxRecDepth 100000 in
set_option maxHeartbeats 0 in
theorem PySem.Challenge.cw_bentrows_k19_ends_and_starts_holds : PySem.Challenge.rw_bentrows_k19_ends_and_starts.Holds :=
 holds_law Bn.okL λsaid=>holds_open (r:=PySem.Challenge.rw_bentrows_k19_ends_and_starts.row) Bn.leftL (λ_ _ e=>⟨_,L2.fragAt_in _,e⟩) (λ_ _ _ ⟨K,X,e⟩ k=>⟨K,X.keeps k,e⟩) (λ_ _=>trivial) (λ_ _ _ _ _=>trivial) (by kernel_rfl) (by kernel_rfl) (by kernel_rfl) (λs e=>recFacts_of e) (by rfl) said (by kernel_rfl) ⟨rfl,rfl,rfl,rfl,rfl,by decide +kernel⟩ ⟨[.list []],by decide +kernel,by decide +kernel⟩ Bn.walkL
