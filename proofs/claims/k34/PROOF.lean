import PyProof.Rows.All
import Wide.All
import OpenK.AllK
import Wide.FinOn
import Lean
import PyProof.EqAt
import PyProof.EqKinds
import PyProof.TupleCall
import PyProof.P3Eq
import PyProof.NeData
import PyProof.ListRange
import PyProof.Rows.CallKwBuiltin
import PyProof.Rows.Range3
import PyProof.DictWalks
import PyProof.MinMaxWalk
import PyProof.WalkInts
import PyProof.Walk
import PyProof.WalkLemmas
import PyProof.RulesTry
import PyProof.Rows.SortShell
import PyProof.Rows.SortWalk
import PyProof.Rows.SortRuns
import PyProof.Rows.SumAny
import PyProof.ListIndex
import PyProof.ListIndexNeg
import PySem.Challenge.RW_bentrows_k34_whole_empty_rings
set_option tactic.hygienic false
set_option genSizeOf false
set_option compiler.extract_closed false
set_option Elab.async false
noncomputable section
local macro_rules|`(#[$a,*])=>`(⟨$a,*⟩)
local macro_rules|`(#v[$a])=>`(some ($a,.z))
set_option linter.all false
set_option maxRecDepth 100000
set_option maxHeartbeats 4000000
section
abbrev FG:=PySem.W.Frag
open PySem PySem.Spec PyProof.Rows
abbrev E2:=@wpAny_bind
abbrev E3:=@wpAny_pure
abbrev E4:=@wpAny_holding
abbrev E5:=@List.mem_cons_self
abbrev E6:=@List.mem_cons_of_mem
abbrev E7:=@Heap.get?_push_of_some
abbrev E8:=@Option.map_eq_some_iff
abbrev E9:=@List.mem_append_left
abbrev Fb:=@List.mem_append_right
abbrev Fc:=@List.mem_cons
abbrev Fd:=@List.getElem?_eq_getElem
abbrev Fe:=@Heap.lt_size
abbrev Ff:=@List.mem_append
abbrev Fg:=@Heap.get?_push_size
abbrev Fh:=@List.length_map
abbrev Fi:=@List.getElem?_eq_some_iff
abbrev Fj:=@List.mem_of_getElem?
abbrev Fm:=@List.sublist_append_right
abbrev Fo:=@List.mem_map
abbrev Fp:=@List.getElem?_map
abbrev Fq:=@Nat.le_refl
abbrev Fs:=@Bool.false_ne_true
abbrev Ft:=@Nat.ne_of_lt
abbrev Fu:=@List.size_toArray
abbrev Fv:=@List.map_cons
abbrev Fw:=@decide_eq_true
abbrev Fy:=@decide_eq_false
abbrev Fz:=@Nat.lt_of_lt_of_le
abbrev FA:=@Nat.zero_add
abbrev FC:=@Heap.get?_update_self
abbrev FD:=@List.length_append
abbrev FE:=@List.length_cons
abbrev FF:=@List.length_take
abbrev FH:=@Option.map_some
abbrev FI:=@Option.bind_eq_some_iff
abbrev FJ:=@List.mem_singleton
abbrev FK:=@Bool.false_eq_true
abbrev FL:=@List.mem_filter
abbrev FN:=@List.getElem?_append_left
abbrev FO:=@Heap.get?_update_other
abbrev FP:=@Heap.size_push
abbrev FQ:=@wpAny_truthy_bool
abbrev FR:=@Nat.le_trans
abbrev FT:=@List.take_of_length_le
abbrev FU:=@List.filter_eq_self
abbrev FV:=@List.mem_flatMap
abbrev FW:=@List.map_map
abbrev FX:=@List.map_congr_left
abbrev FY:=@Option.some.inj
abbrev FZ:=@List.length_eq_zero_iff
end
section
namespace L2
open PySem
def aY (s:Stmt):Arguments:=match s with
 | .FunctionDef _ a _ _ _ _ _ _ _ _=>a
 | _=>{ posonlyargs:=[],args:=[],vararg:=none,kwonlyargs:=[],kw_defaults:=[],kwarg:=none,defaults:=[] }
def aS (s:Stmt):List Stmt:=match s with
 | .FunctionDef _ _ b _ _ _ _ _ _ _=>b
 | _=>[]
def ai (s:Stmt):Scope:=match s with
 | .FunctionDef _ _ _ _ _ _ sc _ _ _=>sc
 | _=>{ kind:=.function,names:=[],isGenerator:=false,isCoroutine:=false }
def qM (p:Nat×Obj):Option (Nat×Obj):=match p.2 with
 | #[_,_,.freed,_]=>none
 | o=>some (p.1,o)
def yR (h:Heap):FG:=((List.range h.objs.size).zip h.objs.toList).filterMap qM
def refIn (K:FG) (n:Str):Addr:=match PySem.W.nsIn K mainGlobals n with
 | some (some (.ref f))=>f
 | _=>0
abbrev pM:=Str×Str×Arguments×FuncBody×Scope×Addr×List (Str×Addr)×Value×Addr×Bool
def qW (K:FG) (n:Str):Option pM:=match PySem.W.nsIn K mainGlobals n with
 | some (some (.ref f))=>(match K.lookup f with
  | some #[_,_,.func fd,_]=>some (fd.name,fd.qualname,fd.params,fd.body,fd.scope,fd.globals,fd.closure,fd.defaults,fd.builtins,PySem.W.codeIn K fd.code n)
  | _=>none)
 | _=>none
def mS (n:Str) (st:Stmt):Option pM:=some (n,n,aY st,.stmts (aS st),ai st,mainGlobals,[],.none,builtinsNs,true)
def o9 (K:FG) (n:Str):Option Int:=match PySem.W.nsIn K mainGlobals n with
 | some (some (.int v _))=>some v
 | _=>none
def wW (K:FG) (n:Str):Option Str:=match PySem.W.nsIn K mainGlobals n with
 | some (some (.str v _))=>some v
 | _=>none
open PySem.W PyProof.Rows in
theorem vN {p q:Program} {loose:List Str} {c:Shared → Bool} {α:Type} {d:Shared → α} {g:World → α} {N m:Nat} {ann:Option Value}
  (e:opening p=plainProg p.main.scope.names) (k:Nat.ble 600 N=true) (f:∀ s,fenceModules? p s=some s)
  (sz:∀ w:World,((boot_heap w.params).isNs mainGlobals && (Array.mk []:Array GenState).size == 0,(boot_heap w.params).objs.size,(boot_heap w.params).nsMap mainGlobals "__annotations__")=(true,m,ann))
  (go:∀ (w:World) (os:OsState),(PySem.W.Fast.tw14082659384304107361 PySem.W.Fast.tw14364793385576792824 p w m ann N #[boot_heap w.params,Array.mk [],boot_drawn,boot_toks,os] (topStub p)).map (λs=>((staticsOk (importedModules p.main.body) (boot_heap w.params) s.heap && namesBound p s.heap && gensDone s && laidKept (boot_heap w.params) s.heap),PySem.W.Fast.tw4187177175401517315 q loose (importedModules p.main.body) c true s,d s))=some (true,openGood q loose,g w)):LeftO p q loose c d g N:=λw=>by
 obtain ⟨⟨n,h,l,tk,os⟩,j,i⟩:=E8.mp (boot_open e k f w)
 obtain ⟨rfl,rfl,rfl,rfl⟩:n=boot_heap w.params ∧ h=Array.mk [] ∧ l=boot_drawn ∧ tk=boot_toks:=by simpa using i
 have sw:=sz w
 have a:=go w os
 rw[← PySem.W.Fast.te14082659384304107361,← PySem.W.Fast.te14364793385576792824,← PySem.W.Fast.te4187177175401517315] at a
 simp only[Prod.mk.injEq] at sw
 obtain ⟨s,o,b⟩:=E8.mp a
 simp only[Prod.mk.injEq] at b
 have tt:topFrom treeTable p w N #[boot_heap w.params,Array.mk [],boot_drawn,boot_toks,os]=some s:=by
  unfold topFrom
  dsimp only
  rw[sw.1,sw.2.1,sw.2.2,o]
  change (match staticsOk (importedModules p.main.body) (boot_heap w.params) s.heap && namesBound p s.heap && gensDone s && laidKept (boot_heap w.params) s.heap with | true=>some s | false=>none)=some s
  rw[b.1]
 unfold openEnds
 rw[j]
 change Option.map _ (topFrom treeTable p w N _)=_
 rw[tt]
 exact congrArg some (Prod.ext b.2.1 b.2.2)
theorem vf (h:PySem.W.Fast.tw9446332074065402090 l=true):l.wellSaid=true:=by rw[← PySem.W.Fast.te9446332074065402090] at h; exact h
end L2
namespace Bn
open PySem L2
def top (i:Nat):Stmt:=PySem.Challenge.pw_bentrows_k34_whole_empty_rings.main.body.getD i (.Pass ⟨0,0,0,0⟩)
abbrev gr:Stmt:=top 9
abbrev gv:Stmt:=top 10
abbrev gw:Stmt:=top 11
abbrev bD:Stmt:=top 12
abbrev dM:Stmt:=top 13
abbrev cZ:Stmt:=top 14
abbrev fA:Stmt:=top 15
abbrev d9:Stmt:=top 18
abbrev cW:Stmt:=top 19
abbrev oM:Stmt:=top 20
abbrev jW:Stmt:=top 21
abbrev cG:Stmt:=top 22
abbrev gu:Stmt:=top 23
abbrev dL:Stmt:=top 24
abbrev jj:Stmt:=top 25
abbrev fB:Stmt:=top 26
abbrev ji:Stmt:=top 27
abbrev fv:Stmt:=top 31
abbrev gq:Stmt:=top 34
abbrev d8:Stmt:=top 35
abbrev bU:Stmt:=top 36
abbrev cV:Stmt:=top 37
abbrev cC:Stmt:=top 38
abbrev d7:Stmt:=top 39
abbrev cX:Stmt:=top 42
abbrev cD:Stmt:=top 43
abbrev jV:Stmt:=top 44
abbrev dI:Stmt:=top 45
abbrev cF:Stmt:=top 46
abbrev dJ:Stmt:=top 47
abbrev cY:Stmt:=top 48
abbrev cg:Stmt:=top 49
abbrev jZ:Stmt:=top 51
abbrev lO:Stmt:=top 52
abbrev lP:Stmt:=top 53
abbrev jX:Stmt:=top 54
abbrev j0:Stmt:=top 55
abbrev jY:Stmt:=top 56
abbrev jl:Stmt:=top 57
abbrev jm:Stmt:=top 58
abbrev iM:Stmt:=top 59
abbrev dsL:List (Str×Stmt):=[(("is_whole":Str),gr),(("is_point":Str),gv),(("is_place":Str),gw),(("are_rising_places":Str),bD),(("check_place":Str),dM),(("check_number":Str),cZ),(("check_few":Str),fA),(("are_points":Str),d9),(("has_rising_x":Str),cW),(("bend":Str),oM),(("threes":Str),jW),(("first_on_line":Str),cG),(("is_sheet":Str),gu),(("check_sheet":Str),dL),(("turn_at":Str),jj),(("all_turns":Str),fB),(("without":Str),ji),(("row_bends":Str),fv),(("side_row":Str),gq),(("is_ring_by":Str),d8),(("turns_with_ring":Str),bU),(("tallies_from":Str),cV),(("tally_between":Str),cC),(("rings_many":Str),d7),(("fits_between":Str),cX),(("places_within":Str),cD),(("within":Str),jV),(("is_empty_by":Str),dI),(("is_empty_ring":Str),cF),(("empty_rings":Str),dJ),(("empties_many":Str),cY),(("greatest_empty":Str),cg),(("_law_cell":Str),jZ),(("_law_mix":Str),lO),(("_law_box":Str),lP),(("_law_take":Str),jX),(("_law_bend":Str),j0),(("_law_free":Str),jY),(("_law_sheet":Str),jl),(("_law_right":Str),jm),(("law":Str),iM)]
abbrev blL:List Str:=[("len":Str),("range":Str),("abs":Str),("divmod":Str),("enumerate":Str),("tuple":Str),("isinstance":Str),("int":Str),("bool":Str),("all":Str),("str":Str),("max":Str),("min":Str),("list":Str),("dict":Str),("repr":Str),("sorted":Str),("set":Str),("zip":Str),("reversed":Str),("sum":Str)]
abbrev ciL:List (Str×Int):=[(("MOST_POINTS":Str),(24:Int)),(("DOWN":Str),(-1:Int)),(("LEAST_CORNERS":Str),(3:Int)),(("UP":Str),(1:Int)),(("MOST_FOR_EMPTIES":Str),(10:Int))]
abbrev csL:List (Str×Str):=[]
def z8 (K:FG):List (Option pM)×List (Option (Option Value))×List (Option Int)×List (Option Str):=(dsL.map (λp=>qW K p.1),blL.map (PySem.W.nsIn K mainGlobals),ciL.map (λp=>o9 K p.1),csL.map (λp=>wW K p.1))
def uz:List (Option pM)×List (Option (Option Value))×List (Option Int)×List (Option Str):=(dsL.map (λp=>mS p.1 p.2),blL.map (λ_=>some none),ciL.map (λp=>some p.2),csL.map (λp=>some p.2))
theorem okL:PySem.Challenge.rw_bentrows_k34_whole_empty_rings.wellSaid=true:=vf (by kernel_rfl)
abbrev loL:List Str:=[("BentError":Str),("NoSheet":Str),("NoPlace":Str),("NoNumber":Str),("NoRing":Str),("TooMany":Str),("Bare":Str),("is_whole":Str),("is_point":Str),("is_place":Str),("are_rising_places":Str),("check_place":Str),("check_number":Str),("check_few":Str),("MOST_POINTS":Str),("are_points":Str),("has_rising_x":Str),("bend":Str),("threes":Str),("first_on_line":Str),("is_sheet":Str),("check_sheet":Str),("turn_at":Str),("all_turns":Str),("without":Str),("UP":Str),("DOWN":Str),("row_bends":Str),("LEAST_CORNERS":Str),("side_row":Str),("is_ring_by":Str),("turns_with_ring":Str),("tallies_from":Str),("tally_between":Str),("rings_many":Str),("MOST_FOR_EMPTIES":Str),("fits_between":Str),("places_within":Str),("within":Str),("is_empty_by":Str),("is_empty_ring":Str),("empty_rings":Str),("empties_many":Str),("greatest_empty":Str),("_law_cell":Str),("_law_mix":Str),("_law_box":Str),("_law_take":Str),("_law_bend":Str),("_law_free":Str),("_law_sheet":Str),("_law_right":Str)]
abbrev viL:Program:=PySem.W.view PySem.Challenge.rw_bentrows_k34_whole_empty_rings.row.prog [59]
theorem leftL:PySem.W.LeftO PySem.Challenge.rw_bentrows_k34_whole_empty_rings.row.prog viL loL (λs=>PySem.W.recOk (PySem.W.RowW.records PySem.Challenge.rw_bentrows_k34_whole_empty_rings.row.toRowW) s) (λs=>z8 (yR s.heap)) (λ_=>uz) 40000 :=
 vN (m:=11) (ann:=some (.ref 6)) (by kernel_rfl) rfl (λ_=>rfl) (λw=>by kernel_rfl) (λw os=>by kernel_rfl)
end Bn
end
section
namespace L2
open PySem PySem.Spec PyProof.Rows
abbrev Key:=Sum Int Str
def oi:Key->Value->Bool
 | .inl k,v=>Value.isInt k v
 | .inr x,v=>Value.isStrOf x v
def keyH (w:World):Key->Int
 | .inl k=>hashInt k
 | .inr x=>hashStr w x
theorem bA:∀ {k:Key} {v:Value},oi k v=true->(∃ i t,k=Sum.inl i/\v=Value.int i t)\/(∃ x t,k=Sum.inr x/\v=Value.str x t)
 | .inl i,v,h=>by
  obtain ⟨t,e⟩:=Value.isInt_shape (k:=i) (v:=v) h
  exact .inl #[i,t,rfl,e]
 | .inr x,v,h=>by
  obtain ⟨t,e⟩:=Value.isStrOf_shape (x:=x) (v:=v) h
  exact .inr #[x,t,rfl,e]
theorem vQ (i:Int) (t:Tok):oi (.inl i) (.int i t)=true:=by simp[oi,Value.isInt]
theorem vP (x:Str) (t:Tok):oi (.inr x) (.str x t)=true:=by simp[oi,Value.isStrOf]
theorem Es (a b:Int):decide ((Sum.inl a:Key)=Sum.inl b)=(a == b):=by
 by_cases e:a=b
 .subst e;simp
 .have h:¬ (Sum.inl a:Key)=Sum.inl b:=λq=>e (Sum.inl.inj q)
  rw[Fy h]
  exact (beq_eq_false_iff_ne.mpr e).symm
theorem Eo (a b:Str):decide ((Sum.inr a:Key)=Sum.inr b)=decide (a=b):=by
 by_cases e:a=b
 .subst e;simp
 .have h:¬ (Sum.inr a:Key)=Sum.inr b:=λq=>e (Sum.inr.inj q)
  rw[Fy h,Fy e]
theorem Er (a:Int) (b:Str):decide ((Sum.inl a:Key)=Sum.inr b)=false:=Fy (λq=>nomatch q)
theorem Ep (a:Str) (b:Int):decide ((Sum.inr a:Key)=Sum.inl b)=false:=Fy (λq=>nomatch q)
def ci (prog:Program) (w:World):PySem.KeyKind prog w Key where
 is:=oi
 hash:=keyH w
 inj:=λv a b f d=>by
  rcases bA f with ⟨i,t,rfl,rfl⟩ | ⟨x,t,rfl,rfl⟩
  .rcases bA d with ⟨j,u,rfl,e⟩ | ⟨y,u,rfl,e⟩
   .injection e with e1 _;rw[e1]
   .exact nomatch e
  .rcases bA d with ⟨j,u,rfl,e⟩ | ⟨y,u,rfl,e⟩
   .exact nomatch e
   .injection e with e1 _;rw[e1]
 byValue:=λk v h=>by
  rcases bA h with ⟨i,t,rfl,rfl⟩ | ⟨x,t,rfl,rfl⟩ <;> rfl
 pyHash:=λc h=>by
  rcases bA c with ⟨i,t,rfl,rfl⟩ | ⟨x,t,rfl,rfl⟩
  .exact wpAny_pyHash_int h
  .exact wpAny_pyHash_str h
 eqBool:=λhu c h=>by
  rcases bA hu with ⟨i,t,rfl,rfl⟩ | ⟨x,t,rfl,rfl⟩
  .rcases bA c with ⟨j,u,rfl,rfl⟩ | ⟨y,u,rfl,rfl⟩
   .rw[Es] at h;exact wpAny_eqBool_int h
   .rw[Er] at h;exact SeqAt.EqAt.int_str i t y u _ _ _ _ h
  .rcases bA c with ⟨j,u,rfl,rfl⟩ | ⟨y,u,rfl,rfl⟩
   .rw[Ep] at h;exact SeqAt.EqAt.str_int x t j u _ _ _ _ h
   .rw[Eo] at h;exact wpAny_eqBool_str h
 «strs»:=λk x t v h=>by
  rcases bA h with ⟨i,u,rfl,e⟩ | ⟨y,u,rfl,e⟩
  .exact nomatch e
  .injection e with e1 _
   subst e1
   cases v <;> rfl
theorem qD (prog:Program) (w:World) (i:Int) (t:Tok):(ci prog w).is (.inl i) (.int i t)=true:=vQ i t
theorem qC (prog:Program) (w:World) (x:Str) (t:Tok):(ci prog w).is (.inr x) (.str x t)=true:=vP x t
end L2
namespace L2
open PySem PySem.Spec PyProof.Rows
inductive V where
 | non | bl (b:Bool) | int (i:Int) | str (x:Str) | byt (b:Array UInt8) | flt (b:UInt64) | ref (a:Addr) | ty (n:String)
 deriving DecidableEq
def RelV:V->Value->Prop
 | .non,u=>u=Value.none
 | .bl b,u=>u=Value.bool b
 | .int i,u=>∃ t,u=Value.int i t
 | .str x,u=>∃ t,u=Value.str x t
 | .byt b,u=>∃ t,u=Value.bytes b t
 | .flt b,u=>∃ t,u=Value.float b t
 | .ref a,u=>u=Value.ref a
 | .ty n,u=>u=Value.type n
abbrev Vals:List V->List Value->Prop:=Paired RelV
theorem Vals.length (r:Vals xs us):xs.length=us.length:=Paired.length r
theorem Vals.get:∀ {xs:List V} {us:List Value} {i:Nat} {x:V},Vals xs us->xs[i]?=some x->∃ u,us[i]?=some u/\RelV x u
 | _,_,_,_,.nil,e=>by simp at e
 | _,_,0,_,.cons r _,e=>by simp at e;subst e;exact #[_,rfl,r]
 | _,_,i+1,x,.cons _ t,e=>by
  obtain ⟨u,h1,h2⟩:=Vals.get (i:=i) (x:=x) t (by simpa using e)
  exact #[u,by simpa using h1,h2]
theorem Vals.set (r:RelV x u):∀ {xs:List V} {us:List Value} (i:Nat),Vals xs us->Vals (xs.set i x) (us.set i u)
 | _,_,_,.nil=>.nil
 | _,_,0,.cons _ t=>.cons r t
 | _,_,i+1,.cons q t=>.cons q (Vals.set r i t)
theorem Vals.append:∀ {xs ys:List V} {us ws:List Value},Vals xs us->Vals ys ws->Vals (xs++ys) (us++ws)
 | _,_,_,_,.nil,s=>s
 | _,_,_,_,.cons r t,s=>.cons r (Vals.append t s)
theorem Vals.take:∀ {xs:List V} {us:List Value} (n:Nat),Vals xs us->Vals (xs.take n) (us.take n)
 | _,_,0,_=>.nil
 | _,_,_+1,.nil=>.nil
 | _,_,n+1,.cons r t=>.cons r (Vals.take n t)
theorem Vals.drop:∀ {xs:List V} {us:List Value} (n:Nat),Vals xs us->Vals (xs.drop n) (us.drop n)
 | _,_,0,r=>r
 | _,_,_+1,.nil=>.nil
 | _,_,n+1,.cons _ t=>Vals.drop n t
def RelO:Option V->Option Value->Prop
 | some v,some u=>RelV v u
 | none,none=>True
 | _,_=>False
def KV {κ:Type}:List (κ×V)->List (κ×Value)->Prop:=Paired λ(p:κ×V) (q:κ×Value)=>p.1=q.1/\RelV p.2 q.2
def kV:Key->V
 | .inl i=>.int i
 | .inr x=>.str x
inductive HO where
 | lst (xs:List V)
 | tup (xs:List V)
 | dK (kvs:List (Key×V)) | dT (kvs:List (List Key×V)) (n:Nat)
 | set (S:Int->Bool) (n:Nat)
 | ins (C dx:Addr) (fs:List (Str×V))
 | own (x:Addr)
 | xd (fs:List (Str×V))
 | met (f x:Addr)
 | rng (lo hi:Int)
 | frz (o:Obj) (u:HO)
 | tbl (ps:Array Value)
 | ext (φ:Heap->Prop)
abbrev Hp:=Addr->Option HO
def upd (H:Hp) (a:Addr) (o:HO):Hp:=λb=>if b=a then some o else H b
theorem bu:upd H a o a=some o:=by unfold upd;rw[if_pos rfl]
theorem aF (h:b≠a):upd H a o b=H b:=by unfold upd;rw[if_neg h]
theorem ne_of {H:Hp} (h:H a=some o) (h':H b=some u) (d:o≠u):a≠b:=by
 intro e;subst e;rw[h] at h';exact d (FY h')
theorem aV {H:Hp} (h:H a=some o) (h':H b=none):a≠b:=by
 intro e;subst e;rw[h] at h';cases h'
def DictOfE {prog:Program} {w:World} {κ:Type} [DecidableEq κ] (knd:KeyKind prog w κ) (h:Heap) (a:Addr) (b:List (κ×Value)):Prop :=
 ∃ o es c,h.get? a=some o/\o.ExactDict/\o.data=.dict es c/\KeysOf knd es/\Pairs knd es.toList b/\(b.map (·.1)).Nodup/\c=es.size
theorem DictOfE.of [DecidableEq κ] {knd:KeyKind prog w κ} {b:List (κ×Value)} (x:DictOfE knd h a b):h.DictOf knd a b:=let #[o,es,f,h1,h2,h3,d,c,e,_]:=x;#[o,es,f,h1,h2,h3,d,c,e]
def IsTupD (h:Heap) (a:Addr) (items:Array Value):Prop:=∃ o,h.get? a=some o/\o.cls=.type "tuple"/\∃ n,(o.data,o.dict)=(Data.seq items n,none)
theorem IsTupD.tup {h:Heap} {a:Addr} {items:Array Value} (x:IsTupD h a items):IsTup h a items:=let #[o,e,c,n,d]:=x;#[o,e,c,n,congrArg Prod.fst d]
theorem IsTupD.lt (x:IsTupD h a items):a < h.objs.size:=x.tup.lt
theorem IsTupD.new (h:Heap) (items:Array Value):IsTupD (h.push { cls:=.type "tuple",data:=.seq items }) h.objs.size items:=#[_,Fg h rfl,rfl,_,rfl]
section
variable (P:Program) (w:World)
def ObjOk (H:Hp) (h:Heap) (a:Addr):HO->Prop
 | .lst xs=>xs.length<=sizeLine/\∃ (its:List Value) (n:Nat),Vals xs its/\h.get? a=some { cls:=.type "list",data:=.seq its.toArray n }
 | .tup xs=>xs.length<=sizeLine/\∃ its:List Value,Vals xs its/\IsTupD h a its.toArray
 | .dK kvs=>kvs.length<=sizeLine/\(a == sysModules)=false/\∃ vs,KV kvs vs/\DictOfE (ci P w) h a vs
 | .dT kvs n=>kvs.length<=sizeLine/\(a == sysModules)=false/\∃ xs:List (List Key×Addr×Value),
   Paired (λ(p:List Key×V) (q:List Key×Addr×Value)=>p.1=q.1/\H q.2.1=some (.tup (p.1.map kV))/\RelV p.2 q.2.2) kvs xs /\
   ∃ o es c,h.get? a=some o/\o.ExactDict/\o.data=.dict es c/\es.toList=xs.map (entryOfKey (tupleKind (ci P w)))/\(xs.map (·.1)).Nodup/\es.size=c+n
 | .set S n=>h.SetOf (intKind P w) a S n
 | .ins C dx fs=>H dx=some (.own a)/\fs.length<=1000/\dx≠a/\h.get? a=some (PySem.W.instObj C dx) /\
   ∃ b,h.Ns1 dx b/\(∀ f,RelO (fs.lookup f) (b f))/\PySem.Within b (fs.map (·.1))
 | .own _=>∃ o,h.get? a=some o
 | .xd fs=>∃ b,h.Ns1 a b/\∀ f,RelO (fs.lookup f) (b f)
 | .rng lo hi=>∃ t u v,h.get? a=some { cls:=.type "range",data:=.fields (List.toArray [.int lo t,.int hi u,.int 1 v]) }
 | .frz o u=>h.get? a=some o/\ObjOk H h a u
 | .tbl ps=>h.get? a=some { cls:=.none,data:=.fields ps }
 | .met f x=>h.get? a=some (PySem.W.methodObj (.ref f) (.ref x))
 | .ext φ=>φ h/\(∃ o,h.get? a=some o)/\∀ h1 h2:Heap,φ h1->(∀ o,h1.get? a=some o->h2.get? a=some o)->φ h2
def HOk (H:Hp) (h:Heap):Prop:=∀ a o,H a=some o->ObjOk P w H h a o
end
section
variable {P:Program} {w:World} {H H':Hp} {h h':Heap} {a:Addr} {o:HO}
theorem ObjOk.lt (x:ObjOk P w H h a o):a < h.objs.size:=by
 cases o with
 | lst xs=>obtain ⟨_,_,_,_,e⟩:=x;exact Fe e
 | tup xs=>obtain ⟨_,_,_,p⟩:=x;exact p.lt
 | dK kvs=>obtain ⟨_,_,_,_,o,_,_,e,_⟩:=x;exact Fe e
 | dT kvs n=>obtain ⟨_,_,_,_,o,_,_,e,_⟩:=x;exact Fe e
 | set S n=>obtain ⟨o,_,_,_,e,_⟩:=x;exact Fe e
 | ins C dx fs=>obtain ⟨_,_,_,e,_⟩:=x;exact Fe e
 | own y=>obtain ⟨_,e⟩:=x;exact Fe e
 | xd fs=>obtain ⟨_,⟨_,_,_,e,_⟩,_⟩:=x;exact Fe e
 | rng lo hi=>obtain ⟨_,_,_,e⟩:=x;exact Fe e
 | frz ob u=>obtain ⟨e,_⟩:=x;exact Fe e
 | tbl ps=>exact Fe (show h.get? a=some _ from x)
 | met f y=>exact Fe (show h.get? a=some _ from x)
 | ext φ=>obtain ⟨_,⟨_,e⟩,_⟩:=x;exact Fe e
theorem Paired.mapP:∀ {d:List α} {c:List β},Paired F d c->(∀ a b,F a b->G a b)->Paired G d c
 | _,_,.nil,_=>.nil
 | _,_,.cons r t,f=>.cons (f _ _ r) (Paired.mapP t f)
theorem ObjOk.stay (x:ObjOk P w H h a o) (k:∀ b u,(b=a\/H b=some (.own a))->h.get? b=some u->h'.get? b=some u)
  (m:∀ b,H b=some (.own a)->H' b=some (.own a)) (j:∀ b xs,H b=some (.tup xs)->H' b=some (.tup xs)):ObjOk P w H' h' a o:=by
 induction o with
 | lst xs=>obtain ⟨z,its,n,r,e⟩:=x;exact #[z,its,n,r,k _ _ (.inl rfl) e]
 | tup xs=>obtain ⟨z,its,r,ob,e,c⟩:=x;exact #[z,its,r,ob,k _ _ (.inl rfl) e,c]
 | dK kvs=>obtain ⟨z,y,vs,r,ob,es,g,e,c⟩:=x;exact #[z,y,vs,r,ob,es,g,k _ _ (.inl rfl) e,c]
 | dT kvs n =>
  obtain ⟨z,y,xs,r,ob,es,g,e,c⟩:=x
  exact #[z,y,xs,Paired.mapP r λp q z=>#[z.1,j _ _ z.2.1,z.2.2],ob,es,g,k _ _ (.inl rfl) e,c]
 | set S n=>obtain ⟨ob,es,g,t,e,c⟩:=x;exact #[ob,es,g,t,k _ _ (.inl rfl) e,c]
 | ins C dx fs =>
  obtain ⟨d,z,ne,e,i,⟨od,es,g,l,c⟩,r⟩:=x
  exact #[m _ d,z,ne,k _ _ (.inl rfl) e,i,#[od,es,g,k _ _ (.inr d) l,c],r]
 | own y=>obtain ⟨ob,e⟩:=x;exact #[ob,k _ _ (.inl rfl) e]
 | xd fs=>obtain ⟨i,⟨od,es,g,e,c⟩,r⟩:=x;exact #[i,#[od,es,g,k _ _ (.inl rfl) e,c],r]
 | rng lo hi=>obtain ⟨t,u,v,e⟩:=x;exact #[t,u,v,k _ _ (.inl rfl) e]
 | frz ob u ih=>obtain ⟨e,q⟩:=x;exact #[k _ _ (.inl rfl) e,ih q]
 | tbl ps =>
  have e:h.get? a=some { cls:=.none,data:=.fields ps }:=x
  show h'.get? a=some { cls:=.none,data:=.fields ps }
  exact k a _ (.inl rfl) e
 | met f y =>
  have e:h.get? a=some (PySem.W.methodObj (.ref f) (.ref y)):=x
  show h'.get? a=some (PySem.W.methodObj (.ref f) (.ref y))
  exact k a _ (.inl rfl) e
 | ext φ=>obtain ⟨p,⟨o,e⟩,st⟩:=x;exact #[st _ _ p λo q=>k _ _ (.inl rfl) q,#[o,k _ _ (.inl rfl) e],st]
theorem HOk.lt (x:HOk P w H h) (e:H a=some o):a < h.objs.size:=(x a o e).lt
theorem HOk.fresh (x:HOk P w H h) (e:h.objs.size<=a):H a=none:=by
 cases q:H a with
 | none=>rfl
 | some u=>exact absurd (Fz (x.lt q) e) (Nat.lt_irrefl _)
theorem HOk.kept (x:HOk P w H h) (k:∀ b u,h.get? b=some u->h'.get? b=some u):HOk P w H h':=λa o e =>
 (x a o e).stay (λb u _ q=>k b u q) (λ_ q=>q) λ_ _ q=>q
theorem HOk.laid (x:HOk P w H h) (k:∀ b u,h.get? b=some u->h'.get? b=some u) (f:h.objs.size<=a) (new:ObjOk P w (upd H a o) h' a o):HOk P w (upd H a o) h':=λb u e=>by
 have hn:=x.fresh f
 by_cases d:b=a
 .subst d;rw[bu] at e;cases e;exact new
 .rw[aF d] at e
  exact (x b u e).stay (λc v _ q=>k c v q) (λc q=>by rw[aF (aV q hn)];exact q) λc xs q=>by rw[aF (aV q hn)];exact q
end
def Rd (H:Hp) (a:Addr) (u:HO):Prop:=H a=some u\/∃ o,H a=some (.frz o u)
theorem Rd.ok (r:Rd H a u) (x:HOk P w H h):ObjOk P w H h a u:=by
 rcases r with r | ⟨o,r⟩
 .exact x a u r
 .obtain ⟨_,q⟩:=x a _ r
  exact q
def Mut:Option HO->Prop
 | some (.lst _)=>True
 | some (.dK _)=>True
 | some (.dT _ _)=>True
 | some (.set _ _)=>True
 | some (.ins _ _ _)=>True
 | some (.ext _)=>True
 | _=>False
section
variable {P:Program} {w:World} {H:Hp} {h h':Heap} {x e:Addr} {o':HO}
theorem HOk.write (ok:HOk P w H h) (g:Mut (H x)) (he:e=x\/H e=some (.own x)) (k:∀ b u,b≠e->h.get? b=some u->h'.get? b=some u) (l:∃ u,h'.get? e=some u)
  (new:ObjOk P w (upd H x o') h' x o'):HOk P w (upd H x o') h':=λb u q=>by
 have d:∀ c y,H c=some (.own y)->c≠x:=λc y r z=>by subst z;rw[r] at g;exact g
 have f:∀ c xs,H c=some (.tup xs)->c≠x:=λc xs r z=>by subst z;rw[r] at g;exact g
 by_cases j:b=x
 .subst j;rw[bu] at q;cases q;exact new
 .rw[aF j] at q
  by_cases a:b=e
  .have m:H b=some (.own x):=by
    rcases he with z | z
    .exact absurd (a.trans z) j
    .rw[a];exact z
   rw[q] at m;cases m
   obtain ⟨v,n⟩:=l
   exact #[v,by rw[a];exact n]
  .refine (ok b u q).stay (λc v i r=>k c v ?_ r) (λc r=>by rw[aF (d c b r)];exact r) λc xs r=>by rw[aF (f c xs r)];exact r
   rcases i with rfl | i
   .exact a
   .rintro rfl
    rcases he with z | z
    .exact d c b i z
    .rw[i] at z;cases z;exact j rfl
end
structure Un (fs ex:List Addr) (H H':Hp) (h h':Heap):Prop where
 keep:∀ b o,h.get? b=some o->H b=none->b ∉ fs->b ∉ ex->h'.get? b=some o
 slot:∀ b o,h.get? b=some o->H b=none->b∈fs->b ∉ ex->∃ sl,h'.get? b=some { o with slots:=sl }
 free:∀ b o,h.get? b=some o->H b=none->b ∉ ex->H' b=none
 there:∀ b o,h.get? b=some o->b ∉ ex->∃ o',h'.get? b=some o'
 tups:∀ b xs,H b=some (.tup xs)->H' b=some (.tup xs)
 frzs:∀ b o u,H b=some (.frz o u)->H' b=some (.frz o u)
 tbls:∀ b ps,H b=some (.tbl ps)->∃ more,H' b=some (.tbl (ps++more))
section
variable {fs fs' ex ex':List Addr} {H H1 H2:Hp} {h h1 h2 h':Heap} {a x e:Addr} {o:HO}
theorem Un.any (u:Un fs ex H H1 h h1) (q:h.get? b=some ob) (n:H b=none) (c:b ∉ ex):∃ sl,h1.get? b=some { ob with slots:=sl }:=by
 by_cases a:b∈fs
 .exact u.slot b ob q n a c
 .exact #[ob.slots,u.keep b ob q n a c]
theorem Un.trans (a:Un fs ex H H1 h h1) (b:Un fs ex H1 H2 h1 h2):Un fs ex H H2 h h2 where
 keep:=λc ob q n e d=>b.keep c ob (a.keep c ob q n e d) (a.free c ob q n d) e d
 slot:=λc ob q n e d=>by
  obtain ⟨sl,e1⟩:=a.slot c ob q n e d
  obtain ⟨g,f⟩:=b.slot c _ e1 (a.free c ob q n d) e d
  exact #[g,f]
 free:=λc ob q n d=>by
  obtain ⟨o',e1⟩:=a.there c ob q d
  exact b.free c o' e1 (a.free c ob q n d) d
 there:=λc ob q d=>by
  obtain ⟨o',e1⟩:=a.there c ob q d
  exact b.there c o' e1 d
 tups:=λc xs q=>b.tups c xs (a.tups c xs q)
 frzs:=λc ob xs q=>b.frzs c ob xs (a.frzs c ob xs q)
 tbls:=λc ps q=>by
  obtain ⟨j,e1⟩:=a.tbls c ps q
  obtain ⟨i,f⟩:=b.tbls c _ e1
  exact #[j++i,by rw[f,Array.append_assoc]]
theorem Un.kept (k:∀ b u,h.get? b=some u->h'.get? b=some u):Un fs ex H H h h' :=
 #[λb ob q _ _ _=>k b ob q,λb ob q _ _ _=>#[ob.slots,k b ob q],λ_ _ _ n _=>n,λb ob q _=>#[ob,k b ob q],λ_ _ q=>q,λ_ _ _ q=>q,λ_ ps q=>#[(List.toArray []),by rw[q];simp]]
theorem Un.refl:Un fs ex H H h h:=Un.kept λ_ _ q=>q
theorem Un.laid (k:∀ b u,h.get? b=some u->h'.get? b=some u) (c:h.objs.size<=a) (hn:H a=none):Un fs ex H (upd H a o) h h' where
 keep:=λb u q _ _ _=>k b u q
 slot:=λb u q _ _ _=>#[u.slots,k b u q]
 free:=λb u q n _=>by rw[aF (Ft (Fz (Fe q) c))];exact n
 there:=λb u q _=>#[u,k b u q]
 tups:=λb xs q=>by rw[aF (aV q hn)];exact q
 frzs:=λb u xs q=>by rw[aF (aV q hn)];exact q
 tbls:=λb ps q=>#[(List.toArray []),by rw[aF (aV q hn),q];simp]
theorem Un.write (c:Mut (H x)) (he:e=x\/H e=some (.own x)) (k:∀ b u,b≠e->h.get? b=some u->h'.get? b=some u) (d:∃ u,h'.get? e=some u):Un fs ex H (upd H x o) h h':=by
 have g:∀ b,H b=none->b≠x:=λb n z=>by subst z;rw[n] at c;exact c
 have f:∀ b,H b=none->b≠e:=λb n z=>by
  subst z
  rcases he with r | r
  .exact g b n r
  .rw[n] at r;cases r
 have hm:∀ b u,H b=some u->¬ Mut (some u)->b≠x:=λb u q nm z=>by subst z;rw[q] at c;exact nm c
 refine ⟨λb u q n _ _=>k b u (f b n) q,λb u q n _ _=>⟨u.slots,k b u (f b n) q⟩,λb u q n _=>by rw[aF (g b n)];exact n,λb u q _=>?_,
  λb xs q=>by rw[aF (hm b _ q λz=>z)];exact q,λb u xs q=>by rw[aF (hm b _ q λz=>z)];exact q,λb ps q=>⟨(List.toArray []),by rw[aF (hm b _ q λz=>z),q];simp⟩⟩
 by_cases a:b=e
 .subst a;exact d
 .exact #[u,k b u a q]
end
def trk (h:Heap) (H:Hp):List Addr:=(List.range h.objs.size).filter λa=>(H a).isSome
def pj (h:Heap) (H:Hp):Heap:=PySem.W.hideAll h (trk h H)
theorem vV (h:Heap) (H:Hp):(pj h H).objs.size=h.objs.size:=PySem.W.hideAll_size _ _
theorem yJ (e:h.get? b=some o) (n:H b=none):(pj h H).get? b=some o :=
 PySem.W.hideAll_get _ e λhm=>by
  have q:(H b).isSome=true:=(FL.mp hm).2
  rw[n] at q;simp at q
theorem AX (e:(pj h H).get? b=some o):h.get? b=some o/\H b=none:=by
 have a:h.get? b=some o:=PySem.W.of_hideAll (trk h H) e
 refine #[a,?_]
 cases q:H b with
 | none=>rfl
 | some x =>
  have hm:b∈trk h H:=FL.mpr #[List.mem_range.mpr (Fe a),by simp[q]]
  have z:(pj h H).get? b=none:=PySem.W.hideAll_none (trk h H) hm
  rw[z] at e;cases e
def BP (g h:Heap) (L:Addr):List (Addr×Obj):=(List.range h.objs.size).filterMap λa=>if a=L\/(g.get? a).isSome=true then none else (h.get? a).map λo=>(a,o)
def iP (g h:Heap) (L d:Addr):List (Addr×Obj):=(BP g h L).filter λp=>decide (p.1≠d)
end L2
namespace L2
open PySem PySem.Spec PyProof.Rows
structure Mod (K:FG) (mg:Str->Option Value) (base:Heap):Prop where
 kin:K.In base
 glob:base.Ns mainGlobals mg
 blt:∃ mb,base.Ns builtinsNs mb/\∀ x:Str,x≠"__name__"->mb x=bootBuiltins x
 nolimit:base.NoLimit
structure Cx where
 prog:Program
 w:World
 K:FG
 mg:Str->Option Value
 base:Heap
 A:Around
 N:List Str
 s₀:Shared
 H₀:Hp
 env:Env
 outer:List Env
 stack:List Env
 ex:List Addr
 fn:Str->Bool
 calm:Bool
 pn:List (Addr×Obj)
 xe:Value->Shared->Prop
def frs (l:List Env):List Addr:=l.filterMap (·.frame)
abbrev Cx.fs (X:Cx):List Addr:=frs X.outer
def Vis (sc:Scope) (x:Str):Prop:=sc.names.lookup x=some .local\/sc.names.lookup x=some .cell\/sc.names.lookup x=some .free
def Loc (sc:Scope) (x:Str):Prop:=sc.names.lookup x=some .local\/sc.names.lookup x=some .cell
def Look (env:Env) (h:Heap) (m:Str->Option Value) (x:Str) (u:Value):Prop :=
 (env.kindOf x=some .local/\m x=some u)\/((env.kindOf x=some .cell\/env.kindOf x=some .free)/\∃ c,env.cells.lookup x=some c/\h.IsCell c (some u))
structure Cx.Ok (X:Cx):Prop where
 mod:Mod X.K X.mg X.base
 kind:X.env.scope.kind=.function
 glob:X.env.globals=mainGlobals
 blt:X.env.builtins=builtinsNs
 above:X.s₀.heap.objs.size<=X.env.locals
 inj:∀ x y c,X.env.cells.lookup x=some c->X.env.cells.lookup y=some c->x=y
 has:∀ x,(X.env.kindOf x=some .cell\/X.env.kindOf x=some .free)->∃ c,X.env.cells.lookup x=some c
 cab:∀ x c,X.fn x=true->X.env.cells.lookup x=some c->X.s₀.heap.objs.size<=c
 hd:X.calm=true->X.A.handled=none
 frames:X.A.frames=some X.stack
 stk:X.stack=X.outer\/(X.stack=X.env::X.outer/\X.env.frame=some X.env.locals)
 exf:∀ b∈X.ex,b≠X.env.locals/\∀ x c,X.env.cells.lookup x=some c->c≠b
 bs:∀ b o,X.base.get? b=some o->X.s₀.heap.get? b=some o/\X.H₀ b=none
 bsz:X.base.objs.size<=X.s₀.heap.objs.size
 noex:∀ b o,X.base.get? b=some o->b ∉ X.ex
 exfs:∀ b∈X.ex,b ∉ X.fs
 funs:X.s₀.heap.FunFrames X.base X.outer
 frf:∀ b∈X.fs,X.H₀ b=none
structure Inv (X:Cx) (pins:List (Addr×Obj)) (O:List (Option V)) (H:Hp) (s:Shared):Prop where
 ok:X.Ok
 os:s.os=X.s₀.os
 bare:AllBare s.gens
 base:Un X.fs X.ex X.H₀ H X.s₀.heap s.heap
 loc:∃ m,s.heap.Ns X.env.locals m/\∀ (i:Nat) (x:Str) (v:V),X.N[i]?=some x->O[i]?=some (some v)->Vis X.env.scope x->∃ u,RelV v u/\Look X.env s.heap m x u
 cell:∀ x c,X.env.cells.lookup x=some c->∃ v,s.heap.IsCell c v
 free:H X.env.locals=none
 freeC:∀ x c,X.env.cells.lookup x=some c->H c=none
 pin:∀ p∈X.pn++pins,s.heap.get? p.1=some p.2/\H p.1=none/\p.1≠X.env.locals/\p.1 ∉ X.fs/\∀ v,p.2.data≠.cell v
 hok:HOk X.prog X.w H s.heap
 len:O.length=X.N.length
section
variable {X:Cx} {pins:List (Addr×Obj)} {O:List (Option V)} {H H':Hp} {s:Shared} {h':Heap}
theorem Cx.Ok.nofr (ok:X.Ok) (e:X.base.get? b=some o):b ∉ X.fs:=λa=>by
 have:=(ok.funs.mem a).1
 rw[e] at this;cases this
theorem Inv.bs (I:Inv X pins O H s):∀ b o,X.base.get? b=some o->s.heap.get? b=some o/\H b=none:=λb o e =>
 #[I.base.keep b o (I.ok.bs b o e).1 (I.ok.bs b o e).2 (I.ok.nofr e) (I.ok.noex b o e),I.base.free b o (I.ok.bs b o e).1 (I.ok.bs b o e).2 (I.ok.noex b o e)]
theorem Inv.bk (I:Inv X pins O H s):∀ b o,X.base.get? b=some o->s.heap.get? b=some o:=λb o e=>(I.bs b o e).1
theorem Inv.mod (I:Inv X pins O H s):Mod X.K X.mg X.base:=I.ok.mod
theorem Inv.kIn (I:Inv X pins O H s):X.K.In s.heap:=I.ok.mod.kin.keeps I.bk
theorem Inv.lt (I:Inv X pins O H s):X.env.locals < s.heap.objs.size:=let #[_,hn,_]:=I.loc;hn.lt
theorem Inv.sz (I:Inv X pins O H s):X.s₀.heap.objs.size<=s.heap.objs.size:=FR I.ok.above (Nat.le_of_lt I.lt)
theorem Inv.nofs (I:Inv X pins O H s) (h:s.heap.objs.size<=a):a ∉ X.fs:=λb=>by
 obtain ⟨_,o,c,_⟩:=I.ok.funs.mem b
 exact absurd (Fz (Fe c) (FR I.sz h)) (Nat.lt_irrefl _)
theorem Inv.cne (I:Inv X pins O H s):∀ x c,X.env.cells.lookup x=some c->c≠X.env.locals:=λx c e z=>by
 obtain ⟨v,o,d,hd⟩:=I.cell x c e
 obtain ⟨m,⟨o',es,f,a,b,_⟩,_⟩:=I.loc
 rw[z,a] at d;cases d;rw[b] at hd;cases hd
theorem Inv.funs (I:Inv X pins O H s):s.heap.FunFrames X.base X.outer:=by
 have all:∀ (l:List Env),(∀ b∈frs l,b∈X.fs)->X.s₀.heap.FunFrames X.base l->s.heap.FunFrames X.base l:=by
  intro l
  induction l with
  | nil=>intro _ _;trivial
  | cons env r ih =>
   intro d hl
   obtain ⟨f,⟨L,o,hf,hn,g,hd⟩,h⟩:=hl
   have a:L∈X.fs:=d L (by unfold frs;rw[List.filterMap_cons,hf];exact E5)
   obtain ⟨sl,e⟩:=I.base.slot L o g (I.ok.frf L a) a λz=>I.ok.exfs L z a
   exact #[f,#[L,_,hf,hn,e,hd],ih (λb c=>d b (by unfold frs;rw[List.filterMap_cons,hf];exact E6 _ c)) h]
 exact all X.outer (λ_ c=>c) I.ok.funs
theorem Inv.stack (I:Inv X pins O H s):s.heap.FunFrames X.base X.stack:=by
 rcases I.ok.stk with e | ⟨e,hf⟩
 .rw[e];exact I.funs
 .rw[e]
  obtain ⟨m,hn,_⟩:=I.loc
  refine .cons (by rw[I.ok.kind];decide) hf hn ?_ I.funs
  exact Heap.get?_none_of_le (FR I.ok.bsz I.ok.above)
theorem Inv.stkSub (I:Inv X pins O H s):∀ b∈frs X.stack,b∈X.env.locals::X.fs:=λb a=>by
 rcases I.ok.stk with e | ⟨e,hf⟩
 .rw[e] at a;exact E6 _ a
 .rw[e] at a
  unfold frs at a
  rw[List.filterMap_cons,hf] at a
  exact a
theorem Inv.stkFree (I:Inv X pins O H s):∀ b∈frs X.stack,H b=none:=λb a=>by
 rcases Fc.mp (I.stkSub b a) with e | a
 .rw[e];exact I.free
 .obtain ⟨_,o,c,_⟩:=I.ok.funs.mem a
  exact I.base.free b o c (I.ok.frf b a) λz=>I.ok.exfs b z a
theorem Inv.step {t':Nat} {ch:List Addr} (I:Inv X pins O H s) (g:∀ b∈ch,(b∈X.ex\/X.s₀.heap.objs.size<=b)/\b≠X.env.locals/\(∀ x c,X.env.cells.lookup x=some c->c≠b)/\∀ p∈X.pn++pins,p.1≠b) (keep:∀ b o,b≠X.env.locals->b ∉ X.fs->b ∉ ch->s.heap.get? b=some o->H b=none->h'.get? b=some o) (slot:∀ b o,b≠X.env.locals->b∈X.fs->b ∉ ch->s.heap.get? b=some o->H b=none->∃ sl,h'.get? b=some { o with slots:=sl }) (free:∀ b o,b ∉ ch->s.heap.get? b=some o->H b=none->H' b=none) (there:∀ b o,b ∉ ch->s.heap.get? b=some o->∃ o',h'.get? b=some o') (tups:∀ b xs,H b=some (.tup xs)->H' b=some (.tup xs)) (frzs:∀ b o u,H b=some (.frz o u)->H' b=some (.frz o u)) (tbls:∀ b ps,H b=some (.tbl ps)->∃ more,H' b=some (.tbl (ps++more))) (ns:∀ m,s.heap.Ns X.env.locals m->h'.Ns X.env.locals m) (hok:HOk X.prog X.w H' h') (hg:AllBare g') :
  Inv X pins O H' { s with heap:=h',gens:=g',drawn:=d',toks:=t' }:=by
 have y:∀ b o,X.s₀.heap.get? b=some o->b≠X.env.locals:=λb o e=>Ft (Fz (Fe e) I.ok.above)
 have h:∀ b o,X.s₀.heap.get? b=some o->b ∉ X.ex->b ∉ ch:=λb o e a j=>by
  rcases (g b j).1 with z | z
  .exact a z
  .exact absurd (Fz (Fe e) z) (Nat.lt_irrefl _)
 have cellK:∀ x c,X.env.cells.lookup x=some c->∀ v,s.heap.IsCell c v->h'.IsCell c v:=λx c e v #[o,t,hd]=>by
  have f:c ∉ ch:=λz=>(g c z).2.2.1 x c e rfl
  by_cases E:c∈X.fs
  .obtain ⟨sl,q⟩:=slot c o (I.cne x c e) E f t (I.freeC x c e)
   exact #[_,q,hd]
  .exact #[o,keep c o (I.cne x c e) E f t (I.freeC x c e),hd]
 refine #[I.ok,I.os,hg,#[λb o e n j a=>?_,λb o e n j a=>?_,λb o e n a=>?_,λb o e a=>?_,λb xs e=>tups b xs (I.base.tups b xs e),λb o xs e=>frzs b o xs (I.base.frzs b o xs e),λb ps e=>?_],?_,λx c e=>?_,?_,λx c e=>?_,λp D=>?_,hok,I.len]
 .exact keep b o (y b o e) j (h b o e a) (I.base.keep b o e n j a) (I.base.free b o e n a)
 .obtain ⟨sl,e1⟩:=I.base.slot b o e n j a
  obtain ⟨B,A⟩:=slot b _ (y b o e) j (h b o e a) e1 (I.base.free b o e n a)
  exact #[B,A]
 .obtain ⟨o',e1⟩:=I.base.there b o e a
  exact free b o' (h b o e a) e1 (I.base.free b o e n a)
 .obtain ⟨o',e1⟩:=I.base.there b o e a
  exact there b o' (h b o e a) e1
 .obtain ⟨J,e1⟩:=I.base.tbls b ps e
  obtain ⟨G,A⟩:=tbls b _ e1
  exact #[J++G,by rw[A,Array.append_assoc]]
 .obtain ⟨m,hn,hl⟩:=I.loc
  refine #[m,ns m hn,λi x v e1 A F=>?_]
  obtain ⟨u,r,l⟩:=hl i x v e1 A F
  refine #[u,r,?_]
  rcases l with l | ⟨k,c,e,z⟩
  .exact .inl l
  .exact .inr #[k,c,e,cellK x c e _ z]
 .obtain ⟨v,z⟩:=I.cell x c e
  exact #[v,cellK x c e v z]
 .obtain ⟨m,⟨o,_,_,t,_⟩,_⟩:=I.loc
  exact free _ o (λz=>(g _ z).2.1 rfl) t I.free
 .obtain ⟨v,o,t,hd⟩:=I.cell x c e
  exact free c o (λz=>(g c z).2.2.1 x c e rfl) t (I.freeC x c e)
 .obtain ⟨e,n,ne,C,d⟩:=I.pin p D
  have f:p.1 ∉ ch:=λz=>(g p.1 z).2.2.2 p D rfl
  exact #[keep p.1 p.2 ne C f e n,free p.1 p.2 f e n,ne,C,d]
theorem Inv.un {t':Nat} (I:Inv X pins O H s) (u:Un X.fs [] H H' s.heap h') (hok:HOk X.prog X.w H' h'):Inv X pins O H' { s with heap:=h',toks:=t' }:=by
 obtain ⟨m,⟨o,es,k,g,r⟩,_⟩:=id I.loc
 obtain ⟨sl,h⟩:=u.any g I.free (by simp)
 exact I.step (g':=s.gens) (d':=s.drawn) (ch:=[]) (λ_ z=>nomatch z) (λb o _ f _ e n=>u.keep b o e n f (by simp)) (λb o _ f _ e n=>u.slot b o e n f (by simp)) (λb o _ e n=>u.free b o e n (by simp)) (λb o _ e=>u.there b o e (by simp)) u.tups u.frzs u.tbls (λj hm=>by
  obtain ⟨o',c,d,a,i⟩:=hm
  rw[g] at a;cases a
  exact #[_,c,d,h,i]) hok I.bare
theorem Inv.call {t':Nat} (I:Inv X pins O H s) (u:Un (frs X.stack) ch H H' s.heap h') (hok:HOk X.prog X.w H' h') (hg:AllBare g') (f:∀ b∈ch,(b∈X.ex\/X.s₀.heap.objs.size<=b)/\b≠X.env.locals/\(∀ x c,X.env.cells.lookup x=some c->c≠b)/\∀ p∈X.pn++pins,p.1≠b) :
  Inv X pins O H' { s with heap:=h',gens:=g',drawn:=d',toks:=t' }:=by
 obtain ⟨m,⟨o,es,t,j,r⟩,_⟩:=id I.loc
 obtain ⟨sl,g⟩:=u.any j I.free λz=>(f _ z).2.1 rfl
 exact I.step (ch:=ch) f (λb o g k a e n=>u.keep b o e n (λz=>(Fc.mp (I.stkSub b z)).elim g k) a) (λb o _ _ a e n=>u.any e n a) (λb o a e n=>u.free b o e n a) (λb o a e=>u.there b o e a) u.tups u.frzs u.tbls (λq hm=>by
  obtain ⟨o',h,i,d,l⟩:=hm
  rw[j] at d;cases d
  exact #[_,h,i,g,l]) hok hg
theorem Inv.turned {t':Nat} (I:Inv X pins O H s) (k:∀ b o,b≠it->s.heap.get? b=some o->h'.get? b=some o) (hn:H it=none) (f:it≠X.env.locals) (h1:it∈X.ex\/X.s₀.heap.objs.size<=it) (h2:∀ x c,X.env.cells.lookup x=some c->c≠it) (h3:∀ p∈X.pn++pins,p.1≠it):Inv X pins O H { s with heap:=h',toks:=t' }:=by
 have d:∀ b u,H b=some u->b≠it:=λb u e z=>by rw[z,hn] at e;cases e
 refine I.step (g':=s.gens) (d':=s.drawn) (ch:=[it]) (λb i=>?_) (λb o _ _ a e _=>k b o (λz=>a (by simp[z])) e) (λb o _ _ a e _=>#[o.slots,k b o (λz=>a (by simp[z])) e]) (λ_ _ _ _ n=>n)
  (λb o a e=>#[o,k b o (λz=>a (by simp[z])) e]) (λ_ _ e=>e) (λ_ _ _ e=>e) (λb ps e=>#[(List.toArray []),by rw[e];simp]) (λm hm=>?_) (λb u e=>?_) I.bare
 .have e:b=it:=by simpa using i
  subst e
  exact #[h1,f,h2,h3]
 .obtain ⟨o,es,g,h,r⟩:=hm
  exact #[o,es,g,k _ o (Ne.symm f) h,r]
 .refine (I.hok b u e).stay (λc v a q=>k c v ?_ q) (λ_ q=>q) λ_ _ q=>q
  rcases a with z | z
  .rw[z];exact d b u e
  .exact d c _ z
theorem Inv.tok (I:Inv X pins O H s) (t:Nat):Inv X pins O H { s with toks:=t }:=I.un (h':=s.heap) (t':=t) Un.refl I.hok
theorem Inv.kept {t':Nat} (I:Inv X pins O H s) (k:∀ b u,s.heap.get? b=some u->h'.get? b=some u):Inv X pins O H { s with heap:=h',toks:=t' }:=I.un (Un.kept k) (I.hok.kept k)
theorem Inv.laid {t':Nat} (I:Inv X pins O H s) (k:∀ b u,s.heap.get? b=some u->h'.get? b=some u) (c:s.heap.objs.size<=a) (new:ObjOk X.prog X.w (upd H a o) h' a o) :
  Inv X pins O (upd H a o) { s with heap:=h',toks:=t' }:=I.un (Un.laid k c (I.hok.fresh c)) (I.hok.laid k c new)
theorem Inv.write {t':Nat} (I:Inv X pins O H s) (c:Mut (H x)) (he:e=x\/H e=some (.own x)) (k:∀ b u,b≠e->s.heap.get? b=some u->h'.get? b=some u) (a:∃ u,h'.get? e=some u) (new:ObjOk X.prog X.w (upd H x o) h' x o):Inv X pins O (upd H x o) { s with heap:=h',toks:=t' }:=I.un (Un.write c he k a) (I.hok.write c he k a new)
theorem Inv.pins_of (I:Inv X pins O H s) (h:∀ p∈pins',s.heap.get? p.1=some p.2/\H p.1=none/\p.1≠X.env.locals/\p.1 ∉ X.fs/\∀ v,p.2.data≠.cell v):Inv X pins' O H s :=
 #[I.ok,I.os,I.bare,I.base,I.loc,I.cell,I.free,I.freeC,λp a=>(Ff.mp a).elim (λz=>I.pin p (E9 _ z)) (h p),I.hok,I.len]
theorem qz {N:List Str} (d:N.Nodup) {i j:Nat} (a:N[i]?=some x) (b:N[j]?=some x):i=j:=by
 obtain ⟨h1,e1⟩:=Fi.mp a
 obtain ⟨h2,c⟩:=Fi.mp b
 exact (List.getElem_inj d).mp (e1.trans c.symm)
theorem nM {i:Nat} (I:Inv X pins O H s) (hN:X.N.Nodup) (hi:X.N[i]?=some x) (t:Loc X.env.scope x) (r:RelV v u) (h:∀ s',Inv X pins (O.set i (some v)) H s'->(∃ a,Heap.SameBut a s.heap s'.heap/\(a=X.env.locals\/X.env.cells.lookup x=some a))->Q () s') (hf:X.fn x=true\/X.env.scope.names.lookup x=some .local:=by first | exact .inl rfl | exact .inr rfl | assumption):wpAny M A (storeName X.env x u) Q E s:=by
 obtain ⟨m,hn,hl⟩:=id I.loc
 have P:(X.env.scope.kind == .class || (X.env.scope.kind == .module && X.env.locals != X.env.globals))=false:=by rw[I.ok.kind];rfl
 have hiσ:i < O.length:=by rw[I.len];exact (Fi.mp hi).1
 have cne:=I.cne
 have g:∀ {a:Addr} {h':Heap},(∃ o,s.heap.get? a=some o/\H a=none)->Heap.SameBut a s.heap h'->HOk X.prog X.w H h':=λ{a h'} ha f b ob e=>by
  obtain ⟨_,_,B⟩:=ha
  refine (I.hok b ob e).stay (λc S l q=>(f.2 c ?_).trans q) (λ_ q=>q) λ_ _ q=>q
  rintro rfl
  rcases l with rfl | l
  .rw[B] at e;cases e
  .rw[B] at l;cases l
 rcases t with D | D
 .refine wpAny_storeName_local D hn (λh' V f=>?_) P
  obtain ⟨oL,_,_,U,_⟩:=id hn
  refine h _ #[I.ok,I.os,I.bare,#[λb o e n G t=>?_,λb o e n G t=>?_,I.base.free,λb o e t=>?_,I.base.tups,I.base.frzs,I.base.tbls],#[_,V,λj y v' e1 C W=>?_],λy c e=>?_,I.free,I.freeC,λp ρ=>?_,g #[oL,U,I.free] f,by simpa using I.len] #[_,f,.inl rfl]
  .exact (f.2 b (Ft (Fz (Fe e) I.ok.above))).trans (I.base.keep b o e n G t)
  .obtain ⟨sl,e1⟩:=I.base.slot b o e n G t
   exact #[sl,(f.2 b (Ft (Fz (Fe e) I.ok.above))).trans e1]
  .obtain ⟨o',e1⟩:=I.base.there b o e t
   exact #[o',(f.2 b (Ft (Fz (Fe e) I.ok.above))).trans e1]
  .by_cases F:j=i
   .subst F
    rw[hi] at e1;cases e1
    rw[List.getElem?_set_self hiσ] at C
    cases C
    exact #[u,r,.inl #[D,by simp]]
   .rw[List.getElem?_set_ne (Ne.symm F)] at C
    obtain ⟨u',r',q⟩:=hl j y v' e1 C W
    refine #[u',r',?_]
    rcases q with ⟨k,e⟩ | ⟨k,c,e,z⟩
    .refine .inl #[k,?_]
     have:y≠x:=λe=>F (qz hN e1 (e ▸ hi))
     simp[this,e]
    .exact .inr #[k,c,e,z.sameBut f (cne y c e)]
  .obtain ⟨S,z⟩:=I.cell y c e
   exact #[S,z.sameBut f (cne y c e)]
  .obtain ⟨e,n,ne,τ,d⟩:=I.pin p ρ
   exact #[(f.2 p.1 ne).trans e,n,ne,τ,d]
 .have J:X.fn x=true:=by
   rcases hf with z | z
   .exact z
   .rw[z] at D;cases D
  obtain ⟨c,l⟩:=I.ok.has x (.inl D)
  obtain ⟨S,z⟩:=I.cell x c l
  refine wpAny_storeName_cell I.ok.kind D l z (λh' σ f=>?_)
  obtain ⟨oc,K,R⟩:=id z
  refine h { s with heap:=h' } #[I.ok,I.os,I.bare,#[λb o e n G t=>?_,λb o e n G t=>?_,I.base.free,λb o e t=>?_,I.base.tups,I.base.frzs,I.base.tbls],#[m,hn.sameBut f (Ne.symm (cne x c l)),λj y v' e1 C W=>?_],λy T e=>?_,I.free,I.freeC,λp ρ=>?_,g #[oc,K,I.freeC x c l] f,by simpa using I.len] #[c,f,.inr l]
  .exact (f.2 b (Ft (Fz (Fe e) (I.ok.cab x c J l)))).trans (I.base.keep b o e n G t)
  .obtain ⟨sl,e1⟩:=I.base.slot b o e n G t
   exact #[sl,(f.2 b (Ft (Fz (Fe e) (I.ok.cab x c J l)))).trans e1]
  .obtain ⟨o',e1⟩:=I.base.there b o e t
   exact #[o',(f.2 b (Ft (Fz (Fe e) (I.ok.cab x c J l)))).trans e1]
  .by_cases F:j=i
   .subst F
    rw[hi] at e1;cases e1
    rw[List.getElem?_set_self hiσ] at C
    cases C
    exact #[u,r,.inr #[.inl D,c,l,σ]]
   .rw[List.getElem?_set_ne (Ne.symm F)] at C
    obtain ⟨u',r',q⟩:=hl j y v' e1 C W
    refine #[u',r',?_]
    rcases q with q | ⟨k,T,e,z'⟩
    .exact .inl q
    .refine .inr #[k,T,e,z'.sameBut f ?_]
     rintro rfl
     exact F (qz hN e1 (I.ok.inj _ _ _ e l ▸ hi))
  .by_cases L:T=c
   .subst L;exact #[_,σ]
   .obtain ⟨w2,z2⟩:=I.cell y T e
    exact #[w2,z2.sameBut f L]
  .obtain ⟨e,n,ne,τ,d⟩:=I.pin p ρ
   refine #[(f.2 p.1 ?_).trans e,n,ne,τ,d]
   intro q
   rw[q,K] at e
   have q':oc=p.2:=FY e
   exact d S (by rw[<- q'];exact R)
theorem md {i:Nat} (I:Inv X pins O H s) (a:X.N.Nodup) (hi:X.N[i]?=some x) (c:Loc X.env.scope x) (r:RelV v u) (h:∀ s',Inv X pins (O.set i (some v)) H s'->Q () s') (hf:X.fn x=true\/X.env.scope.names.lookup x=some .local:=by first | exact .inl rfl | exact .inr rfl | assumption):wpAny M A (storeName X.env x u) Q E s :=
 nM I a hi c r (λs' b _=>h s' b) hf
theorem Inv.call' (I:Inv X pins O H s) (d:s'.os=s.os) (u:Un (frs X.stack) ch H H' s.heap s'.heap) (hok:HOk X.prog X.w H' s'.heap) (hg:AllBare s'.gens) (a:∀ b∈ch,(b∈X.ex\/X.s₀.heap.objs.size<=b)/\b≠X.env.locals/\(∀ x c,X.env.cells.lookup x=some c->c≠b)/\∀ p∈X.pn++pins,p.1≠b):Inv X pins O H' s':=by
 obtain ⟨h',g',d',t',o'⟩:=s'
 have e:o'=s.os:=d
 subst e
 exact I.call (g':=g') (t':=t') (d':=d') u hok hg a
end
abbrev XK:=Value->Option Addr->Hp->Prop
abbrev St:=List (Option V)
abbrev VK:=V->Hp->Prop
abbrev TE:=St->Hp->VK->Prop
abbrev TT:=St->Hp->(Bool->Hp->Prop)->Prop
abbrev TA:=St->Hp->(List V->Hp->Prop)->Prop
structure Ends where
 nx:St->Hp->Prop
 rt:VK
 bk:St->Hp->Prop:=λ_ _=>False
 ct:St->Hp->Prop:=λ_ _=>False
abbrev TS:=Ends->St->Hp->Prop
def EP (X:Cx) (pins:List (Addr×Obj)) (O:St) (Q:VK) (u:Value) (s':Shared):Prop:=∃ v H',Inv X pins O H' s'/\RelV v u/\Q v H'
def TP (X:Cx) (pins:List (Addr×Obj)) (O:St) (Q:Bool->Hp->Prop) (b:Bool) (s':Shared):Prop:=∃ H',Inv X pins O H' s'/\Q b H'
def AP (X:Cx) (pins:List (Addr×Obj)) (O:St) (Q:List V->Hp->Prop) (us:List Value) (s':Shared):Prop:=∃ vs H',Inv X pins O H' s'/\Vals vs us/\Q vs H'
set_option tactic.hygienic true in
def SP (X:Cx) (pins:List (Addr×Obj)) (D:Ends) (f:Flow) (s':Shared):Prop :=
 match f with
 | .next=>∃ O' H',Inv X pins O' H' s'/\D.nx O' H'
 | .brk=>∃ O' H',Inv X pins O' H' s'/\D.bk O' H'
 | .cont=>∃ O' H',Inv X pins O' H' s'/\D.ct O' H'
 | .ret u=>∃ v O' H',Inv X pins O' H' s'/\RelV v u/\D.rt v H'
def PE (X:Cx) (e:Expr) (t:TE):Prop :=
 ∀ (pins:List (Addr×Obj)) (s:Shared) (O:St) (H:Hp) (Q:VK),Inv X pins O H s->t O H Q->wpAny (model X.prog X.w) X.A (eval e X.env) (EP X pins O Q) X.xe s
def PT (X:Cx) (e:Expr) (t:TT):Prop :=
 ∀ (pins:List (Addr×Obj)) (s:Shared) (O:St) (H:Hp) (Q:Bool->Hp->Prop),Inv X pins O H s->t O H Q->wpAny (model X.prog X.w) X.A (isTrue e X.env (eval e X.env)) (TP X pins O Q) X.xe s
def PW (X:Cx) (e:Expr) (t:TT):Prop :=
 ∀ (whole:Sem Value) (pins:List (Addr×Obj)) (s:Shared) (O:St) (H:Hp) (Q:Bool->Hp->Prop),Inv X pins O H s->t O H Q->wpAny (model X.prog X.w) X.A (isTrue e X.env whole) (TP X pins O Q) X.xe s
theorem PW.pt (h:PW X e t):PT X e t:=h _
def PA (X:Cx) (es:List Expr) (t:TA):Prop :=
 ∀ (pos:Pos) (pins:List (Addr×Obj)) (s:Shared) (O:St) (H:Hp) (Q:List V->Hp->Prop),Inv X pins O H s->t O H Q->wpAny (model X.prog X.w) X.A (spliced (backTo pos (starEach es X.env))) (AP X pins O Q) X.xe s
def PS (X:Cx) (st:Stmt) (t:TS):Prop :=
 ∀ (pins:List (Addr×Obj)) (s:Shared) (O:St) (H:Hp) (D:Ends),Inv X pins O H s->t D O H->wpAny (model X.prog X.w) X.A (exec st X.env) (SP X pins D) X.xe s
def PSs (X:Cx) (st:List Stmt) (t:TS):Prop :=
 ∀ (pins:List (Addr×Obj)) (s:Shared) (O:St) (H:Hp) (D:Ends),Inv X pins O H s->t D O H->wpAny (model X.prog X.w) X.A (execs st X.env) (SP X pins D) X.xe s
theorem thn (h:wpAny M A t Q E s) (b:∀ a s,Q a s->Q' a s):wpAny M A t Q' E s:=wpAny_mono h b λ_ _ x=>x
end L2
namespace L2
open PySem PySem.Spec PyProof.Rows
section
variable {X:Cx}
theorem bin (j:PE X a ta) (k:PE X b tb) {R:V->V->Hp->Prop} (I:Inv X pins O H s) (h:ta O H λx H1=>tb O H1 λy H2=>R x y H2) {Q:α->Shared->Prop} {f:Value->Value->Sem α} (hf:∀ v u s2 x y H2,Inv X pins O H2 s2->RelV x v->RelV y u->R x y H2->wpAny (model X.prog X.w) X.A (f v u) Q X.xe s2) :
  wpAny (model X.prog X.w) X.A (eval a X.env) (λv d=>wpAny (model X.prog X.w) X.A (eval b X.env) (λu l=>wpAny (model X.prog X.w) X.A (f v u) Q X.xe l) X.xe d) X.xe s:=by
 refine thn (j pins s O H _ I h) λv s1 #[x,H1,e,i,c]=>?_
 refine thn (k pins s1 O H1 _ e c) λu s2 #[y,H2,n,g,m]=>?_
 exact hf v u s2 x y H2 n i g m
def pS (i:Nat):TE:=λO H Q=>∃ v,O[i]?=some (some v)/\Q v H
def tC (v:V):TE:=λ_ H Q=>Q v H
theorem mE {i:Nat} (g:X.N[i]?=some x) (j:Vis X.env.scope x) (hd:(x == ("__debug__":Str))=false:=by decide) (d:(x == ("__classdict__":Str))=false:=by decide):PE X (.Name x pos) (pS i):=by
 intro pins s O H Q I h
 obtain ⟨v,e,h⟩:=h
 obtain ⟨m,hn,hl⟩:=I.loc
 obtain ⟨u,r,l⟩:=hl i x v g e j
 have fin:EP X pins O Q u s:=#[v,H,I,r,h]
 rcases l with ⟨b,hm⟩ | ⟨b,c,f,a⟩
 .exact wpAny_Name (wpAny_loadName_local I.ok.kind b hn hm fin) hd
 .rcases b with b | b
  .exact wpAny_Name (wpAny_loadName_cell I.ok.kind b f a fin) hd
  .exact wpAny_Name (wpAny_loadName_free I.ok.kind b f a fin d) hd
theorem DL:PE X (.Constant (.int i) j pos) (tC (.int i)):=λ_ _ _ H _ I h=>wpAny_Constant_int #[.int i,H,I.tok _,#[_,rfl],h]
theorem pe_bl:PE X (.Constant (.bool b) j pos) (tC (.bl b)):=λ_ _ _ H _ I h=>Constant_bool #[.bl b,H,I,rfl,h]
theorem DJ:PE X (.Constant .none j pos) (tC .non):=λ_ _ _ H _ I h=>Constant_none #[.non,H,I,rfl,h]
def Gl (X:Cx) (x:Str):Prop:=X.env.kindOf x=some .globalImplicit
theorem uq (I:Inv X pins O H s) (hg:Gl X x) (hm:X.mg x=some u) (h:Q u s) (hd:(x == ("__debug__":Str))=false:=by decide):wpAny (model X.prog X.w) X.A (eval (.Name x pos) X.env) Q E s :=
 Calls.Name_function_global I.ok.kind hg (Calls.loadGlobal_global (by rw[I.ok.glob];exact I.mod.glob.keeps I.bk) hm h) hd
theorem iY (I:Inv X pins O H s) (hg:Gl X x) (hm:X.mg x=none) (a:bootBuiltins x=some u) (h:Q u s) (hn:x≠"__name__":=by decide) (hd:(x == ("__debug__":Str))=false:=by decide):wpAny (model X.prog X.w) X.A (eval (.Name x pos) X.env) Q E s:=by
 obtain ⟨mb,h1,h2⟩:=I.mod.blt
 exact Calls.Name_function_global I.ok.kind hg (Calls.loadGlobal_builtin (by rw[I.ok.glob];exact I.mod.glob.keeps I.bk) hm (by rw[I.ok.blt];exact h1.keeps I.bk) ((h2 x hn).trans a) h) hd
theorem AQ (hg:Gl X x) (hm:X.mg x=some u) (r:RelV v u) (hd:(x == ("__debug__":Str))=false:=by decide):PE X (.Name x pos) (tC v) :=
 λ_ _ _ H _ I h=>uq I hg hm #[v,H,I,r,h] hd
theorem oV (hg:Gl X x) (hm:X.mg x=none) (a:bootBuiltins x=some u) (r:RelV v u) (hn:x≠"__name__":=by decide) (hd:(x == ("__debug__":Str))=false:=by decide):PE X (.Name x pos) (tC v) :=
 λ_ _ _ H _ I h=>iY I hg hm a #[v,H,I,r,h] hn hd
variable {a b:Expr} {ta tb:TE} {pos:Pos}
def PC (X:Cx) (op:CmpOp) (a b:Expr) (t:TE):Prop :=
 ∀ (pins:List (Addr×Obj)) (s:Shared) (O:St) (H:Hp) (Q:VK),Inv X pins O H s->t O H Q ->
  wpAny (model X.prog X.w) X.A (eval a X.env) (λv c=>wpAny (model X.prog X.w) X.A (eval b X.env) (λu d=>wpAny (model X.prog X.w) X.A (compareOp op v u) (EP X pins O Q) X.xe d) X.xe c) X.xe s
def tB (t:TE):TT:=λO H Q=>t O H λx H1=>∃ c,x=.bl c/\Q c H1
theorem Dx (h:PE X e t) (he:∀ whole,isTrue e X.env whole=(do let v <- whole;standAt e.pos;holding [v] (truthy v)):=by intro _;rfl):PT X e (tB t):=by
 intro pins s O H Q I hw
 refine isTrue_plain (thn (h pins s O H _ I hw) λv s1 #[x,H1,b,c,a]=>?_) (he _)
 obtain ⟨d,rfl,q⟩:=a
 cases c
 exact FQ #[H1,b,q]
variable {tA tB':TT} {iP:List Expr}
def tAnd (t u:TT):TT:=λO H Q=>t O H λc H1=>if c=true then u O H1 Q else Q false H1
def tOr (t u:TT):TT:=λO H Q=>t O H λc H1=>if c=true then Q true H1 else u O H1 Q
def tNot (t:TT):TT:=λO H Q=>t O H λc H1=>Q (!c) H1
theorem Ax (b:PT X a tA):PW X (.BoolOp .And [a] pos) tA:=by
 intro d pins s O H Q I h
 refine isTrue_and (thn (b pins s O H Q I h) λc s1 e=>?_)
 cases c with
 | true=>exact isTrue_and_nil e
 | false=>exact e
theorem Du (b:PT X a tA):PW X (.BoolOp .Or [a] pos) tA:=by
 intro d pins s O H Q I h
 refine isTrue_or (thn (b pins s O H Q I h) λc s1 e=>?_)
 cases c with
 | false=>exact isTrue_or_nil e
 | true=>exact e
theorem Dv (f:PT X a tA) (i:PW X (.BoolOp .And (b::iP) pos) tB'):PW X (.BoolOp .And (a::b::iP) pos) (tAnd tA tB'):=by
 intro g pins s O H Q I h
 refine isTrue_and (thn (f pins s O H _ I h) λc s1 #[H1,e,d]=>?_)
 cases c with
 | true=>exact i g pins s1 O H1 Q e d
 | false=>exact #[H1,e,d]
theorem pw_or (f:PT X a tA) (i:PW X (.BoolOp .Or (b::iP) pos) tB'):PW X (.BoolOp .Or (a::b::iP) pos) (tOr tA tB'):=by
 intro g pins s O H Q I h
 refine isTrue_or (thn (f pins s O H _ I h) λc s1 #[H1,e,d]=>?_)
 cases c with
 | true=>exact #[H1,e,d]
 | false=>exact i g pins s1 O H1 Q e d
theorem Dy (b:PT X a tA):PT X (.UnaryOp .Not a pos) (tNot tA):=by
 intro pins s O H Q I h
 exact isTrue_not (b pins s O H (λc H1=>Q (!c) H1) I h)
def B5 (ta tb:TE):TE:=λO H Q=>ta O H λx H1=>∃ c,x=.bl c/\if c=true then tb O H1 Q else Q (.bl false) H1
def BV (ta:TE):TE:=λO H Q=>ta O H λx H1=>∃ c,x=.bl c/\Q (.bl (!c)) H1
theorem DH (h:PE X a t):PE X (.BoolOp op [a] pos) t:=λpins s O H Q I hw=>BoolOp_one (h pins s O H Q I hw)
theorem DM (g:PE X a ta) (i:PE X (.BoolOp .And (b::iP) pos) tb):PE X (.BoolOp .And (a::b::iP) pos) (B5 ta tb):=by
 intro pins s O H Q I h
 refine BoolOp_and (thn (g pins s O H _ I h) λv s1 #[x,H1,e,f,d]=>?_)
 obtain ⟨c,rfl,d⟩:=d
 cases f
 refine FQ ?_
 cases c with
 | true=>exact i pins s1 O H1 Q e d
 | false=>exact #[.bl false,H1,e,rfl,d]
theorem DI (e:PE X a ta):PE X (.UnaryOp .Not a pos) (BV ta):=by
 intro pins s O H Q I h
 refine UnaryOp_ (thn (e pins s O H _ I h) λv s1 #[x,H1,d,f,b]=>?_)
 obtain ⟨c,rfl,b⟩:=b
 cases f
 exact not_of (FQ #[.bl (!c),H1,d,rfl,b])
def tIf (t:TT) (ta tb:TE):TE:=λO H Q=>t O H λc H1=>if c=true then ta O H1 Q else tb O H1 Q
theorem xQ (i:PT X c tA) (g:PE X a ta) (j:PE X b tb):PE X (.IfExp c a b pos) (tIf tA ta tb):=by
 intro pins s O H Q I h
 refine wpAny_IfExp (thn (i pins s O H _ I h) λd s1 #[H1,f,e]=>?_)
 cases d with
 | true=>exact g pins s1 O H1 Q f e
 | false=>exact j pins s1 O H1 Q f e
end
end L2
namespace L2
open PySem PySem.Spec PyProof.Rows
def SqL (K:FG) (H:Hp) (a:Addr) (xs:List V):Prop :=
 Rd H a (.lst xs) \/
  ∃ (o:Obj) (its:Array Value) (n:Nat),K.lookup a=some o/\o.cls=.type "list"/\o.dict=none/\o.data=.seq its n/\its.size<=sizeLine/\Vals xs its.toList
def SqT (K:FG) (H:Hp) (a:Addr) (xs:List V):Prop :=
 Rd H a (.tup xs) \/
  ∃ (o:Obj) (its:Array Value) (n:Nat),K.lookup a=some o/\o.cls=.type "tuple"/\o.data=.seq its n/\its.size<=sizeLine/\Vals xs its.toList
def absV:Value->Option V
 | .none=>some .non
 | .bool b=>some (.bl b)
 | .int i _=>some (.int i)
 | .str x _=>some (.str x)
 | .bytes b _=>some (.byt b)
 | .float b _=>some (.flt b)
 | .ref a=>some (.ref a)
 | .type n=>some (.ty n)
 | _=>none
theorem RelV.abs (r:RelV x u):absV u=some x:=by
 cases x with
 | non=>cases r;rfl
 | bl _=>cases r;rfl
 | int _=>obtain ⟨t,rfl⟩:=r;rfl
 | str _=>obtain ⟨t,rfl⟩:=r;rfl
 | byt _=>obtain ⟨t,rfl⟩:=r;rfl
 | flt _=>obtain ⟨t,rfl⟩:=r;rfl
 | ref _=>cases r;rfl
 | ty _=>cases r;rfl
theorem RelV.inj (r:RelV x u) (q:RelV y u):x=y:=FY (r.abs.symm.trans q.abs)
theorem Vals.inj:∀ {xs ys:List V} {us:List Value},Vals xs us->Vals ys us->xs=ys
 | _,_,_,.nil,.nil=>rfl
 | _,_,_,.cons r t,.cons r' t'=>by rw[r.inj r',Vals.inj t t']
section
variable {X:Cx} {pins:List (Addr×Obj)} {O:St} {H:Hp} {s:Shared} {a:Addr} {xs ys:List V}
theorem SqL.of {K:FG} (h:H a=some (.lst xs)):SqL K H a xs:=.inl (.inl h)
theorem SqT.of {K:FG} (h:H a=some (.tup xs)):SqT K H a xs:=.inl (.inl h)
theorem Inv.list (I:Inv X pins O H s) (h:SqL X.K H a xs):∃ its:List Value,Vals xs its/\PlainL s.heap a its.toArray/\xs.length<=sizeLine:=by
 rcases h with h | ⟨o,its,n,b,d,hd,c,hz,r⟩
 .obtain ⟨z,its,n,r,e⟩:=h.ok I.hok
  exact #[its,r,#[_,n,e,rfl,rfl,rfl],z]
 .refine #[its.toList,r,#[o,n,I.kIn a o b,d,hd,by simpa using c],?_]
  have e:=r.length
  simp only[Array.length_toList] at e
  lia
theorem Inv.tuple (I:Inv X pins O H s) (h:SqT X.K H a xs):∃ its:List Value,Vals xs its/\IsTup s.heap a its.toArray/\xs.length<=sizeLine:=by
 rcases h with h | ⟨o,its,n,b,d,c,hz,r⟩
 .obtain ⟨z,its,r,p⟩:=h.ok I.hok
  exact #[its,r,p.tup,z]
 .refine #[its.toList,r,#[o,I.kIn a o b,d,n,by simpa using c],?_]
  have e:=r.length
  simp only[Array.length_toList] at e
  lia
theorem Inv.list_inj (I:Inv X pins O H s) (h:SqL X.K H a xs) (h':SqL X.K H a ys):xs=ys:=by
 obtain ⟨its,r,⟨o,n,e,_,_,d⟩,_⟩:=I.list h
 obtain ⟨its',c,⟨o',f,b,_,_,d'⟩,_⟩:=I.list h'
 rw[e] at b;cases b
 rw[d] at d'
 injection d' with d1 _
 have:its=its':=by simpa using congrArg Array.toList d1
 subst this
 exact r.inj c
theorem Inv.tuple_inj (I:Inv X pins O H s) (h:SqT X.K H a xs) (h':SqT X.K H a ys):xs=ys:=by
 obtain ⟨its,r,⟨o,e,_,n,d⟩,_⟩:=I.tuple h
 obtain ⟨its',c,⟨o',b,_,f,d'⟩,_⟩:=I.tuple h'
 rw[e] at b;cases b
 rw[d] at d'
 injection d' with d1 _
 have:its=its':=by simpa using congrArg Array.toList d1
 subst this
 exact r.inj c
end
abbrev Cx.wish (X:Cx) (E:Value->Shared->Prop):Cx:={ X with xe:=E }
abbrev Cx.nox (X:Cx):Cx:=X.wish λ_ _=>False
theorem Cx.Ok.wish {X:Cx} (ok:X.Ok) (E:Value->Shared->Prop):(X.wish E).Ok :=
 #[ok.mod,ok.kind,ok.glob,ok.blt,ok.above,ok.inj,ok.has,ok.cab,ok.hd,ok.frames,ok.stk,ok.exf,ok.bs,ok.bsz,ok.noex,ok.exfs,ok.funs,ok.frf]
theorem Cx.Ok.unwish {X:Cx} (ok:(X.wish E).Ok):X.Ok :=
 #[ok.mod,ok.kind,ok.glob,ok.blt,ok.above,ok.inj,ok.has,ok.cab,ok.hd,ok.frames,ok.stk,ok.exf,ok.bs,ok.bsz,ok.noex,ok.exfs,ok.funs,ok.frf]
section
variable {X:Cx} {pins:List (Addr×Obj)} {O:St} {H:Hp} {s:Shared} {E:Value->Shared->Prop}
theorem Inv.wish (I:Inv X pins O H s) (E:Value->Shared->Prop):Inv (X.wish E) pins O H s:=#[I.ok.wish E,I.os,I.bare,I.base,I.loc,I.cell,I.free,I.freeC,I.pin,I.hok,I.len]
theorem Inv.unwish (I:Inv (X.wish E) pins O H s):Inv X pins O H s:=#[I.ok.unwish,I.os,I.bare,I.base,I.loc,I.cell,I.free,I.freeC,I.pin,I.hok,I.len]
set_option tactic.hygienic true in
theorem SP.unwish (h:SP (X.wish E) pins D f s'):SP X pins D f s':=by
 cases f with
 | next=>obtain ⟨O',H',I,q⟩:=h;exact #[O',H',I.unwish,q]
 | brk=>obtain ⟨O',H',I,q⟩:=h;exact #[O',H',I.unwish,q]
 | cont=>obtain ⟨O',H',I,q⟩:=h;exact #[O',H',I.unwish,q]
 | ret u=>obtain ⟨v,O',H',I,r,q⟩:=h;exact #[v,O',H',I.unwish,r,q]
theorem PSs.nox {st:List Stmt} (h:PSs X.nox st t):PSs X st t:=λpins s O H D I hw =>
 wpAny_mono (h pins s O H D (I.wish _) hw) (λ_ _ q=>q.unwish) λ_ _ z=>False.elim z
end
section
variable {X:Cx} {st:Stmt} {iP:List Stmt} {t u:TS} {e:Expr} {te:TE} {pos:Pos}
def BW:TS:=λD O H=>D.nx O H
def tSeq (t u:TS):TS:=λD O H=>t { D with nx:=u D } O H
theorem AD:PSs X [] BW:=λ_ _ O H _ I h=>wpAny_execs_nil #[O,H,I,h]
set_option tactic.hygienic true in
theorem xF (h1:PS X st t) (h2:PSs X iP u):PSs X (st::iP) (tSeq t u):=by
 intro pins s O H D I h
 refine wpAny_execs_cons (thn (h1 pins s O H { D with nx:=u D } I h) λf s1 q=>?_)
 cases f with
 | next =>
  obtain ⟨O',H',a,q⟩:=q
  exact h2 pins s1 O' H' D a q
 | ret v=>exact q
 | brk=>exact q
 | cont=>exact q
set_option tactic.hygienic true in
theorem AC (h1:PS X st t):PSs X [st] t:=by
 intro pins s O H D I h
 refine wpAny_execs_cons (thn (h1 pins s O H D I h) λf s1 q=>?_)
 cases f with
 | next=>exact wpAny_execs_nil q
 | ret v=>exact q
 | brk=>exact q
 | cont=>exact q
theorem Inv.quiet (I:Inv X pins O H s):interactive X.env=false:=by simp[interactive,I.ok.kind]
def BZ (te:TE):TS:=λD O H=>te O H λ_ H1=>D.nx O H1
theorem AE (he:PE X e te) (c:swapsWith e none pos.line X.env=pure false:=by rfl):PS X (.Expr e pos) (BZ te):=by
 intro pins s O H D I h
 exact wpAny_Expr_any (thn (he pins s O H _ I h) λv s1 #[x,H1,b,d,a]=>#[O,H1,b,a]) I.quiet c
def tRet (te:TE):TS:=λD O H=>te O H D.rt
theorem DA (he:PE X e te):PS X (.Return (some e) pos) (tRet te):=by
 intro pins s O H D I h
 exact wpAny_Return_some (thn (he pins s O H _ I h) λv s1 #[x,H1,b,c,a]=>#[x,O,H1,b,c,a])
def tIfS (c:TT) (t u:TS):TS:=λD O H=>c O H λb H1=>if b=true then t D O H1 else u D O H1
theorem ps_if (i:PT X c tc) (g:PSs X a t) (j:PSs X b u):PS X (.If c a b pos) (tIfS tc t u):=by
 intro pins s O H D I h
 refine wpAny_If (thn (i pins s O H _ I h) λd s1 #[H1,f,e]=>?_)
 cases d with
 | true=>exact g pins s1 O H1 D f e
 | false=>exact j pins s1 O H1 D f e
def CM:TS:=λ_ _ _=>False
theorem xH:PS X st CM:=λ_ _ _ _ _ _ h=>h.elim
end
abbrev TG:=V->St->Hp->(St->Hp->Prop)->Prop
abbrev TGs:=List V->St->Hp->(St->Hp->Prop)->Prop
def PG (X:Cx) (target:Expr) (t:TG):Prop :=
 ∀ (pins:List (Addr×Obj)) (s:Shared) (O:St) (H:Hp) (v:V) (u:Value) (Q:St->Hp->Prop),Inv X pins O H s->RelV v u->t v O H Q ->
  wpAny (model X.prog X.w) X.A (assign target X.env u) (λ_ s'=>∃ O' H',Inv X pins O' H' s'/\Q O' H') X.xe s
def PGs (X:Cx) (a:List Expr) (t:TGs):Prop :=
 ∀ (pins:List (Addr×Obj)) (s:Shared) (O:St) (H:Hp) (vs:List V) (us:List Value) (Q:St->Hp->Prop),Inv X pins O H s->Vals vs us->t vs O H Q ->
  wpAny (model X.prog X.w) X.A (assignInOrder ((assignEach a X.env).map (·.2)) us) (λ_ s'=>∃ O' H',Inv X pins O' H' s'/\Q O' H') X.xe s
abbrev BQ:=V->V->V->Hp->(Hp->Prop)->Prop
def wA (X:Cx) (t:BQ):Prop :=
 ∀ (pins:List (Addr×Obj)) (s:Shared) (O:St) (H:Hp) (o i v:V) (a b u:Value) (Q:Hp->Prop),Inv X pins O H s->RelV o a->RelV i b->RelV v u->t o i v H Q ->
  wpAny (model X.prog X.w) X.A (setItem a b u) (λ_ s'=>∃ H',Inv X pins O H' s'/\Q H') X.xe s
abbrev TIp:=V->V->Hp->VK->Prop
def PIp (X:Cx) (op:Operator) (t:TIp):Prop :=
 ∀ (pins:List (Addr×Obj)) (s:Shared) (O:St) (H:Hp) (x y:V) (v u:Value) (Q:VK),Inv X pins O H s->RelV x v->RelV y u->t x y H Q ->
  wpAny (model X.prog X.w) X.A (inplaceOp op v u) (EP X pins O Q) X.xe s
section
variable {X:Cx} {pos:Pos}
def uA (i:Nat):TG:=λv O H Q=>Q (O.set i (some v)) H
theorem jn {i:Nat} (c:X.N.Nodup) (hi:X.N[i]?=some x) (b:Loc X.env.scope x) (hf:X.fn x=true\/X.env.scope.names.lookup x=some .local:=by first | exact .inl rfl | exact .inr rfl | assumption):PG X (.Name x pos) (uA i):=by
 intro pins s O H v u Q I r h
 exact wpAny_assign_Name (md I c hi b r (λs' a=>#[_,H,a,h]) hf)
def gNil:TGs:=λvs O H Q=>vs=[]/\Q O H
def Cl (t:TG) (u:TGs):TGs:=λvs O H Q=>∃ v r,vs=v::r/\t v O H λO' H'=>u r O' H' Q
theorem ue:PGs X [] gNil:=by
 intro pins s O H vs us Q I r h
 obtain ⟨e,h⟩:=h
 subst e
 cases r
 exact assignInOrder_nil #[O,H,I,h]
theorem mD (h1:PG X e t) (h2:PGs X es u) (c:(assignEach (e::es) X.env).map (·.2)=assign e X.env::(assignEach es X.env).map (·.2):=by rfl):PGs X (e::es) (Cl t u):=by
 intro pins s O H vs us Q I r h
 obtain ⟨v,d,e1,h⟩:=h
 subst e1
 cases r with
 | cons r rr =>
  rw[c]
  refine assignInOrder_cons (thn (h1 pins s O H _ _ _ I r h) λ_ s1 #[O1,H1,b,a]=>?_)
  exact h2 pins s1 O1 H1 _ _ Q b rr a
def gTup (K:FG) (n:Nat) (t:TGs):TG:=λv O H Q=>∃ a xs,v=.ref a/\SqT K H a xs/\xs.length=n/\t xs O H Q
theorem xN {k:Nat} {n:Nat} (l:X.calm=true) (h:PGs X es t) (hn:(assignEach es X.env).length=n:=by rfl) (c:(assignEach es X.env).findIdx? (·.1)=none:=by rfl):PG X (.Tuple es k pos) (gTup X.K n t):=by
 intro pins s O H v u Q I r hw
 obtain ⟨a,xs,e1,j,hl,hw⟩:=hw
 subst e1
 cases r
 obtain ⟨its,d,f,hz⟩:=I.tuple j
 refine assign_Tuple_tuple (I.ok.hd l) f (by simp[hn,<- hl,d.length]) c λh' i=>?_
 have g:Inv X pins O H { s with heap:=h' }:=I.kept (t':=s.toks) λb o e=>i b o (Ft (Fe e)) e
 exact h pins _ O H xs _ Q g (by simpa using d) hw
def gSub (to b:TE) (t:BQ):TG:=λv O H Q=>to O H λo H1=>b O H1 λi H2=>t o i v H2 λa=>Q O a
theorem DF (k:PE X o to) (hi:PE X i ti) (n:wA X t) (m:∀ v,assign (.Subscript o i pos) X.env v=(do
   let a <- holding [v] (eval o X.env)
   let b <- holding [v,a] (eval i X.env)
   standAt pos
   holding [v,a,b] (setItem a b v)
   release [v,a,b] []):=by intro _;rfl):PG X (.Subscript o i pos) (gSub to ti t):=by
 intro pins s O H v u Q I r h
 rw[m]
 refine E2 (E4 (thn (k pins s O H _ I h) λa s1 #[x,H1,d,f,c]=>?_))
 refine E2 (E4 (thn (hi pins s1 O H1 _ d c) λb s2 #[y,H2,q,e,p]=>?_))
 refine E2 (wpAny_standAt (E2 (E4 (thn (n pins s2 O H2 x y v a b u _ q f e r p) λ_ s3 #[l,j,g]=>?_))))
 exact wpAny_release #[O,l,j,g]
def wU (te:TE) (g:TG):TS:=λD O H=>te O H λx H1=>g x O H1 D.nx
theorem xI (he:PE X e te) (hg:PG X tg g) (d:swapsWithSole [tg] e pos.line X.env=pure false:=by rfl) (hw:swappedStores [tg] e X.env=pure none:=by rfl) (h1:(assignEach [tg] X.env).map (·.2)=[assign tg X.env]:=by rfl):PS X (.Assign [tg] e pos) (wU te g):=by
 intro pins s O H D I h
 refine wpAny_Assign_stores (thn (he pins s O H _ I h) λv s1 #[x,H1,b,c,a]=>?_) d hw
 rw[h1]
 exact thn (hg pins s1 O H1 x v _ b c a) λ_ s2 q=>q
theorem Dz {i:Nat} (f:X.N.Nodup) (hi:X.N[i]?=some x) (d:Loc X.env.scope x) (he:PE X e te) (g:swapsWith e (some (.Name x pos')) pos.line X.env=pure false:=by rfl) (hf:X.fn x=true\/X.env.scope.names.lookup x=some .local:=by first | exact .inl rfl | exact .inr rfl | assumption) :
  PS X (.Assign [.Name x pos'] e pos) (wU te (uA i)):=by
 intro pins s O H D I h
 refine wpAny_Assign_Name (thn (he pins s O H _ I h) λv s1 #[y,H1,b,c,a]=>?_) g
 exact md b f hi d c (λs2 j=>#[_,H1,j,a]) hf
def tAug (i:Nat) (te:TE) (a:TIp):TS:=λD O H=>∃ x,O[i]?=some (some x)/\te O H λy H1=>a x y H1 λz H2=>D.nx (O.set i (some z)) H2
set_option tactic.hygienic true in
theorem DC {i:Nat} (E:X.N.Nodup) (hi:X.N[i]?=some x) (f:Loc X.env.scope x) (he:PE X e te) (o:PIp X op ti) (hf:X.fn x=true\/X.env.scope.names.lookup x=some .local:=by first | exact .inl rfl | exact .inr rfl | assumption) :
  PS X (.AugAssign (.Name x pos') op e pos) (tAug i te ti):=by
 intro pins s O H D I h
 obtain ⟨v,e1,h⟩:=h
 obtain ⟨m,hn,hl⟩:=I.loc
 have d:Vis X.env.scope x:=by rcases f with k | k;exact .inl k;exact .inr (.inl k)
 obtain ⟨u,r,l⟩:=hl i x v hi e1 d
 refine wpAny_AugAssign_Name ?_
 have go:wpAny (model X.prog X.w) X.A (eval e X.env) (λw q=>wpAny (model X.prog X.w) X.A (inplaceOp op u w) (λr F=>wpAny (model X.prog X.w) X.A (storeName X.env x r) (λ_=>SP X pins D .next) X.xe F) X.xe q) X.xe s:=by
  refine thn (he pins s O H _ I h) λw s1 #[y,H1,j,C,g]=>?_
  refine thn (o pins s1 O H1 v y u w _ j r C g) λz s2 #[J,H2,G,B,t]=>?_
  exact md G E hi f B (λs3 n=>#[_,H2,n,t]) hf
 rcases l with ⟨a,hm⟩ | ⟨a,c,p,b⟩
 .exact wpAny_loadName_local I.ok.kind a hn hm go
 .rcases a with a | a
  .exact wpAny_loadName_cell I.ok.kind a p b go
  .rcases f with k | k
   .have:X.env.scope.names.lookup x=some .free:=a
    rw[k] at this;cases this
   .have:X.env.scope.names.lookup x=some .free:=a
    rw[k] at this;cases this
def B4 (to f te:TE) (a:V->V->Hp->VK->Prop) (c:TIp) (b:BQ):TS:=λD O H=>to O H λo H1=>f O H1 λi H2=>a o i H2 λx g=>te O g λy d=>c x y d λz h=>b o i z h λe=>D.nx O e
def PGet (X:Cx) (t:V->V->Hp->VK->Prop):Prop :=
 ∀ (pins:List (Addr×Obj)) (s:Shared) (O:St) (H:Hp) (o i:V) (a b:Value) (Q:VK),Inv X pins O H s->RelV o a->RelV i b->t o i H Q ->
  wpAny (model X.prog X.w) X.A (getItem a b) (EP X pins O Q) X.xe s
set_option tactic.hygienic true in
theorem AF (t:PE X o to) (hi:PE X i ti) (hg:PGet X tget) (he:PE X e te) (w:PIp X op tip) (L:wA X tset) (y:∀ b a new,augStore i b a new=(do holding [new,b,a] (setItem b a new);release [new,b,a] [];pure .next):=by intros;rfl):PS X (.AugAssign (.Subscript o i tpos) op e pos) (B4 to ti te tget tip tset):=by
 intro pins s O H D I h
 refine wpAny_AugAssign_SubscriptAny (thn (t pins s O H _ I h) λb s1 #[g,H1,m,f,k]=>?_) y
 refine thn (hi pins s1 O H1 _ m k) λa s2 #[d,H2,σ,c,A]=>?_
 refine thn (hg pins s2 O H2 g d b a _ σ f c A) λold s3 #[G,u,r,l,p]=>?_
 refine thn (he pins s3 O u _ r p) λv s4 #[j,E,M,B,F]=>?_
 refine thn (w pins s4 O E G j old v _ M l B F) λnew s5 #[J,C,x,q,K]=>?_
 exact thn (L pins s5 O C g d J b a new _ x f c q K) λ_ P #[n,N,z]=>#[O,n,N,z]
def ipI (f:Int->Int->Int):TIp:=λx y H Q=>∃ i j,x=.int i/\y=.int j/\Q (.int (f i j)) H
theorem yE:PIp X .Add (ipI λi j=>i+j):=by
 intro pins s O H x y v u Q I b a h
 obtain ⟨i,j,e1,c,q⟩:=h
 subst e1;subst c
 obtain ⟨t,rfl⟩:=b
 obtain ⟨t',rfl⟩:=a
 exact iadd_int #[.int _,H,I.tok _,#[_,rfl],q]
end
section
variable {X:Cx} {pos:Pos}
def wO (c:TT) (tb:TS):TS:=λD O H=>∃ W:Nat->St->Hp->Prop,(∃ m,W m O H)/\∀ m O H,W m O H ->
 c O H λb H1=>if b=true then ∃ N:St->Hp->Prop,(∀ O' H',N O' H'->∃ a,a < m/\W a O' H')/\tb { D with nx:=N,ct:=N,bk:=D.nx } O H1 else D.nx O H1
set_option tactic.hygienic true in
theorem xG (l:PassesOwn (model X.prog X.w) X.A X.env X.xe) (r:PT X c tc) (t:PSs X body tb):PS X (.While c body [] pos) (wO tc tb):=by
 intro pins s O H D I h
 obtain ⟨W,⟨m0,u⟩,turn⟩:=h
 refine wpAny_While (codeAny_whileLoop (λn s'=>∃ O' H',Inv X pins O' H' s'/\W n O' H') ?_ m0 #[O,H,I,u])
 rintro n s1 ⟨O1,H1,p,q⟩
 refine wpAny_passesOwn l (thn (r pins s1 O1 H1 _ p (turn n O1 H1 q)) λb s2 #[H2,o,e]=>?_)
 cases b with
 | true =>
  obtain ⟨N,m,e⟩:=e
  rw[if_pos rfl]
  refine wpAny_passesOwn l (thn (t pins s2 O1 H2 _ o e) λf s3 d=>?_)
  cases f with
  | next =>
   obtain ⟨O3,a,j,k⟩:=d
   obtain ⟨i,hm,g⟩:=m O3 a k
   exact #[i,hm,O3,a,j,g]
  | cont =>
   obtain ⟨O3,a,j,k⟩:=d
   obtain ⟨i,hm,g⟩:=m O3 a k
   exact #[i,hm,O3,a,j,g]
  | brk=>exact d
  | ret v=>exact d
 | false =>
  rw[if_neg Fs]
  exact wpAny_execs_nil #[O1,H2,o,e]
end
structure It where
 go:Nat->Hp->Prop
 yld:Nat->Hp->V->Hp->Prop
 stop:Nat->Hp->Prop
def FpOk (X:Cx) (pins:List (Addr×Obj)) (H:Hp) (b:Addr):Prop :=
 H b=none/\b≠X.env.locals/\b ∉ X.fs/\(b∈X.ex\/X.s₀.heap.objs.size<=b)/\(∀ x c,X.env.cells.lookup x=some c->c≠b)/\∀ p∈X.pn++pins,p.1≠b
theorem Inv.fpOk (I:Inv X pins O H s) (a:s.heap.objs.size<=b) (hn:H' b=none):FpOk X pins H' b:=by
 refine #[hn,Nat.ne_of_gt (Fz I.lt a),I.nofs a,.inr (FR I.sz a),λx c e z=>?_,λp d z=>?_]
 .obtain ⟨v,q⟩:=I.cell x c e
  exact absurd (Fz q.lt (by rw[z];exact a)) (Nat.lt_irrefl _)
 .exact absurd (Fz (Fe (I.pin p d).1) (by rw[z];exact a)) (Nat.lt_irrefl _)
structure Turn (P:Program) (w:World) (K:FG) (tg:Expr) (J:It) (fp:List Addr) (it:Addr) (tn:Nat->Heap->Prop):Prop where
 mem:it∈fp
 obj:∀ i h,tn i h->∀ b∈fp,∃ o,h.get? b=some o/\∀ v,o.data≠.cell v
 keep:∀ i h h',tn i h->(∀ b∈fp,∀ o,h.get? b=some o->h'.get? b=some o)->tn i h'
 item:∀ (X:Cx),X.prog=P->X.w=w->X.K=K->X.calm=true->∀ (i:Nat) (pins:List (Addr×Obj)) (s:Shared) (O:St) (H:Hp) (E:Value->Shared->Prop),Inv X pins O H s->(∀ b∈fp,FpOk X pins H b)->tn i s.heap->J.go i H ->
  wpAny (model P w) X.A (pyNext (.ref it)) (λr s1=>∃ u,r=some u /\
   wpAny (model P w) X.A (letOwnedTupleGo tg (.ref it) u) (λ_ s2=>∃ x H',Inv X pins O H' s2/\RelV x u/\J.yld i H x H'/\tn (i+1) s2.heap/\∀ b∈fp,H' b=none) E s1) E s
 done:∀ (X:Cx),X.prog=P->X.w=w->X.K=K->X.calm=true->∀ (i:Nat) (pins:List (Addr×Obj)) (s:Shared) (O:St) (H:Hp) (E:Value->Shared->Prop),Inv X pins O H s->(∀ b∈fp,FpOk X pins H b)->tn i s.heap->J.stop i H ->
  wpAny (model P w) X.A (pyNext (.ref it)) (λr s1=>r=none/\Inv X pins O H s1) E s
 self:∀ (A:Around) (i:Nat) (s:Shared) (Q:Value->Shared->Prop) (E:Value->Shared->Prop),tn i s.heap->Q (.ref it) s->wpAny (model P w) A (pyIter (.ref it)) Q E s
abbrev TI:=St->Hp->(It->Hp->Prop)->Prop
def PIE (X:Cx) (pins:List (Addr×Obj)) (O:St) (tg:Expr) (R:It->Hp->Prop) (a:Value) (s2:Shared):Prop :=
 ∃ (it:Addr) (fp:List Addr) (c:Nat->Heap->Prop) (J:It) (H':Hp),a=.ref it/\Inv X pins O H' s2/\Turn X.prog X.w X.K tg J fp it c/\c 0 s2.heap/\(∀ b∈fp,FpOk X pins H' b)/\R J H'
def PI (X:Cx) (tg iter:Expr) (a:TI):Prop :=
 ∀ (pins:List (Addr×Obj)) (s:Shared) (O:St) (H:Hp) (R:It->Hp->Prop),Inv X pins O H s->a O H R ->
  wpAny (model X.prog X.w) X.A (eval iter X.env) (λv s1=>wpAny (model X.prog X.w) X.A (pyIter v) (PIE X pins O tg R) X.xe s1) X.xe s
theorem yM (c:s.heap.get? it=some o) (b:o.cls=.type n) (hd:o.data=.fields vs) (hn:["enumerate","zip","dict_itemiterator","dict_reverseitemiterator","odict_iterator","itertools.zip_longest","itertools.pairwise"].contains n=false) (a:Q () s):wpAny M A (letOwnedTupleGo tg (.ref it) u) Q E s:=by
  unfold letOwnedTupleGo
  cases tg <;> first
    | exact E3 a
    | (cases u <;> first
        | exact E3 a
        | (refine E2 (wpAny_load c ?_)
           rw[b,hd]
           show wpAny M A (if (["enumerate","zip","dict_itemiterator","dict_reverseitemiterator","odict_iterator","itertools.zip_longest","itertools.pairwise"].contains n && vs[0]? == some (rawInt _))=true then _ else _) Q E s
           rw[if_neg (by intro h; rw[hn,Bool.false_and] at h; cases h)]
           exact E3 a))
def Itl (K:FG) (a:Addr):It :=
 #[λi H=>∃ xs x,SqL K H a xs/\xs[i]?=some x,λi H x H'=>H'=H/\∀ xs,SqL K H a xs->xs[i]?=some x,λi H=>∃ xs,SqL K H a xs/\xs.length<=i]
def Itt (K:FG) (a:Addr):It :=
 #[λi H=>∃ xs x,SqT K H a xs/\xs[i]?=some x,λi H x H'=>H'=H/\∀ xs,SqT K H a xs->xs[i]?=some x,λi H=>∃ xs,SqT K H a xs/\xs.length<=i]
def Itr (lo:Int) (n:Nat):It:=#[λi _=>i < n,λi H x H'=>H'=H/\x=.int (lo+i),λi _=>n<=i]
theorem u6 {P:Program} {w:World} {K:FG} {tg:Expr} (a it:Addr):Turn P w K tg (Itl K a) [it] it (λi h=>h.IsListIter it a i) where
 mem:=by simp
 obj:=λi h st b f=>by
  have e:b=it:=by simpa using f
  subst e
  obtain ⟨o,e,c,d⟩:=st
  exact #[o,e,λv z=>by rw[d] at z;cases z]
 keep:=λi h h' st k=>st.at λo e=>k it (by simp) o e
 item:=by
  intro X l hw t y i pins s O H E I hf st hg
  subst l hw t
  obtain ⟨xs,x,j,m⟩:=hg
  obtain ⟨its,n,p,hz⟩:=I.list j
  obtain ⟨u,hu,C⟩:=n.get m
  obtain ⟨f0,f1,f2,r,f4,q⟩:=hf it (by simp)
  refine wpAny_pyNext_list_item st p.isList (x:=u) (by simpa using hu) λh' g sb=>?_
  have A:Inv X pins O H { s with heap:=h' }:=I.turned (t':=s.toks) (λb o f e=>(sb.2 b f).trans e) f0 f1 r f4 q
  obtain ⟨o,e,c,d⟩:=id g
  exact #[u,rfl,yM (s:={ s with heap:=h' }) e c d (by decide) #[x,H,A,C,#[rfl,λys D=>by rw[I.list_inj D j];exact m],g,λb f=>(hf b f).1]]
 done:=by
  intro X l hw t y i pins s O H E I hf st hg
  subst l hw t
  obtain ⟨xs,j,m⟩:=hg
  obtain ⟨its,n,p,hz⟩:=I.list j
  obtain ⟨f0,f1,f2,r,f4,q⟩:=hf it (by simp)
  have hl:=n.length
  exact wpAny_pyNext_list_end (I.ok.hd y) st p.isList (by simp;omega) λh' B=>#[rfl,I.turned (t':=s.toks) (λb o f e=>B b o f e) f0 f1 r f4 q]
 self:=λ_ _ _ _ _ st h=>wpAny_pyIter_listiter st h
theorem rP {P:Program} {w:World} {K:FG} {tg:Expr} (a it:Addr):Turn P w K tg (Itt K a) [it] it (λi h=>h.IsTupleIter it a i) where
 mem:=by simp
 obj:=λi h st b f=>by
  have e:b=it:=by simpa using f
  subst e
  obtain ⟨o,e,c,d⟩:=st
  exact #[o,e,λv z=>by rw[d] at z;cases z]
 keep:=λi h h' st k=>st.at λo e=>k it (by simp) o e
 item:=by
  intro X l hw t y i pins s O H E I hf st hg
  subst l hw t
  obtain ⟨xs,x,j,m⟩:=hg
  obtain ⟨its,n,p,hz⟩:=I.tuple j
  obtain ⟨u,hu,C⟩:=n.get m
  obtain ⟨f0,f1,f2,r,f4,q⟩:=hf it (by simp)
  refine wpAny_pyNext_tuple_item st (show s.heap.IsTuple a its.toArray from p) (x:=u) (by simpa using hu) λh' g sb=>?_
  have A:Inv X pins O H { s with heap:=h' }:=I.turned (t':=s.toks) (λb o f e=>(sb.2 b f).trans e) f0 f1 r f4 q
  obtain ⟨o,e,c,d⟩:=id g
  exact #[u,rfl,yM (s:={ s with heap:=h' }) e c d (by decide) #[x,H,A,C,#[rfl,λys D=>by rw[I.tuple_inj D j];exact m],g,λb f=>(hf b f).1]]
 done:=by
  intro X l hw t y i pins s O H E I hf st hg
  subst l hw t
  obtain ⟨xs,j,m⟩:=hg
  obtain ⟨its,n,p,hz⟩:=I.tuple j
  obtain ⟨f0,f1,f2,r,f4,q⟩:=hf it (by simp)
  have hl:=n.length
  exact wpAny_pyNext_tuple_end (I.ok.hd y) st (show s.heap.IsTuple a its.toArray from p) (by simp;omega) λh' B=>#[rfl,I.turned (t':=s.toks) (λb o f e=>B b o f e) f0 f1 r f4 q]
 self:=λ_ _ _ _ _ st h=>wpAny_pyIter_tupleiter st h
theorem rQ {P:Program} {w:World} {K:FG} {tg:Expr} (it:Addr) (lo:Int) (n:Nat):Turn P w K tg (Itr lo n) [it] it (λi h=>IsRangeIter h it (lo+(i:Nat) * 1) ((n:Int) - (i:Nat)) 1) where
 mem:=by simp
 obj:=λi h st b a=>by
  have e:b=it:=by simpa using a
  subst e
  exact ⟨_,st,λv z=>by
   have m:Data.fields _=Data.cell v:=z
   cases m⟩
 keep:=λi h h' st k=>k it (by simp) _ st
 item:=by
  intro X d hw l f i pins s O H E I hf st hg
  subst d hw l
  obtain ⟨f0,f1,f2,j,f4,g⟩:=hf it (by simp)
  have W:=Walks.range (prog:=X.prog) (w:=X.w) (I.ok.hd f) it lo 1 n
  refine W.item i s _ _ hg st λv h' tk q c u=>?_
  obtain ⟨t,rfl⟩:=q
  have p:Inv X pins O H { s with heap:=h',toks:=tk }:=I.turned (λb o a e=>u b o (by simpa using a) e) f0 f1 j f4 g
  refine #[_,rfl,yM (s:={ s with heap:=h',toks:=tk }) (n:="range_iterator") c rfl rfl (by decide) #[.int (lo+i),H,p,#[t,?_],#[rfl,rfl],c,λb a=>(hf b a).1]]
  rw[Int.mul_one]
 done:=by
  intro X d hw l f i pins s O H E I hf st hg
  subst d hw l
  obtain ⟨f0,f1,f2,j,f4,g⟩:=hf it (by simp)
  exact wpAny_pyNext_range_end (I.ok.hd f) st (by have:n<=i:=hg;lia) λh' r=>#[rfl,I.turned (t':=s.toks) (λb o a e=>r b o a e) f0 f1 j f4 g]
 self:=λ_ _ _ _ _ st h=>wpAny_pyIter_rangeiter st h
end L2
namespace L2
open PySem PySem.Spec PyProof.Rows
section
variable {X:Cx} {tg:Expr}
theorem qi {lo hi:Int} {tk:Nat} (I:Inv X pins O H s) (h1:-(2 ^ 62)<=lo) (h2:lo < 2 ^ 62) (h3:-(2 ^ 62)<=hi) (c:hi < 2 ^ 62) (q:R (Itr lo (hi - lo).toNat) H):wpAny (model X.prog X.w) X.A (pyIter (.ref s.heap.objs.size)) (PIE X pins O tg R) E { s with heap:=s.heap.push { cls:=.type "range",data:=.fields (List.toArray [.int lo t,.int hi u,.int 1 v]) },toks:=tk }:=by
 refine wpAny_pyIter_range (IsRange.new ..) (small_one h1 h2 h3 c) ?_
 have a:Inv X pins O H { s with heap:=s.heap.push { cls:=.type "range",data:=.fields (List.toArray [.int lo t,.int hi u,.int 1 v]) },toks:=tk }:=I.kept λb o e=>E7 _ e
 refine ⟨(s.heap.push { cls:=.type "range",data:=.fields (List.toArray [.int lo t,.int hi u,.int 1 v]) }).objs.size,[(s.heap.push { cls:=.type "range",data:=.fields (List.toArray [.int lo t,.int hi u,.int 1 v]) }).objs.size],_,_,H,rfl,
  a.kept (t':=tk) λb o e=>E7 _ e,rQ _ lo (hi - lo).toNat,?_,λb f=>?_,q⟩
 .have e1:lo+((0:Nat):Int) * 1=lo:=by simp
  have d:(((hi - lo).toNat:Nat):Int) - ((0:Nat):Int)=Builtin.Range.rangeSize lo hi 1:=by rw[rangeSize_one];split <;> omega
  show IsRangeIter _ _ (lo+((0:Nat):Int) * 1) ((((hi - lo).toNat:Nat):Int) - ((0:Nat):Int)) 1
  rw[e1,d]
  exact Fg _ rfl
 .have e:b=(s.heap.push { cls:=.type "range",data:=.fields (List.toArray [.int lo t,.int hi u,.int 1 v]) }).objs.size:=by simpa using f
  subst e
  exact a.fpOk (Fq _) (a.hok.fresh (Fq _))
def Cj (ta:TA):TI:=λO H R=>ta O H λvs H1=>∃ j:Int,vs=[.int j]/\-(2 ^ 62)<=j/\j < 2 ^ 62/\R (Itr 0 j.toNat) H1
def Ci (ta:TA):TI:=λO H R=>ta O H λvs H1=>∃ i j:Int,vs=[.int i,.int j]/\(-(2 ^ 62)<=i/\i < 2 ^ 62/\-(2 ^ 62)<=j/\j < 2 ^ 62)/\R (Itr i (j - i).toNat) H1
theorem vq (hg:Gl X "range") (hm:X.mg "range"=none) (f:PA X [a] ta) (g:starEach [a] X.env=[(false,eval a X.env)]:=by rfl):PI X tg (.Call (.Name "range" p) [a] [] pos) (Cj ta):=by
 intro pins s O H R I h
 refine Call_ (iY I hg hm boot_range (PyProof.Rows.callWith_type1 (thn (f pos pins s O H _ I h) λus s1 #[vs,H1,c,d,b]=>?_) g rfl))
 obtain ⟨j,e,b,i,q⟩:=b
 subst e
 cases d with
 | cons r rr =>
  cases rr
  obtain ⟨t,rfl⟩:=r
  exact call_range_1 (qi c (by omega) (by omega) b i (by simpa using q))
theorem vp (hg:Gl X "range") (hm:X.mg "range"=none) (m:PA X [a,b] ta) (n:starEach [a,b] X.env=[(false,eval a X.env),(false,eval b X.env)]:=by rfl) (c:starEach [b] X.env=[(false,eval b X.env)]:=by rfl) :
  PI X tg (.Call (.Name "range" p) [a,b] [] pos) (Ci ta):=by
 intro pins s O H R I h
 refine Call_ (iY I hg hm boot_range (PyProof.Rows.callWith_type1 (thn (m pos pins s O H _ I h) λus s1 #[vs,H1,f,g,d]=>?_) (by rw[n,c]) (by rw[c];rfl)))
 obtain ⟨i,j,e,⟨d,o,l,k⟩,q⟩:=d
 subst e
 cases g with
 | cons r rr =>
  cases rr with
  | cons r' rr =>
   cases rr
   obtain ⟨t,rfl⟩:=r
   obtain ⟨t',rfl⟩:=r'
   exact call_range_2 (qi f d o l k q)
def tFor (b:TI) (g:TG) (tb:TS):TS:=λD O H=>b O H λJ H1=>∃ W:Nat->Nat->St->Hp->Prop,(∃ m,W 0 m O H1)/\∀ i m O H,W i m O H ->
 (J.stop i H/\D.nx O H)\/(J.go i H/\∃ N:St->Hp->Prop,(∀ O' H',N O' H'->∃ a,a < m/\W (i+1) a O' H')/\∀ x H',J.yld i H x H'->g x O H' λO2 H2=>tb { D with nx:=N,ct:=N,bk:=D.nx } O2 H2)
def mB (fp:List Addr) (h:Heap):List (Addr×Obj):=fp.filterMap λb=>(h.get? b).map λo=>(b,o)
theorem gz (a:b∈fp) (e:h.get? b=some o):(b,o)∈mB fp h:=List.mem_filterMap.mpr #[b,a,by rw[e];rfl]
theorem vw (d:p∈mB fp h):p.1∈fp/\h.get? p.1=some p.2:=by
 obtain ⟨b,c,e⟩:=List.mem_filterMap.mp d
 cases q:h.get? b with
 | none=>rw[q] at e;cases e
 | some o =>
  rw[q] at e
  have a:(b,o)=p:=FY e
  subst a
  exact #[c,q]
theorem Inv.pinned (I:Inv X pins O H s) (hf:∀ b∈fp,FpOk X pins H b) (f:∀ b∈fp,∃ o,s.heap.get? b=some o/\∀ v,o.data≠.cell v):Inv X (pins++mB fp s.heap) O H s :=
 I.pins_of λp g=>(Ff.mp g).elim (λz=>I.pin p (Fb _ z)) λz=>by
  obtain ⟨c,e⟩:=vw z
  obtain ⟨f0,f1,f2,_⟩:=hf p.1 c
  obtain ⟨o,a,d⟩:=f p.1 c
  rw[e] at a;cases a
  exact #[e,f0,f1,f2,d]
theorem Inv.unpinned (I:Inv X (pins++pl) O H s):Inv X pins O H s:=I.pins_of λp a=>I.pin p (Fb _ (E9 _ a))
set_option tactic.hygienic true in
theorem DB (y:PassesOwn (model X.prog X.w) X.A X.env X.xe) (L:X.calm=true) (hi:PI X tg iter wi) (hg:PG X tg g) (c:PSs X body tb) (hs:∀ x,foldedSetIterable iter X.env x=pure x:=by intro _;rfl):PS X (.For tg iter body [] pos) (tFor wi g tb):=by
 intro pins s O H D I h
 refine wpAny_For (thn (hi pins s O H _ I h) λv s1 h1=>thn h1 λab s2 h2=>?_) hs
 obtain ⟨it,fp,σ,J,H2,e,I2,T,G,f2,W,⟨m0,w0⟩,turn⟩:=h2
 subst e
 have k:∀ {H':Hp},(∀ b∈fp,H' b=none)->∀ b∈fp,FpOk X pins H' b:=λhn b c=>#[hn b c,(f2 b c).2]
 refine codeAny_forLoop_any (λn s'=>∃ i O' H',Inv X pins O' H' s'/\σ i s'.heap/\(∀ b∈fp,H' b=none)/\W i n O' H') ?_ m0 #[0,O,H2,I2,G,λb c=>(f2 b c).1,w0]
 rintro n s3 ⟨i,O3,B,M,t,q,R⟩
 rcases turn i n O3 B R with ⟨stop,qn⟩ | ⟨go,N,hN,step⟩
 .refine wpAny_passesOwn y (thn (T.done X rfl rfl rfl L i pins s3 O3 B X.xe M (k q) t stop) λr s4 #[C,I4]=>?_)
  subst C
  exact wpAny_execs_nil #[O3,B,I4,qn]
 .refine wpAny_passesOwn y (thn (T.item X rfl rfl rfl L i pins s3 O3 B X.xe M (k q) t go) λr s4 #[u,C,h4]=>?_)
  subst C
  refine wpAny_passesOwn y (thn h4 λ_ s5 #[x,P,I5,V,y5,p,F]=>?_)
  have K:=I5.pinned (k F) (T.obj _ _ p)
  refine wpAny_passesOwn y (thn (hg _ s5 O3 P x u _ K V (step x P y5)) λ_ U #[O6,Q,I6,ρ]=>?_)
  refine wpAny_passesOwn y (thn (c _ U O6 Q _ I6 ρ) λf E l=>?_)
  have again:∀ {O7:St} {a:Hp},Inv X (pins++mB fp s5.heap) O7 a E->N O7 a->∃ m,m < n/\∃ i O' H',Inv X pins O' H' E/\σ i E.heap/\(∀ b∈fp,H' b=none)/\W i m O' H':=λ{O7 a} j z=>by
   obtain ⟨S,hm,τ⟩:=hN O7 a z
   refine #[S,hm,i+1,O7,a,j.unpinned,T.keep _ _ _ p λb c o e=>(j.pin (b,o) (Fb _ (Fb _ (gz c e)))).1,λb c=>?_,τ]
   obtain ⟨o,e,d⟩:=T.obj _ _ p b c
   exact (j.pin (b,o) (Fb _ (Fb _ (gz c e)))).2.1
  cases f with
  | next=>obtain ⟨O7,a,j,z⟩:=l;exact again j z
  | cont=>obtain ⟨O7,a,j,z⟩:=l;exact again j z
  | brk=>obtain ⟨O7,a,j,l⟩:=l;exact #[O7,a,j.unpinned,l]
  | ret v=>obtain ⟨x7,O7,a,j,r7,l⟩:=l;exact #[x7,O7,a,j.unpinned,r7,l]
end
end L2
namespace L2
open PySem PySem.Spec PyProof.Rows
abbrev R2:=V->V->Hp->VK->Prop
def OpR (X:Cx) (f:Value->Value->Sem Value) (r:R2):Prop :=
 ∀ (pins:List (Addr×Obj)) (s:Shared) (O:St) (H:Hp) (x y:V) (v u:Value) (Q:VK),Inv X pins O H s->RelV x v->RelV y u->r x y H Q ->
  wpAny (model X.prog X.w) X.A (f v u) (EP X pins O Q) X.xe s
def UnR (X:Cx) (f:Value->Sem Value) (r:V->Hp->VK->Prop):Prop :=
 ∀ (pins:List (Addr×Obj)) (s:Shared) (O:St) (H:Hp) (x:V) (v:Value) (Q:VK),Inv X pins O H s->RelV x v->r x H Q ->
  wpAny (model X.prog X.w) X.A (f v) (EP X pins O Q) X.xe s
def dU (X:Cx) (f:Value) (r:List V->Hp->VK->Prop):Prop :=
 ∀ (pins:List (Addr×Obj)) (s:Shared) (O:St) (H:Hp) (xs:List V) (us:List Value) (Q:VK),Inv X pins O H s->Vals xs us->r xs H Q ->
  wpAny (model X.prog X.w) X.A (call f us) (EP X pins O Q) X.xe s
def tOp (r:R2) (ta tb:TE):TE:=λO H Q=>ta O H λx H1=>tb O H1 λy H2=>r x y H2 Q
def tUn (r:V->Hp->VK->Prop) (ta:TE):TE:=λO H Q=>ta O H λx H1=>r x H1 Q
def rI (C:Int->Int->Prop) (g:Int->Int->V):R2:=λx y H Q=>∃ i j,x=.int i/\y=.int j/\C i j/\Q (g i j) H
def rI0 (g:Int->Int->V):R2:=λx y H Q=>∃ i j,x=.int i/\y=.int j/\Q (g i j) H
def rU (g:Int->V):V->Hp->VK->Prop:=λx H Q=>∃ i,x=.int i/\Q (g i) H
section
variable {X:Cx} {a b c:Expr} {ta tb tc:TE} {pos:Pos}
theorem EW (j:PE X a ta) (k:PE X b tb) {R:V->V->Hp->Prop} (I:Inv X pins O H s) (h:ta O H λx H1=>tb O H1 λy H2=>R x y H2) {f:Value->Value->Sem Value} (hf:∀ v u s2 x y H2,Inv X pins O H2 s2->RelV x v->RelV y u->R x y H2->wpAny (model X.prog X.w) X.A (f v u) Q X.xe s2) :
  wpAny (model X.prog X.w) X.A (eval a X.env) (λv d=>wpAny (model X.prog X.w) X.A (eval b X.env) (λu l=>wpAny (model X.prog X.w) X.A (f v u) Q X.xe l) X.xe d) X.xe s:=by
 refine thn (j pins s O H _ I h) λv s1 #[x,H1,e,i,c]=>?_
 refine thn (k pins s1 O H1 _ e c) λu s2 #[y,H2,n,g,m]=>?_
 exact hf v u s2 x y H2 n i g m
theorem pe_op (c:OpR X (binaryOp op) r) (e:PE X a ta) (g:PE X b tb):PE X (.BinOp a op b pos) (tOp r ta tb):=by
 intro pins s O H Q I h
 exact wpAny_BinOp (EW e g I h λv u s2 x y H2 i d f q=>c pins s2 O H2 x y v u Q i d f q)
theorem pe_un (c:UnR X (unaryOp op) r) (e:PE X a ta):PE X (.UnaryOp op a pos) (tUn r ta):=by
 intro pins s O H Q I h
 exact UnaryOp_ (thn (e pins s O H _ I h) λv s1 #[x,H1,d,f,b]=>c pins s1 O H1 x v Q d f b)
theorem opI {g:Int->Int->Int} (rule:∀ (i j:Int) (t u:Tok) (s:Shared) (Q:Value->Shared->Prop) (E:Value->Shared->Prop),C i j->Q (.int (g i j) s.toks) { s with toks:=s.toks+1 }->wpAny (model X.prog X.w) X.A (f (.int i t) (.int j u)) Q E s) :
  OpR X f (rI C λi j=>.int (g i j)):=by
 intro pins s O H x y v u Q I a b h
 obtain ⟨i,j,rfl,rfl,c,q⟩:=h
 obtain ⟨t,rfl⟩:=a
 obtain ⟨t',rfl⟩:=b
 exact rule i j t t' s _ _ c #[.int (g i j),H,I.tok _,#[_,rfl],q]
theorem opI0 {g:Int->Int->Int} (rule:∀ (i j:Int) (t u:Tok) (s:Shared) (Q:Value->Shared->Prop) (E:Value->Shared->Prop),Q (.int (g i j) s.toks) { s with toks:=s.toks+1 }->wpAny (model X.prog X.w) X.A (f (.int i t) (.int j u)) Q E s) :
  OpR X f (rI0 λi j=>.int (g i j)):=by
 intro pins s O H x y v u Q I a b h
 obtain ⟨i,j,rfl,rfl,q⟩:=h
 obtain ⟨t,rfl⟩:=a
 obtain ⟨t',rfl⟩:=b
 exact rule i j t t' s _ _ #[.int (g i j),H,I.tok _,#[_,rfl],q]
theorem DX {g:Int->Int->Bool} (rule:∀ (i j:Int) (t u:Tok) (s:Shared) (Q:Value->Shared->Prop) (E:Value->Shared->Prop),Q (.bool (g i j)) s->wpAny (model X.prog X.w) X.A (f (.int i t) (.int j u)) Q E s) :
  OpR X f (rI0 λi j=>.bl (g i j)):=by
 intro pins s O H x y v u Q I a b h
 obtain ⟨i,j,rfl,rfl,q⟩:=h
 obtain ⟨t,rfl⟩:=a
 obtain ⟨t',rfl⟩:=b
 exact rule i j t t' s _ _ #[.bl (g i j),H,I,rfl,q]
def wB (i j:Int):Prop:=0 < j/\j < 1073741824
def zE (i j:Int):Prop:=0<=j/\j<=1000000/\i.natAbs < 2 ^ 64
def CMul (i j:Int):Prop:=(-(2 ^ 64) < i/\i < 2 ^ 64)\/(-(2 ^ 64) < j/\j < 2 ^ 64)
theorem CMul.ok {i j:Int} (h:CMul i j):IntMulOk i j:=by
 rcases h with ⟨h1,h2⟩ | ⟨h1,h2⟩
 .exact .of_left (intBits_le_64 h1 h2)
 .exact .of_right (intBits_le_64 h1 h2)
theorem op_add:OpR X (binaryOp .Add) (rI0 λi j=>.int (i+j)):=opI0 λ_ _ _ _ _ _ _ q=>add_int q
theorem DO:OpR X (binaryOp .Sub) (rI0 λi j=>.int (i - j)):=opI0 λ_ _ _ _ _ _ _ q=>sub_int q
theorem DS:OpR X (binaryOp .Mult) (rI CMul λi j=>.int (i * j)):=opI λ_ _ _ _ _ _ _ a q=>mul_int q a.ok
theorem DT:OpR X (binaryOp .Mod) (rI (λ_ j=>0 < j) λi j=>.int (i % j)):=opI λi j _ _ _ _ _ a q=>by
 have h1:(0:Int) < j:=a
 exact mod_int' (by omega) (by rw[Int.fmod_eq_emod_of_nonneg i (by omega)];exact q)
theorem DQ:OpR X (binaryOp .Pow) (rI zE λi j=>.int (i ^ j.toNat)):=opI λ_ _ _ _ _ _ _ a q=>pow_int_small a.1 a.2.1 a.2.2 q
theorem unI {g:Int->Int} (rule:∀ (i:Int) (t:Tok) (s:Shared) (Q:Value->Shared->Prop) (E:Value->Shared->Prop),Q (.int (g i) s.toks) { s with toks:=s.toks+1 }->wpAny (model X.prog X.w) X.A (f (.int i t)) Q E s) :
  UnR X f (rU λi=>.int (g i)):=by
 intro pins s O H x v Q I a h
 obtain ⟨i,rfl,q⟩:=h
 obtain ⟨t,rfl⟩:=a
 exact rule i t s _ _ #[.int (g i),H,I.tok _,#[_,rfl],q]
theorem Cu:UnR X (unaryOp .USub) (rU λi=>.int (-i)):=unI λ_ _ _ _ _ q=>neg_int q
end
def C0:V->V->Bool
 | .non,.non=>true | .non,.int _=>true | .int _,.non=>true | .non,.bl _=>true | .bl _,.non=>true | .non,.str _=>true | .str _,.non=>true
 | .int _,.int _=>true | .bl _,.bl _=>true | .str _,.str _=>true | .byt _,.byt _=>true
 | .int _,.str _=>true | .str _,.int _=>true | .bl _,.str _=>true | .str _,.bl _=>true
 | _,_=>false
def rEq:R2:=λx y H Q=>C0 x y=true/\Q (.bl (decide (x=y))) H
def rNe:R2:=λx y H Q=>C0 x y=true/\Q (.bl (!decide (x=y))) H
theorem uN {i j:Int}:decide (V.int i=V.int j)=(i == j):=by
 rw[Bool.eq_iff_iff]
 simp
theorem zb:decide (V.bl i=V.bl j)=(i == j):=by
 rw[Bool.eq_iff_iff]
 simp
theorem uM:decide (V.str i=V.str j)=(i == j):=by
 rw[Bool.eq_iff_iff]
 simp
theorem uO:decide (V.byt i=V.byt j)=(i.toList == j.toList):=by
 rw[Bool.eq_iff_iff]
 cases i
 cases j
 simp
section
variable {X:Cx} {a b c:Expr} {ta tb tc:TE} {pos:Pos}
theorem aM (I:Inv X pins O H s) (q:Q (.bl k) H) (e:k=k'):EP X pins O Q (.bool k') s:=by
 subst e
 exact #[.bl k,H,I,rfl,q]
theorem op_eq:OpR X (compareOp .Eq) rEq:=by
 intro pins s O H x y v u Q I c a h
 obtain ⟨b,q⟩:=h
 cases x with
 | non =>
  cases c
  cases y with
  | non=>cases a;exact PySem.EqNone.eq_none_none (aM I q (by simp))
  | bl j=>cases a;exact PySem.EqNone.eq_none_bool (aM I q (by simp))
  | int j=>obtain ⟨t',rfl⟩:=a;exact PySem.EqNone.eq_none_int (aM I q (by simp))
  | str j=>obtain ⟨t',rfl⟩:=a;exact PySem.EqNone.eq_none_str (aM I q (by simp))
  | _=>exact absurd (show false=true from b) Fs
 | bl i =>
  cases c
  cases y with
  | non=>cases a;exact PySem.EqNone.eq_bool_none (aM I q (by simp))
  | bl j=>cases a;exact eq_bool (aM I q zb)
  | str j=>obtain ⟨t',rfl⟩:=a;exact PySem.EqMixed.eq_bool_str (aM I q (by simp))
  | _=>exact absurd (show false=true from b) Fs
 | int i =>
  obtain ⟨t,rfl⟩:=c
  cases y with
  | non=>cases a;exact PySem.EqNone.eq_int_none (aM I q (by simp))
  | int j=>obtain ⟨t',rfl⟩:=a;exact eq_int (aM I q uN)
  | str j=>obtain ⟨t',rfl⟩:=a;exact PySem.EqMixed.eq_int_str (aM I q (by simp))
  | _=>exact absurd (show false=true from b) Fs
 | str i =>
  obtain ⟨t,rfl⟩:=c
  cases y with
  | non=>cases a;exact PySem.EqNone.eq_str_none (aM I q (by simp))
  | bl j=>cases a;exact PySem.EqMixed.eq_str_bool (aM I q (by simp))
  | int j=>obtain ⟨t',rfl⟩:=a;exact PySem.EqMixed.eq_str_int (aM I q (by simp))
  | str j=>obtain ⟨t',rfl⟩:=a;exact eq_str (aM I q uM)
  | _=>exact absurd (show false=true from b) Fs
 | byt i =>
  obtain ⟨t,rfl⟩:=c
  cases y with
  | byt j=>obtain ⟨t',rfl⟩:=a;exact PySem.W.eq_bytes (aM I q uO)
  | _=>exact absurd (show false=true from b) Fs
 | _=>cases y <;> exact absurd (show false=true from b) Fs
theorem op_ne:OpR X (compareOp .NotEq) rNe:=by
 intro pins s O H x y v u Q I c a h
 obtain ⟨b,q⟩:=h
 cases x with
 | non =>
  cases c
  cases y with
  | non=>cases a;exact PySem.EqNone.ne_none_none (aM I q (by simp))
  | bl j=>cases a;exact PySem.EqNone.ne_none_bool (aM I q (by simp))
  | int j=>obtain ⟨t',rfl⟩:=a;exact PySem.EqNone.ne_none_int (aM I q (by simp))
  | str j=>obtain ⟨t',rfl⟩:=a;exact PySem.EqNone.ne_none_str (aM I q (by simp))
  | _=>exact absurd (show false=true from b) Fs
 | bl i =>
  cases c
  cases y with
  | non=>cases a;exact PySem.EqNone.ne_bool_none (aM I q (by simp))
  | bl j=>cases a;exact ne_bool (aM I q (congrArg not zb))
  | str j=>obtain ⟨t',rfl⟩:=a;exact PySem.EqMixed.ne_bool_str (aM I q (by simp))
  | _=>exact absurd (show false=true from b) Fs
 | int i =>
  obtain ⟨t,rfl⟩:=c
  cases y with
  | non=>cases a;exact PySem.EqNone.ne_int_none (aM I q (by simp))
  | int j=>obtain ⟨t',rfl⟩:=a;exact ne_int (aM I q (congrArg not uN))
  | str j=>obtain ⟨t',rfl⟩:=a;exact PySem.EqMixed.ne_int_str (aM I q (by simp))
  | _=>exact absurd (show false=true from b) Fs
 | str i =>
  obtain ⟨t,rfl⟩:=c
  cases y with
  | non=>cases a;exact PySem.EqNone.ne_str_none (aM I q (by simp))
  | bl j=>cases a;exact PySem.EqMixed.ne_str_bool (aM I q (by simp))
  | int j=>obtain ⟨t',rfl⟩:=a;exact PySem.EqMixed.ne_str_int (aM I q (by simp))
  | str j=>obtain ⟨t',rfl⟩:=a;exact ne_str (aM I q (congrArg not uM))
  | _=>exact absurd (show false=true from b) Fs
 | byt i =>
  obtain ⟨t,rfl⟩:=c
  cases y with
  | byt j=>obtain ⟨t',rfl⟩:=a;exact PySem.W.ne_bytes (aM I q (congrArg not uO))
  | _=>exact absurd (show false=true from b) Fs
 | _=>cases y <;> exact absurd (show false=true from b) Fs
theorem n5:OpR X (compareOp .Lt) (rI0 λi j=>.bl (decide (i < j))):=DX λ_ _ _ _ _ _ _ q=>lt_int q
theorem lf:OpR X (compareOp .LtE) (rI0 λi j=>.bl (decide (i<=j))):=DX λ_ _ _ _ _ _ _ q=>le_int q
theorem Ca:OpR X (compareOp .Gt) (rI0 λi j=>.bl (decide (j < i))):=DX λ_ _ _ _ _ _ _ q=>gt_int q
theorem DU:OpR X (compareOp .Is) (λx y H Q=>y=.non /\ Q (.bl (decide (x=.non))) H):=by
  intro pins s O H x y v u Q I a b h
  obtain ⟨rfl,q⟩:=h
  cases b
  refine is_none_gen (aM I q ?_)
  cases x <;> first
    | (cases a; rfl)
    | (obtain ⟨t,rfl⟩:=a; rfl)
theorem AU:OpR X (compareOp .IsNot) (λx y H Q=>y=.non /\ Q (.bl (!decide (x=.non))) H):=by
  intro pins s O H x y v u Q I a b h
  obtain ⟨rfl,q⟩:=h
  cases b
  refine isnot_none_gen (aM I q ?_)
  cases x <;> first
    | (cases a; rfl)
    | (obtain ⟨t,rfl⟩:=a; rfl)
theorem OpR.or (h:OpR X f r) (h':OpR X f r'):OpR X f (λx y H Q=>r x y H Q\/r' x y H Q):=by
 intro pins s O H x y v u Q I a b q
 rcases q with q | q
 .exact h pins s O H x y v u Q I a b q
 .exact h' pins s O H x y v u Q I a b q
theorem fO (b:Expr) (h:op≠.In:=by decide) (h2:op≠.NotIn:=by decide):behindInMarks op b=false:=by
  have e1:(op == CmpOp.In)=false:=by cases op <;> first | rfl | exact absurd rfl h
  have a:(op == CmpOp.NotIn)=false:=by cases op <;> first | rfl | exact absurd rfl h2
  cases b <;> simp[behindInMarks,e1,a]
theorem AS (c:OpR X (compareOp op) r) (e:PE X a ta) (g:PE X b tb) (hm:behindInMarks op b=false):PE X (.Compare a [op] [b] pos) (tOp r ta tb):=by
 intro pins s O H Q I h
 exact wpAny_Compare1 (EW e g I h λv u s2 x y H2 i d f q=>c pins s2 O H2 x y v u Q i d f q) hm
def BU (t:TE):TT:=λO H Q=>t O H λx H'=>∃ k,x=.bl k/\Q k H'
theorem AA (n:OpR X (compareOp op) r) (p:PE X a ta) (q:PE X b tb) (hm:behindInMarks op b=false):PT X (.Compare a [op] [b] pos) (BU (tOp r ta tb)):=by
 intro pins s O H Q I h
 refine wpAny_isTrue_Compare1 (thn (p pins s O H _ I h) λv s1 #[x,H1,g,j,d]=>thn (q pins s1 O H1 _ g d) λu s2 #[y,H2,w,i,t] =>
  thn (n pins s2 O H2 x y v u _ w j i t) λc s3 #[z,o,m,f,k,e,l]=>?_) hm
 subst e
 cases f
 exact FQ #[o,m,l]
def oI (r d:R2) (ta tb tc:TE):TE:=λO H Q=>ta O H λx H1=>tb O H1 λy H2=>r x y H2 λz a=>∃ k,z=.bl k /\
 (if k=true then tc O a λc b=>d y c b Q else Q (.bl false) a)
theorem qo (q:OpR X (compareOp op) r) (f:OpR X (compareOp op') r') (t:PE X a ta) (B:PE X b tb) (A:PE X c tc) (hm:lastMarks [op,op'] [b,c]=false:=by with_unfolding_all rfl):PE X (.Compare a [op,op'] [b,c] pos) (oI r r' ta tb tc):=by
 intro pins s O H Q I h
 refine Compare_chain (thn (t pins s O H _ I h) λv s1 #[x,H1,p,F,m]=>chain_link (thn (B pins s1 O H1 _ p m) λu s2 #[y,H2,K,l,C] =>
  thn (q pins s2 O H2 x y v u _ K F l C) λd s3 #[z,j,i,n,k,e,g]=>?_)) hm
 subst e
 cases n
 refine FQ ?_
 cases k with
 | false=>exact ite_ff #[.bl false,j,i,rfl,g]
 | true=>exact ite_tt (chain_last (thn (A pins s3 O j _ i g) λw s4 #[o,E,J,D,G]=>f pins s4 O E y o u w Q J l D G))
theorem xD (w:OpR X (compareOp op) r) (f:OpR X (compareOp op') r') (B:PE X a ta) (E:PE X b tb) (D:PE X c tc) (hm:lastMarks [op,op'] [b,c]=false:=by with_unfolding_all rfl):PT X (.Compare a [op,op'] [b,c] pos) (BU (oI r r' ta tb tc)):=by
 intro pins s O H Q I h
 refine isTrue_chain (thn (B pins s O H _ I h) λv s1 #[x,H1,p,M,m]=>test_link (thn (E pins s1 O H1 _ p m) λu s2 #[y,H2,S,l,F] =>
  thn (w pins s2 O H2 x y v u _ S M l F) λd s3 #[z,j,i,n,k,e,g]=>?_)) hm
 subst e
 cases n
 refine FQ ?_
 cases k with
 | false =>
  obtain ⟨T,σ,L⟩:=g
  cases σ
  exact ite_ff #[j,i,L]
 | true =>
  refine ite_tt (test_last (thn (D pins s3 O j _ i g) λC s4 #[o,K,R,G,N]=>thn (f pins s4 O K y o u C _ R l G N) λd' s5 #[U,J,A,t,k2,q,P]=>?_))
  subst q
  cases t
  exact FQ #[J,A,P]
theorem mN:(sizeLine:Nat) < 2 ^ 63:=by rw[sizeLine_eq];decide
theorem op_add_str:OpR X (binaryOp .Add) (λx y H Q=>∃ i j,x=.str i/\y=.str j/\i.length+j.length<=sizeLine/\Q (.str (i++j)) H):=by
 intro pins s O H x y v u Q I a b h
 obtain ⟨i,j,rfl,rfl,hz,q⟩:=h
 obtain ⟨t,rfl⟩:=a
 obtain ⟨t',rfl⟩:=b
 exact add_str (λt' tk=>#[.str (i++j),H,I.tok _,#[_,rfl],q]) hz
theorem jP (r:Vals [x] us):∃ u,us=[u]/\RelV x u:=by
 cases r with
 | cons r1 r2=>cases r2;exact #[_,rfl,r1]
theorem nJ (r:Vals [x,y] us):∃ u a,us=[u,a]/\RelV x u/\RelV y a:=by
 cases r with
 | cons r1 r2 =>
  cases r2 with
  | cons r3 r4=>cases r4;exact #[_,_,rfl,r1,r3]
theorem zk:dU X (.builtin "abs") (λxs H Q=>∃ i,xs=[.int i]/\Q (.int (if i < 0 then -i else i)) H):=by
 intro pins s O H xs us Q I r h
 obtain ⟨i,rfl,q⟩:=h
 obtain ⟨u,rfl,t,rfl⟩:=jP r
 exact call_abs_int λu tk=>#[.int (if i < 0 then -i else i),H,I.tok _,#[_,rfl],q]
theorem wn (b:X.calm=true):dU X (.builtin "max") (λxs H Q=>∃ i j,xs=[.int i,.int j]/\Q (.int (if j > i then j else i)) H):=by
 intro pins s O H xs us Q I r h
 obtain ⟨i,j,rfl,q⟩:=h
 obtain ⟨u,c,rfl,⟨t,rfl⟩,⟨t',rfl⟩⟩:=nJ r
 refine max_two_ints (I.ok.hd b) λh' tk k=>#[_,H,I.kept k,?_,q]
 by_cases a:j > i
 .rw[if_pos a,if_pos a];exact #[_,rfl]
 .rw[if_neg a,if_neg a];exact #[_,rfl]
theorem wk (b:X.calm=true):dU X (.builtin "min") (λxs H Q=>∃ i j,xs=[.int i,.int j]/\Q (.int (if j < i then j else i)) H):=by
 intro pins s O H xs us Q I r h
 obtain ⟨i,j,rfl,q⟩:=h
 obtain ⟨u,c,rfl,⟨t,rfl⟩,⟨t',rfl⟩⟩:=nJ r
 refine min_two_ints (I.ok.hd b) λh' tk k=>#[_,H,I.kept k,?_,q]
 by_cases a:j < i
 .rw[if_pos a,if_pos a];exact #[_,rfl]
 .rw[if_neg a,if_neg a];exact #[_,rfl]
theorem wq:dU X (.type "int") (λxs H Q=>(∃ i,xs=[.int i]/\Q (.int i) H)\/∃ k,xs=[.bl k]/\Q (.int (if k then 1 else 0)) H):=by
 intro pins s O H xs us Q I r h
 rcases h with ⟨i,rfl,q⟩ | ⟨k,rfl,q⟩
 .obtain ⟨u,rfl,t,rfl⟩:=jP r
  exact call_int_int #[.int i,H,I,#[_,rfl],q]
 .obtain ⟨u,rfl,a⟩:=jP r
  cases a
  exact call_int_bool #[.int (if k then 1 else 0),H,I.tok _,#[_,rfl],q]
theorem rj:dU X (.builtin "divmod") (λxs H Q=>∃ i j,xs=[.int i,.int j]/\wB i j/\∀ p,H p=none->Q (.ref p) (upd H p (.tup [.int (i / j),.int (i % j)]))):=by
 intro pins s O H xs us Q I r h
 obtain ⟨i,j,rfl,⟨h1,h2⟩,q⟩:=h
 obtain ⟨u,a,rfl,⟨t,rfl⟩,⟨t',rfl⟩⟩:=nJ r
 refine divmod_int (by omega) ?_ (.inl (PyProof.noPylong_small (by omega)))
 rw[Int.fdiv_eq_ediv_of_nonneg i (by omega),Int.fmod_eq_emod_of_nonneg i (by omega)]
 have hn:H s.heap.objs.size=none:=I.hok.fresh (Fq _)
 refine #[.ref s.heap.objs.size,_,?_,rfl,q _ hn]
 refine I.laid (λb o e=>E7 _ e) (Fq _) #[by simp only[FE,List.length_nil];rw[sizeLine_eq];decide,[.int (i / j) s.toks,.int (i % j) (s.toks+1)],.cons #[_,rfl] (.cons #[_,rfl] .nil),?_]
 exact #[_,Fg s.heap rfl,rfl,0,rfl]
end
end L2
namespace L2
open PySem PySem.Spec PyProof.Rows
theorem RelO.some_of (r:RelO (some v) o):∃ u,o=some u/\RelV v u:=by
 cases o with
 | none=>exact (show False from r).elim
 | some u=>exact #[u,rfl,r]
end L2
namespace L2
open PySem PySem.Spec PyProof.Rows
structure Room (k:Nat) (A:Around):Prop where
 hd:A.handled=none
 dp:A.depth+3 * k+5 < recursionLimit
 un:A.units+16 * k+200 < cLine
 gd:A.guards=some []
theorem Room.mono {j k:Nat} (r:Room k A) (h:j<=k):Room j A:=#[r.hd,by have:=r.dp;omega,by have:=r.un;omega,r.gd]
theorem Room.deeper {k:Nat} (r:Room (k+1) A) (env:Env):Room k (A.deeper env) :=
 #[r.hd,by have:=r.dp;show A.depth+1+3 * k+5 < _;omega,by have:=r.un;show A.units+3+16 * k+200 < _;omega,r.gd]
theorem Room.depth {k:Nat} (r:Room k A):A.depth < recursionLimit:=by have:=r.dp;omega
theorem Room.units {k:Nat} (r:Room k A):A.units+64 < cLine:=by have:=r.un;omega
def CL:TA:=λ_ H Q=>Q [] H
def wT (ta:TE) (a:TA):TA:=λO H Q=>ta O H λx H1=>a O H1 λxs H2=>Q (x::xs) H2
section
variable {X:Cx} {e:Expr} {es:List Expr} {te:TE} {t:TA} {pos:Pos}
theorem xS:PA X [] CL:=λ_ _ _ _ H Q I h=>Calls.spliced_nil #[[],H,I,.nil,h]
theorem oY (g:PE X e te) (f:PA X es t) (i:starEach (e::es) X.env=(false,eval e X.env)::starEach es X.env:=by rfl):PA X (e::es) (wT te t):=by
 intro pos pins s O H Q I h
 rw[i]
 show wpAny _ _ (spliced ((false,eval e X.env)::backTo pos (starEach es X.env))) _ _ s
 refine Calls.spliced_cons (thn (g pins s O H _ I h) λu s1 #[x,H1,b,d,a]=>?_)
 exact thn (f pos pins s1 O H1 _ b a) λus s2 #[xs,H2,k,c,j]=>#[x::xs,H2,k,.cons d c,j]
def tTup (t:TA):TE:=λO H Q=>t O H λxs H1=>xs.length<=sizeLine/\∀ p,H1 p=none->Q (.ref p) (upd H1 p (.tup xs))
def tLst (t:TA):TE:=λO H Q=>t O H λxs H1=>xs.length<=sizeLine/\∀ p,H1 p=none->Q (.ref p) (upd H1 p (.lst xs))
theorem DG (h:PA X es t):PE X (.Tuple es x1 pos) (tTup t):=by
 intro pins s O H Q I c
 refine wpAny_Tuple_spliced (thn (h pos pins s O H _ I c) λus s1 #[xs,H1,a,r,z,q]=>#[by rw[<- r.length];exact z,?_])
 have hf:H1 s1.heap.objs.size=none:=a.hok.fresh (Fq _)
 refine #[.ref s1.heap.objs.size,upd H1 s1.heap.objs.size (.tup xs),a.laid (t':=s1.toks) (λb u e=>E7 _ e) (Fq _) ?_,rfl,q _ hf]
 exact #[z,us,r,#[_,Fg _ rfl,rfl,_,rfl]]
theorem DK (h:PA X es t):PE X (.List es pos) (tLst t):=by
 intro pins s O H Q I c
 refine wpAny_List_spliced (thn (h pos pins s O H _ I c) λus s1 #[xs,H1,a,r,z,q]=>#[by rw[<- r.length];exact z,?_])
 have hf:H1 s1.heap.objs.size=none:=a.hok.fresh (Fq _)
 refine #[.ref s1.heap.objs.size,upd H1 s1.heap.objs.size (.lst xs),a.laid (t':=s1.toks) (λb u e=>E7 _ e) (Fq _) ?_,rfl,q _ hf]
 exact #[z,us,0,r,Fg _ rfl]
end
abbrev Sp:=List V->Hp->VK->XK->Prop
abbrev CXT:=List Env->Hp->Shared->XK->Value->Shared->Prop
structure Env0 (P:Program) (w:World) (K:FG) (mg:Str->Option Value) (base:Heap) (A:Around) (outer:List Env) (s:Shared) (H:Hp):Prop where
 frames:A.frames=some outer
 mod:Mod K mg base
 bs:∀ b o,base.get? b=some o->s.heap.get? b=some o/\H b=none
 bsz:base.objs.size<=s.heap.objs.size
 funs:s.heap.FunFrames base outer
 frf:∀ b∈frs outer,H b=none
 hok:HOk P w H s.heap
 bare:AllBare s.gens
def CE (outer:List Env) (P:Program) (w:World) (H:Hp) (s:Shared) (Q:VK) (u:Value) (s':Shared):Prop :=
 ∃ v H',s'.os=s.os/\AllBare s'.gens/\Un (frs outer) [] H H' s.heap s'.heap/\HOk P w H' s'.heap/\RelV v u/\Q v H'
def CR (CX:CXT) (outer:List Env) (P:Program) (w:World) (H:Hp) (s:Shared) (Q:VK) (E:XK) (r:Result) (s':Shared):Prop :=
 match r with
 | .ok (.ret u)=>CE outer P w H s Q u s'
 | .ok _=>False
 | .error e=>CX outer H s E e s'
structure FnOk (P:Program) (w:World) (K:FG) (mg:Str->Option Value) (base:Heap) (CX:CXT) (k:Nat) (f:Addr) (fd:FuncData) (ps:List Str) (sp:Sp):Prop where
 len:∀ vs H Q E,sp vs H Q E->vs.length=ps.length
 run:∀ (A:Around) (outer:List Env) (s:Shared) (H:Hp) (args:Args) (us:List Value) (vs:List V) (Q:VK) (E:XK),Room k A->Env0 P w K mg base A outer s H->BindsTo s fd args (ps.zip us)->Vals vs us->sp vs H Q E ->
  codeAny (model P w) A (.call (.ref f) args) (CR CX outer P w H s Q E) s
theorem FnOk.imp {K:FG} {k:Nat} (F:FnOk P w K mg base CX k f fd ps sp) (h:∀ vs H Q E,sp' vs H Q E->sp vs H Q E):FnOk P w K mg base CX k f fd ps sp' :=
 #[λvs H Q E q=>F.len vs H Q E (h _ _ _ _ q),λA outer s H args us vs Q E a he c d b=>F.run A outer s H args us vs Q E a he c d (h _ _ _ _ b)]
section
variable {X:Cx} {pins:List (Addr×Obj)} {O:St} {H:Hp} {s s':Shared}
theorem Inv.env0 (I:Inv X pins O H s):Env0 X.prog X.w X.K X.mg X.base X.A X.stack s H :=
 #[I.ok.frames,I.ok.mod,I.bs,FR I.ok.bsz I.sz,I.stack,I.stkFree,I.hok,I.bare]
theorem Inv.after (I:Inv X pins O H s) (h:CE X.stack X.prog X.w H s Q u s'):EP X pins O Q u s':=by
 obtain ⟨v,H',os,bare,un,hok,r,q⟩:=h
 obtain ⟨c,g,d,t,a⟩:=s'
 obtain rfl:a=s.os:=os
 exact #[v,H',I.call (h':=c) (g':=g) (d':=d) (t':=t) (ch:=[]) un hok bare (λb z=>absurd z (by simp)),r,q]
end
def tCall (sp:Sp) (dvs:List V) (E:XK) (t:TA):TE:=λO H Q=>t O H λvs H1=>sp (vs++dvs) H1 Q E
def Binds (K:FG) (fd:FuncData) (ps:List Str) (ds:List Value):Prop :=
 ∀ (s:Shared) (us:List Value),K.In s.heap->(us++ds).length=ps.length->BindsTo s fd #[us,[]] (ps.zip (us++ds))
theorem Binds.all {K:FG} (h:∀ us:List Value,us.length=ps.length->bindArgs fd #[us,[]]=pure (ps.zip us)):Binds K fd ps []:=λs us _ hl=>by
 rw[List.append_nil] at hl ⊢
 exact .of_eq (h us hl)
def tD (CX:CXT) (X:Cx) (E:XK):Prop:=∀ (pins:List (Addr×Obj)) (O:St) (H:Hp) (s:Shared) (e:Value) (s':Shared),Inv X pins O H s->CX X.stack H s E e s'->X.xe e s'
section
variable {X:Cx} {CX:CXT} {k:Nat} {f C:Addr} {fd:FuncData} {ps:List Str} {sp:Sp} {dvs:List V} {ds:List Value} {E:XK} {x m:Str} {p pos apos:Pos} {e o:Expr} {es:List Expr} {ta:TE} {t:TA}
set_option tactic.hygienic true in
theorem C8 (F:FnOk X.prog X.w X.K X.mg X.base CX k f fd ps sp) (c:Room k X.A) (d:Binds X.K fd ps ds) (hd:Vals dvs ds) (g:tD CX X E) (I:Inv X pins O H s) (r:Vals vs us) (h:sp (vs++dvs) H Q E):wpAny (model X.prog X.w) X.A (call (.ref f) us) (EP X pins O Q) X.xe s:=by
 have b:Vals (vs++dvs) (us++ds):=r.append hd
 have hl:(us++ds).length=ps.length:=by rw[<- b.length];exact F.len _ _ _ _ h
 refine wpAny_call (codeAny_mono (F.run X.A X.stack s H #[us,[]] (us++ds) (vs++dvs) Q E c I.env0 (d s us I.kIn hl) b h) λr s' a=>?_)
 cases r with
 | error e=>exact g pins O H s e s' I a
 | ok fl =>
  cases fl with
  | ret u=>exact I.after a
  | next=>exact False.elim a
  | brk=>exact False.elim a
  | cont=>exact False.elim a
theorem AT (F:FnOk X.prog X.w X.K X.mg X.base CX k f fd ps sp) (i:Room k X.A) (hg:Gl X x) (hm:X.mg x=some (.ref f)) (g:PySem.W.keepIn X.K (.ref f)=true) (l:Binds X.K fd ps ds) (hd:Vals dvs ds) (d:tD CX X E)
  (j:PA X (e::es) t) (a:(x == ("__debug__":Str))=false:=by decide) (he:starEach (e::es) X.env=(false,eval e X.env)::starEach es X.env:=by rfl) (b:(backTo pos (starEach es X.env)).any (·.1)=false:=by rfl) :
  PE X (.Call (.Name x p) (e::es) [] pos) (tCall sp dvs E t):=by
 intro pins s O H Q I h
 refine wpAny_Call_Name_kw (uq I hg hm ?_ a)
 refine PySem.W.callWith_K (h₀:=X.base) I.ok.mod.kin g (thn (j pos pins s O H _ I h) λus s1 #[vs,H1,c,r,q]=>#[c.kIn,?_]) he b
 exact C8 F i l hd d c r q
end
def PK (X:Cx) (kws:List Keyword) (t:TA):Prop :=
 ∀ (pos:Pos) (pins:List (Addr×Obj)) (s:Shared) (O:St) (H:Hp) (Q:List V->Hp->Prop),Inv X pins O H s->t O H Q->wpAny (model X.prog X.w) X.A (evalAll ((backToKw pos (keywordEach kws X.env)).map (·.2))) (AP X pins O Q) X.xe s
section
variable {X:Cx} {CX:CXT} {k:Nat} {f C:Addr} {fd:FuncData} {ps ks:List Str} {sp:Sp} {E:XK} {x m:Str} {p pos apos kpos:Pos} {e o:Expr} {es:List Expr} {kws:List Keyword} {te ta:TE} {t tk:TA} {nm:Option Str}
theorem DD:PK X [] CL:=λ_ _ _ _ H Q I h=>wpAny_evalAll_nil #[[],H,I,.nil,h]
theorem AM (g:PE X e te) (f:PK X kws t):PK X (#[nm,e,kpos]::kws) (wT te t):=by
 intro pos pins s O H Q I h
 show wpAny _ _ (evalAll ((do let v <- eval e X.env;standAt pos;pure v)::(backToKw pos (keywordEach kws X.env)).map (·.2))) _ _ s
 refine wpAny_evalAll_cons (E2 (thn (g pins s O H _ I h) λu s1 #[x,H1,b,d,a]=>E2 (wpAny_standAt (E3 ?_))))
 exact thn (f pos pins s1 O H1 _ b a) λus s2 #[xs,H2,j,c,i]=>#[x::xs,H2,j,.cons d c,i]
variable {g:List Value->List Value->List Value} {gV:List V->List V->List V}
end
structure FnScope (N P:List Str) (sc:Scope):Prop where
 kind:sc.kind=.function
 co:sc.isCoroutine=false
 gen:sc.isGenerator=false
 nd:N.Nodup
 pre:N.take P.length=P
 par:∀ x∈P,sc.names.lookup x=some .local\/sc.names.lookup x=some .cell
 nofree:∀ y∈sc.names,y.2≠.free
theorem oA {kindOf:Str->Option NameKind}:∀ {binds:List (Str×Value)} {m:Str->Option Value},(∀ v,(x,v) ∉ binds)->bindL kindOf binds m x=m x
 | [],_,_=>rfl
 | (n,v)::r,m,h=>by
  unfold bindL
  rw[oA λw hw=>h w (E6 _ hw)]
  split
  .have:x≠n:=by rintro rfl;exact h v E5
   simp[this]
  .rfl
theorem oC {kindOf:Str->Option NameKind}:∀ {binds:List (Str×Value)} {m:Str->Option Value},(∀ v,(x,v) ∉ binds)->bindC kindOf binds m x=m x
 | [],_,_=>rfl
 | (n,v)::r,m,h=>by
  unfold bindC
  rw[oC λw hw=>h w (E6 _ hw)]
  split
  .rfl
  .have:x≠n:=by rintro rfl;exact h v E5
   simp[this]
theorem oB {kindOf:Str->Option NameKind}:∀ {P:List Str} {vs:List Value} {i:Nat} {m:Str->Option Value},P.Nodup->P[i]?=some x->vs[i]?=some v->kindOf x=some .local ->
  bindL kindOf (P.zip vs) m x=some v
 | [],_,_,_,_,h,_,_=>by simp at h
 | _::_,[],_,_,_,_,h,_=>by simp at h
 | p::P,w::vs,0,m,nd,h1,h2,hk=>by
  simp at h1 h2;subst h1;subst h2
  show bindL kindOf ((p,w)::P.zip vs) m p=_
  unfold bindL
  rw[oA λv a=>(List.nodup_cons.mp nd).1 (List.of_mem_zip a).1,if_pos hk]
  simp
 | p::P,w::vs,i+1,m,nd,h1,h2,hk=>by
  show bindL kindOf ((p,w)::P.zip vs) m x=_
  unfold bindL
  exact oB (i:=i) (List.nodup_cons.mp nd).2 (by simpa using h1) (by simpa using h2) hk
theorem oD {kindOf:Str->Option NameKind}:∀ {P:List Str} {vs:List Value} {i:Nat} {m:Str->Option Value},P.Nodup->P[i]?=some x->vs[i]?=some v->kindOf x≠some .local ->
  bindC kindOf (P.zip vs) m x=some v
 | [],_,_,_,_,h,_,_=>by simp at h
 | _::_,[],_,_,_,_,h,_=>by simp at h
 | p::P,w::vs,0,m,nd,h1,h2,hk=>by
  simp at h1 h2;subst h1;subst h2
  show bindC kindOf ((p,w)::P.zip vs) m p=_
  unfold bindC
  rw[oC λv a=>(List.nodup_cons.mp nd).1 (List.of_mem_zip a).1,if_neg hk]
  simp
 | p::P,w::vs,i+1,m,nd,h1,h2,hk=>by
  show bindC kindOf ((p,w)::P.zip vs) m x=_
  unfold bindC
  exact oD (i:=i) (List.nodup_cons.mp nd).2 (by simpa using h1) (by simpa using h2) hk
def k9 (N:List Str) (vs:List V):St:=vs.map some++List.replicate (N.length - vs.length) none
def q9 (CX:CXT) (P:Program) (w:World) (K:FG) (mg:Str->Option Value) (base:Heap) (N:List Str) (qual:Str) (scope:Scope) (f:Addr) (cd:Value) (A:Around) (outer:List Env) (s:Shared) (H:Hp) (E:XK):Cx where
 prog:=P
 w:=w
 K:=K
 mg:=mg
 base:=base
 A:=A.deeper (envOfC qual scope s.heap.objs.size f cd)
 N:=N
 s₀:=s
 H₀:=H
 env:=envOfC qual scope s.heap.objs.size f cd
 outer:=outer
 stack:=envOfC qual scope s.heap.objs.size f cd::outer
 ex:=[]
 calm:=true
 fn:=λ_=>true
 pn:=[]
 xe:=λe s'=>wpAny (model P w) (A.deeper (envOfC qual scope s.heap.objs.size f cd)) (leaving (envOfC qual scope s.heap.objs.size f cd) e) (λ_ a=>CX outer H s E e a) (λb a=>CX outer H s E b a) s'
theorem rh {sc:Scope} {n:Nat} (h:sc.names.lookup x=some .cell):∃ c,(cellsFrom n sc.names []).lookup x=some c:=by
 have q:=PySem.W.cellsFrom_some sc.names n [] (.inl h)
 exact Option.isSome_iff_exists.mp q
theorem vT {K:FG} (S:FnScope N ps scope) (hd:A.handled=none) (d:Env0 P w K mg base A outer s H) (hl:vs.length=ps.length) (r:Vals vs us) (x:InCallC s s.heap.objs.size (bindL (envOfC qual scope s.heap.objs.size f cd).kindOf (ps.zip us) λ_=>none) (cellsFrom (s.heap.objs.size+1) scope.names []) (bindC (envOfC qual scope s.heap.objs.size f cd).kindOf (ps.zip us) λ_=>none) s1) :
  Inv (q9 CX P w K mg base N qual scope f cd A outer s H E) [] (k9 N vs) H s1:=by
 have B:ps.length<=N.length:=by have:=congrArg List.length S.pre;rw[FF] at this;omega
 obtain ⟨h1,tk,rfl,o⟩:=x.done
 have g:∀ b:Addr,b ∉ (q9 CX P w K mg base N qual scope f cd A outer s H E).ex:=λb z=>absurd (show b∈([]:List Addr) from z) (by simp)
 refine ⟨⟨d.mod,S.kind,rfl,rfl,Fq _,λy z c h1 h2=>?_,λy j=>?_,λy c _ h=>?_,λ_=>hd,Around.frames_deeper d.frames,.inr ⟨rfl,rfl⟩,λb z=>absurd z (g b),d.bs,d.bsz,λb _ _=>g b,λb z=>absurd z (g b),d.funs,d.frf⟩,
  rfl,d.bare,Un.kept o,⟨_,x.toInCall.ns,λi y v h1 h2 h3=>?_⟩,λy c h=>⟨_,x.cell y c h⟩,d.hok.fresh (Fq _),λy c h=>?_,λp m=>absurd (show p∈([]:List (Addr×Obj)) from m) (by simp),d.hok.kept o,?_⟩
 .exact name_of_addr x.apart (PySem.mem_of_lookup h1) (PySem.mem_of_lookup h2)
 .have j:scope.names.lookup y=some .cell\/scope.names.lookup y=some .free:=j
  rcases j with j | j
  .exact rh j
  .exact absurd rfl (S.nofree _ (PySem.mem_of_lookup j))
 .exact Nat.le_of_lt (x.above y c (PySem.mem_of_lookup h))
 .have hi:i < vs.length:=by
   unfold k9 at h2
   by_cases hi:i < vs.length
   .exact hi
   .rw[List.getElem?_append_right (by simpa using hi)] at h2
    rw[List.getElem?_replicate] at h2
    split at h2 <;> cases h2
  have C:vs[i]?=some v:=by
   unfold k9 at h2
   rw[FN (by simpa using hi),Fp] at h2
   cases e:vs[i]? with
   | none=>rw[e] at h2;cases h2
   | some a=>rw[e] at h2;cases h2;rfl
  obtain ⟨u,hu,t⟩:=r.get C
  have m:ps[i]?=some y:=by
   rw[<- S.pre,List.getElem?_take_of_lt (by omega)];exact h1
  have l:ps.Nodup:=by rw[<- S.pre];exact S.nd.sublist (List.take_sublist _ _)
  refine #[u,t,?_]
  rcases S.par y (Fj m) with k | k
  .exact .inl #[k,oB l m hu k]
  .obtain ⟨c,e⟩:=rh (n:=s.heap.objs.size+1) k
   refine .inr #[.inl k,c,e,?_]
   have q:=x.cell y c e
   rw[oD l m hu (by show scope.names.lookup y≠_;rw[k];decide)] at q
   exact q
 .exact d.hok.fresh (Nat.le_of_lt (x.above y c (PySem.mem_of_lookup h)))
 .unfold k9
  show _=N.length
  rw[FD,Fh,List.length_replicate]
  lia
set_option tactic.hygienic true in
theorem fn_of {K:FG} {k:Nat} {p kV doc pm a ct C:Value} (B:K.lookup f=some #[C,od,.func (PySem.W.fnOf name qual params body scope p kV doc pm an a ct),osl]) (l:PySem.W.codeIn K a qual=true) (S:FnScope N ps scope) (len:∀ vs H Q E,sp vs H Q E->vs.length=ps.length) (d:∀ (A:Around) (outer:List Env) (s:Shared) (H:Hp) (vs:List V) (Q:VK) (E:XK),Room k (A.deeper (envOfC qual scope s.heap.objs.size f a))->sp vs H Q E ->
   ∃ t,PSs (q9 CX P w K mg base N qual scope f a A outer s H E) body t/\t { nx:=λ_ H'=>Q .non H',rt:=Q } (k9 N vs) H) :
  FnOk P w K mg base CX (k+1) f (PySem.W.fnOf name qual params body scope p kV doc pm an a ct) ps sp:=by
 refine #[len,λA outer s H args us vs Q E m i D r h=>?_]
 have hl:=len _ _ _ _ h
 have z:K.In s.heap:=i.mod.kin.keeps λb o e=>(i.bs b o e).1
 have lim:s.heap.NoLimit:=i.mod.nolimit.keeps λb o e=>(i.bs b o e).1
 have c:∀ y∈ps.zip us,scope.names.lookup y.1=some .local\/(scope.names.lookup y.1=some .cell/\((cellsFrom (s.heap.objs.size+1) scope.names []).lookup y.1).isSome=true):=λ#[n,v] L=>by
  rcases S.par n (List.of_mem_zip L).1 with q | q
  .exact .inl q
  .exact .inr #[q,PySem.W.cellsFrom_some _ _ _ (.inl q)]
 refine codeAny_call_function m.depth (z _ _ B) rfl S.co S.gen rfl (PySem.W.codeRec_of z l) (D _ _ _ _ ?_)
 refine wpAny_newFunctionEnv_cells S.kind c λenv he s1 x=>?_
 subst he
 refine #[lim.keeps x.toInCall.keep,codeAny_func ?_]
 obtain ⟨t,F,G⟩:=d A outer s H vs Q E (m.deeper _) h
 have I:Inv (q9 CX P w K mg base N qual scope f a A outer s H E) [] (k9 N vs) H s1:=vT S m.hd i hl r x
 refine wpAny_mono (F [] s1 (k9 N vs) H _ I G) (λfl s' g=>?_) λe s' g=>g
 have fin:∀ {O':St} {H':Hp} {v:V} {u:Value},Inv (q9 CX P w K mg base N qual scope f a A outer s H E) [] O' H' s'->RelV v u->Q v H'->CE outer P w H s Q u s' :=
  λ{O' H' v u} J j q=>#[v,H',J.os,J.bare,J.base,J.hok,j,q]
 cases fl with
 | ret u =>
  obtain ⟨v,O',H',J,j,q⟩:=g
  exact fin J j q
 | next =>
  obtain ⟨O',H',J,q⟩:=g
  exact fin (v:=V.non) (u:=Value.none) J rfl q
 | brk =>
  obtain ⟨_,_,_,q⟩:=g
  exact False.elim q
 | cont =>
  obtain ⟨_,_,_,q⟩:=g
  exact False.elim q
end L2
namespace L2
open PySem PySem.Spec PyProof.Rows
section
variable {X:Cx} {x:Str} {p pos:Pos} {e:Expr} {es:List Expr} {t:TA} {id T:String} {r:List V->Hp->VK->Prop}
def tCB (r:List V->Hp->VK->Prop) (t:TA):TE:=λO H Q=>t O H λvs H1=>r vs H1 Q
theorem qp (i:dU X (.builtin id) r) (hg:Gl X x) (hm:X.mg x=none) (j:bootBuiltins x=some (.builtin id)) (g:PA X (e::es) t) (hn:x≠"__name__":=by decide) (a:(x == ("__debug__":Str))=false:=by decide)
  (he:starEach (e::es) X.env=(false,eval e X.env)::starEach es X.env:=by rfl) (b:(backTo pos (starEach es X.env)).any (·.1)=false:=by rfl):PE X (.Call (.Name x p) (e::es) [] pos) (tCB r t):=by
 intro pins s O H Q I h
 refine wpAny_Call_Name_kw (iY I hg hm j ?_ hn a)
 exact PyProof.Rows.callWith_builtin1 (thn (g pos pins s O H _ I h) λus s1 #[vs,H1,d,f,c]=>i pins s1 O H1 vs us Q d f c) he b
theorem vt (i:dU X (.type T) r) (hg:Gl X x) (hm:X.mg x=none) (j:bootBuiltins x=some (.type T)) (g:PA X (e::es) t) (hn:x≠"__name__":=by decide) (a:(x == ("__debug__":Str))=false:=by decide)
  (he:starEach (e::es) X.env=(false,eval e X.env)::starEach es X.env:=by rfl) (b:(backTo pos (starEach es X.env)).any (·.1)=false:=by rfl):PE X (.Call (.Name x p) (e::es) [] pos) (tCB r t):=by
 intro pins s O H Q I h
 refine wpAny_Call_Name_kw (iY I hg hm j ?_ hn a)
 exact PyProof.Rows.callWith_type1 (thn (g pos pins s O H _ I h) λus s1 #[vs,H1,d,f,c]=>i pins s1 O H1 vs us Q d f c) he b
end
end L2
namespace HT
open PySem PyProof.Rows
section
open PySem.SeqAt
open PySem.AutoSeq1 (wpAny_loadPart')
open PySem.MeetsSeq PySem.MeetsSeq2 PySem.MeetsSeq3
end
section
variable {prog:Program} {w:World} {A:Around} {E:Value->Shared->Prop} {s:Shared}
theorem cat_tup (m:IsTup s.heap t vs.toArray) (o:IsTup s.heap b ws.toArray) (k:vs≠[]) (h1:ws=[]->Q (.ref t) s) (h2:ws≠[]->Q (.ref s.heap.objs.size) { s with heap:=s.heap.push { cls:=.type "tuple",data:=.seq (vs++ws).toArray } }) (hsz:vs.length+ws.length<=sizeLine):wpAny (model prog w) A (binaryOp .Add (.ref t) (.ref b)) Q E s:=by
 obtain ⟨⟨cls,h,data,sl⟩,g,j,n,hd⟩:=id m
 obtain ⟨⟨l,d,data2,c⟩,a,f,i,hd2⟩:=id o
 simp only at j hd f hd2
 subst j hd f hd2
 have e:vs.toArray++ws.toArray=(vs++ws).toArray:=by simp
 by_cases hw:ws=[]
 .exact concat_meets #[_,g,rfl] #[_,a,rfl] noFill_tuple_add seq_tuple_add PySem.F.slot_tuple_add PySem.F.entry_tuple_add (PySem.F.args_tuple_add_2 _ _)
   (tuple_addW1 t b vs.toArray ws.toArray n i h d sl c (by simpa using k) (by simp[hw])) #[g,a,h1 hw]
 .refine concat_meets #[_,g,rfl] #[_,a,rfl] noFill_tuple_add seq_tuple_add PySem.F.slot_tuple_add PySem.F.entry_tuple_add (PySem.F.args_tuple_add_2 _ _)
   (tuple_addW2 t b vs.toArray ws.toArray n i h d sl c (by simpa using k) (by simpa using hw) (by rw[Fu,Fu];exact hsz)) #[g,a,?_]
  rw[e]
  exact h2 hw
def sIx (n d:Nat):Option Int->Nat
 | none=>d
 | some v=>if v < 0 then (v+(n:Int)).toNat else min v.toNat n
theorem sIx_none (n d:Nat):sIx n d none=d:=rfl
theorem sIx_nat (n d k:Nat):sIx n d (some (k:Int))=min k n:=by
 show (if (k:Int) < 0 then ((k:Int)+(n:Int)).toNat else min (k:Int).toNat n)=min k n
 rw[if_neg (by omega),Int.toNat_natCast]
theorem C1 (n d:Nat) (hd:d<=n) (o:Option Int):sIx n d o<=n:=by
 cases o with
 | none=>exact hd
 | some v =>
  show (if v < 0 then (v+(n:Int)).toNat else min v.toNat n)<=n
  by_cases a:v < 0
  .rw[if_pos a];omega
  .rw[if_neg a];exact Nat.min_le_right _ _
theorem uS (v:Int) (n d:Nat):(if v < 0 then max (v+(n:Int)) 0 else min v (n:Int))=((sIx n d (some v):Nat):Int):=by
 show (if v < 0 then max (v+(n:Int)) 0 else min v (n:Int))=(((if v < 0 then (v+(n:Int)).toNat else min v.toNat n):Nat):Int)
 by_cases a:v < 0
 .simp only[if_pos a];omega
 .simp only[if_neg a];omega
theorem tz (lo hi:Option Int) (n:Nat):Builtin.Slice.sliceAdjust lo hi 1 (n:Int)=(((sIx n 0 lo:Nat):Int),((sIx n n hi:Nat):Int)):=by
 have h1:¬ ((1:Int) < 0):=by omega
 unfold Builtin.Slice.sliceAdjust
 simp only[h1,if_false]
 refine Prod.ext ?_ ?_
 .cases lo with
  | none=>rfl
  | some v=>exact uS v n 0
 .cases hi with
  | none=>rfl
  | some v=>exact uS v n n
theorem sy (i j:Nat):Builtin.Slice.slicePlaces (i:Int) (j:Int) 1=j - i:=by
 unfold Builtin.Slice.slicePlaces
 have h1:(1:Int) > 0:=by omega
 simp only[h1,if_true,Int.ediv_one]
 split <;> lia
theorem me (p:IsPart v o) (h:Q o s):wpAny (model prog w) A (Builtin.Slice.slicePartIndex v) Q E s:=by
 cases p with
 | none=>exact slicePart_none h
 | int i t=>exact slicePart_int h
theorem fY {sl:Addr} {c d:Value} {lo hi:Option Int} {n:Nat} (e:s.heap.IsSliceOf sl c d .none) (pl:IsPart c lo) (pu:IsPart d hi) (h:Q (((sIx n 0 lo:Nat):Int),1,sIx n n hi - sIx n 0 lo) s):wpAny (model prog w) A (Builtin.Slice.sliceApplied (.ref sl) (pure (n:Int))) Q E s:=by
 obtain ⟨os,b,f,a⟩:=id e
 unfold Builtin.Slice.sliceApplied Builtin.Slice.sliceFields
 refine E2 (E2 (wpAny_field b a (x:=c) rfl (E2 (wpAny_field b a (x:=d) rfl (E2 (wpAny_field b a (x:=.none) rfl (E3 ?_)))))))
 refine E2 (slicePart_none ?_)
 show wpAny _ _ (if ((1:Int) == 0)=true then _ else _) _ _ s
 rw[if_neg (by decide)]
 refine E2 (me pl (E2 (me pu (E2 (E3 ?_)))))
 show wpAny _ _ (match Builtin.Slice.sliceAdjust lo hi 1 (n:Int) with | (lo,hi)=>pure (lo,(1:Int),Builtin.Slice.slicePlaces lo hi 1)) _ _ s
 rw[tz lo hi n]
 show wpAny _ _ (pure (((sIx n 0 lo:Nat):Int),(1:Int),Builtin.Slice.slicePlaces ((sIx n 0 lo:Nat):Int) ((sIx n n hi:Nat):Int) 1)) _ _ s
 rw[sy]
 exact E3 h
theorem xM (xs:Array Value) (i k:Nat):((List.range k).filterMap λ(m:Nat)=>xs[((i:Int)+(m:Int) * 1).toNat]?).toArray=((xs.toList.drop i).take k).toArray:=by
 have e:(λ(m:Nat)=>xs[((i:Int)+(m:Int) * 1).toNat]?)=λm=>xs[i+m]?:=by
  funext m
  have:((i:Int)+(m:Int) * 1).toNat=i+m:=by omega
  rw[this]
 rw[e]
 have:=pick_run xs i k
 rw[List.filterMap_map] at this
 have a:((λx=>xs[x]?) ∘ λx=>i+x)=λm=>xs[i+m]?:=rfl
 rw[a] at this
 rw[this]
theorem getItem_tuple_cut {lo hi:Option Int} (b:IsTup s.heap t items) (g:s.heap.IsSliceOf sl vl vu .none) (pl:IsPart vl lo) (pu:IsPart vu hi) (hw:¬ (sIx items.size 0 lo=0/\sIx items.size items.size hi=items.size)) (h:Q (.ref s.heap.objs.size) { s with heap:=s.heap.push { cls:=.type "tuple",data:=.seq ((items.toList.drop (sIx items.size 0 lo)).take (sIx items.size items.size hi - sIx items.size 0 lo)).toArray } }) (hsz:items.size<=sizeLine):wpAny (model prog w) A (getItem (.ref t) (.ref sl)) Q E s:=by
 have a:sizeOk (.seq ((items.toList.drop (sIx items.size 0 lo)).take (sIx items.size items.size hi - sIx items.size 0 lo)).toArray):=by
  show ((items.toList.drop (sIx items.size 0 lo)).take (sIx items.size items.size hi - sIx items.size 0 lo)).toArray.size<=sizeLine
  rw[Fu,FF,List.length_drop,Array.length_toList]
  lia
 have j:sIx items.size items.size hi<=items.size:=C1 _ _ (Fq _) hi
 obtain ⟨os,f,e,i⟩:=id g
 have c:s.TypeIs (.ref sl) "slice":=#[os,f,e]
 unfold getItem
 try with_reducible refine E4 ?_
 first | refine E2 (E3 ?_) | skip
 refine E2 (wpAny_sequenceKey b.typeIs (by decide) ?_)
 refine E2 (wpAny_callSpecial?_slot (name:=Str.ofString "__getitem__") b.typeIs PyProof.Rows.slot_tuple_getitem
  (wpAny_call_entry PyProof.Rows.slot_tuple_getitem b.typeIs entry_tuple_getitem ?_ (args_tuple_getitem _ _)))
 show wpAny _ _ (Builtin.Tuple.tupleItemsOf (.ref t) >>= _) _ _ s
 refine E2 (tupleItemsOf_ b ?_)
 refine E2 (wpAny_typeOf c ?_)
 rw[if_pos (by decide)]
 refine E2 (fY g pl pu ?_)
 have d:¬ ((((sIx items.size 0 lo:Nat):Int) == 0 && (1:Int) == 1 && (sIx items.size items.size hi - sIx items.size 0 lo) == items.size)=true):=by
  intro q
  rw[Bool.and_eq_true,Bool.and_eq_true] at q
  have k:((sIx items.size 0 lo:Nat):Int)=0:=eq_of_beq q.1.1
  have l:sIx items.size items.size hi - sIx items.size 0 lo=items.size:=eq_of_beq q.2
  exact hw #[by omega,by omega]
 show wpAny _ _ (if (((sIx items.size 0 lo:Nat):Int) == 0 && (1:Int) == 1 && (sIx items.size items.size hi - sIx items.size 0 lo) == items.size)=true then _ else _) _ _ s
 rw[if_neg d,xM]
 first
  | exact E2 (m:=Builtin.Tuple.tupleExact _) (wpAny_newObj_type (E3 #[_,rfl,E3 h]) a)
  | exact E2 (m:=Builtin.Tuple.tupleExact _) (wpAny_newObj_type (E2 (E3 (E3 #[_,rfl,E3 h]))) a)
  | exact E2 (E2 (m:=Builtin.Tuple.tupleExact _) (wpAny_newObj_type (E3 (E3 #[_,rfl,E3 h])) a))
  | exact E2 (E2 (m:=Builtin.Tuple.tupleExact _) (wpAny_newObj_type (E3 #[_,rfl,E3 h]) a))
end
end HT
namespace L2
open PySem PySem.Spec PyProof.Rows
abbrev TO:=St->Hp->(Option Int->Hp->Prop)->Prop
def PO (X:Cx) (e:Option Expr) (t:TO):Prop :=
 ∀ (pins:List (Addr×Obj)) (s:Shared) (O:St) (H:Hp) (Q:Option Int->Hp->Prop),Inv X pins O H s->t O H Q ->
  wpAny (model X.prog X.w) X.A (evalPart e X.env) (λu s'=>∃ o H',Inv X pins O H' s'/\IsPart u o/\Q o H') X.xe s
def zQ:TO:=λ_ H Q=>Q none H
def tPart (t:TE):TO:=λO H Q=>t O H λx H1=>∃ i,x=.int i/\Q (some i) H1
section
variable {X:Cx} {e:Expr} {te:TE} {lo hi:Option Expr} {tl th:TO} {pos p2:Pos}
theorem AL:PO X none zQ:=by
 intro pins s O H Q I h
 rw[evalPart_none]
 exact E3 #[none,H,I,.none,h]
theorem AK (h:PE X e te):PO X (some e) (tPart te):=by
 intro pins s O H Q I hw
 rw[evalPart_some]
 refine thn (h pins s O H _ I hw) λu s1 #[x,H1,b,c,a]=>?_
 obtain ⟨i,rfl,q⟩:=a
 obtain ⟨t,rfl⟩:=c
 exact #[some i,H1,b,.int i t,q]
def SlR (X:Cx) (r:V->Option Int->Option Int->Hp->VK->Prop):Prop :=
 ∀ (pins:List (Addr×Obj)) (s:Shared) (O:St) (H:Hp) (x:V) (v a b:Value) (lo hi:Option Int) (sl:Addr) (Q:VK),Inv X pins O H s->RelV x v->s.heap.IsSliceOf sl a b .none->IsPart a lo->IsPart b hi->r x lo hi H Q ->
  ∃ T id,typeLookup (.type T) "__getitem__"=pure (some (.builtin id))/\s.TypeIs v T/\wpAny (model X.prog X.w) X.A (getItem v (.ref sl)) (EP X pins O Q) X.xe s
theorem SlR.or (h:SlR X r) (h':SlR X r'):SlR X (λx lo hi H Q=>r x lo hi H Q\/r' x lo hi H Q):=by
 intro pins s O H x v a b lo hi sl Q I c d pl pu q
 rcases q with q | q
 .exact h pins s O H x v a b lo hi sl Q I c d pl pu q
 .exact h' pins s O H x v a b lo hi sl Q I c d pl pu q
def tSl (r:V->Option Int->Option Int->Hp->VK->Prop) (te:TE) (tl th:TO):TE:=λO H Q=>te O H λx H1=>tl O H1 λl H2=>th O H2 λu a=>r x l u a Q
theorem xO (o:SlR X r) (he:PE X e te) (hl:PO X lo tl) (hu:PO X hi th):PE X (.Subscript e (.Slice lo hi none p2) pos) (tSl r te tl th):=by
 intro pins s O H Q I h
 refine Subscript_ (thn (he pins s O H _ I h) λv s1 #[x,H1,g,n,f]=>?_)
 refine wpAny_Slice (thn (hl pins s1 O H1 _ g f) λa s2 #[l,H2,t,pl,k]=>thn (hu pins s2 O H2 _ t k) λc s3 #[u,d,j,pu,i]=>?_)
 rw[evalPart_none]
 refine E3 ?_
 have p:Inv X pins O d { s3 with heap:=s3.heap.push { cls:=.type "slice",data:=.fields (List.toArray [a,c,.none]) } }:=j.kept (t':=s3.toks) λb ob q=>E7 _ q
 obtain ⟨T,id,hT,m,hg⟩:=o pins { s3 with heap:=s3.heap.push { cls:=.type "slice",data:=.fields (List.toArray [a,c,.none]) } } O d x v a c l u s3.heap.objs.size Q p n (Heap.IsSliceOf.new ..) pl pu i
 show wpAny (model X.prog X.w) X.A (subscriptTail e (.Slice lo hi none p2) v (.ref s3.heap.objs.size)) (EP X pins O Q) X.xe { s3 with heap:=s3.heap.push { cls:=.type "slice",data:=.fields (List.toArray [a,c,.none]) } }
 exact tail_any (ops:=[.ref s3.heap.objs.size,v]) m hT hg (by with_unfolding_all rfl)
def re (xs:List V) (lo hi:Option Int):List V:=(xs.drop (HT.sIx xs.length 0 lo)).take (HT.sIx xs.length xs.length hi - HT.sIx xs.length 0 lo)
theorem lz (xs:List V) (lo hi:Option Int):(re xs lo hi).length<=xs.length:=by
 unfold re
 rw[FF,List.length_drop]
 lia
def Ds (K:FG):V->Option Int->Option Int->Hp->VK->Prop:=λx lo hi H Q=>∃ a xs,x=.ref a/\SqT K H a xs /\
 ¬ (HT.sIx xs.length 0 lo=0/\HT.sIx xs.length xs.length hi=xs.length)/\∀ p,H p=none->Q (.ref p) (upd H p (.tup (re xs lo hi)))
theorem sl_tup:SlR X (Ds X.K):=by
 intro pins s O H x v g i lo hi sl Q I e f pl pu h
 obtain ⟨a,xs,rfl,d,hw,q⟩:=h
 cases e
 obtain ⟨its,r,c,hz⟩:=I.tuple d
 have hlen:its.toArray.size=xs.length:=by rw[Fu];exact r.length.symm
 refine #["tuple",_,PyProof.Rows.slot_tuple_getitem.lookup,c.typeIs,?_]
 refine HT.getItem_tuple_cut c f pl pu (by rw[hlen];exact hw) ?_ (by rw[hlen];exact hz)
 rw[hlen]
 refine #[.ref s.heap.objs.size,_,I.laid (t':=s.toks) (o:=.tup (re xs lo hi)) (λb ob q=>E7 _ q) (Fq _) ?_,rfl,q _ (I.hok.fresh (Fq _))]
 exact #[FR (lz xs lo hi) hz,_,(r.drop (HT.sIx xs.length 0 lo)).take (HT.sIx xs.length xs.length hi - HT.sIx xs.length 0 lo),IsTupD.new _ _]
def ua (K:FG):R2:=λx y H Q=>∃ a b xs ys,x=.ref a/\y=.ref b/\SqT K H a xs/\SqT K H b ys/\xs≠[]/\xs.length+ys.length<=sizeLine /\
 (ys=[]->Q (.ref a) H)/\(ys≠[]->∀ p,H p=none->Q (.ref p) (upd H p (.tup (xs++ys))))
theorem Vals.nil_iff (r:Vals xs us):us=[] ↔ xs=[]:=by
 cases r with
 | nil=>simp
 | cons _ _=>simp
theorem op_catT:OpR X (binaryOp .Add) (ua X.K):=by
 intro pins s O H x y v u Q I j l h
 obtain ⟨a,b,xs,ys,rfl,rfl,k,m,i,hz,f,n⟩:=h
 cases j
 cases l
 obtain ⟨its,d,g,_⟩:=I.tuple k
 obtain ⟨e,c,p2,_⟩:=I.tuple m
 refine HT.cat_tup g p2 (λz=>i (d.nil_iff.mp z)) (λz=>#[.ref a,H,I,rfl,f (c.nil_iff.mp z)]) (λz=>?_) (by rw[<- d.length,<- c.length];exact hz)
 refine #[.ref s.heap.objs.size,_,I.laid (t':=s.toks) (o:=.tup (xs++ys)) (λb ob q=>E7 _ q) (Fq _) ?_,rfl,n (λw=>z (c.nil_iff.mpr w)) _ (I.hok.fresh (Fq _))]
 exact #[by rw[FD];exact hz,_,d.append c,IsTupD.new _ _]
end
end L2
namespace L2
open PySem PySem.Spec PyProof.Rows
def ixN (n:Nat) (i:Int):Option Nat:=if 0<=i then (if i < n then some i.toNat else none) else if -(n:Int)<=i then some (i+n).toNat else none
def atI {α:Type} (xs:List α) (i:Int):Option α:=(ixN xs.length i).bind λj=>xs[j]?
theorem ut {n:Nat} {i:Int} {j:Nat} (h:ixN n i=some j):seqIndex? i n=some j/\j < n/\-(n:Int)<=i/\i < n:=by
 unfold ixN at h
 by_cases h0:0<=i
 .rw[if_pos h0] at h
  by_cases h1:i < n
  .rw[if_pos h1] at h
   have e:i.toNat=j:=FY h
   exact #[by rw[seqIndex_of h0 h1,e],by omega,by omega,h1]
  .rw[if_neg h1] at h;cases h
 .rw[if_neg h0] at h
  by_cases h1:-(n:Int)<=i
  .rw[if_pos h1] at h
   have e:(i+n).toNat=j:=FY h
   exact #[by rw[seqIndex_neg (by omega) h1,e],by omega,h1,by omega]
  .rw[if_neg h1] at h;cases h
theorem pH {i:Int} (h:atI xs i=some v):∃ j,seqIndex? i xs.length=some j/\xs[j]?=some v/\j < xs.length/\-(xs.length:Int)<=i/\i < xs.length:=by
 unfold atI at h
 cases e:ixN xs.length i with
 | none=>rw[e] at h;cases h
 | some j =>
  rw[e] at h
  obtain ⟨h1,h2,h3,a⟩:=ut e
  exact #[j,h1,h,h2,h3,a]
def uZ (b:Expr):Prop:=∀ o i,subscripted b false o i=operate [o,i] (getItem o i)
def IxR (X:Cx) (r:R2):Prop :=
 ∀ (value slice:Expr) (pins:List (Addr×Obj)) (s:Shared) (O:St) (H:Hp) (x y:V) (v u:Value) (Q:VK),Inv X pins O H s->RelV x v->RelV y u->r x y H Q ->
  subscripted slice false v u=operate [v,u] (getItem v u)->wpAny (model X.prog X.w) X.A (subscriptTail value slice v u) (EP X pins O Q) X.xe s
def MtR (X:Cx) (id:String) (r:V->List V->Hp->VK->Prop):Prop :=
 ∀ (pins:List (Addr×Obj)) (s:Shared) (O:St) (H:Hp) (x:V) (xs:List V) (v:Value) (us:List Value) (Q:VK),Inv X pins O H s->RelV x v->Vals xs us->r x xs H Q ->
  wpAny (model X.prog X.w) X.A (call (.builtin id) (v::us)) (EP X pins O Q) X.xe s
section
variable {X:Cx} {a b:Expr} {ta tb:TE} {pos:Pos}
theorem IxR.or (h:IxR X r) (h':IxR X r'):IxR X (λx y H Q=>r x y H Q\/r' x y H Q):=by
 intro value slice pins s O H x y v u Q I a c q b
 rcases q with q | q
 .exact h value slice pins s O H x y v u Q I a c q b
 .exact h' value slice pins s O H x y v u Q I a c q b
theorem pe_ix (c:IxR X r) (e:PE X a ta) (i:PE X b tb) (f:uZ b):PE X (.Subscript a b pos) (tOp r ta tb):=by
 intro pins s O H Q I h
 exact Subscript_ (EW e i I h λv u s2 x y H2 j d g q=>c a b pins s2 O H2 x y v u Q j d g q (f _ _))
def si (K:FG):R2:=λx y H Q=>∃ p xs i v,x=.ref p/\y=.int i/\SqL K H p xs/\atI xs i=some v/\Q v H
def xB (K:FG):R2:=λx y H Q=>∃ p xs i v,x=.ref p/\y=.int i/\SqT K H p xs/\atI xs i=some v/\Q v H
theorem ix_list:IxR X (si X.K):=by
 intro value slice pins s O H x y v u Q I g k h c
 obtain ⟨p,xs,i,z,rfl,rfl,f,he,q⟩:=h
 cases g
 obtain ⟨t,rfl⟩:=k
 obtain ⟨its,r,pl,hz⟩:=I.list f
 obtain ⟨j,h1,h2,h3,e,d⟩:=pH he
 obtain ⟨w,b,rw'⟩:=r.get h2
 have hl:=r.length
 have hn:=mN
 have fin:EP X pins O Q w s:=#[z,H,I,rw',q]
 by_cases h0:0<=i
 .have a:i.toNat=j:=by
   rw[seqIndex_of h0 d] at h1
   exact FY h1
  exact item_listR pl.isList h0 (by omega) (by rw[a];simpa using b) fin c
 .have a:(i+(its.toArray.size:Int)).toNat=j:=by
   rw[seqIndex_neg (by omega) e] at h1
   rw[Fu,<- hl]
   exact FY h1
  exact subscriptTail_builtinR (x:=w) pl.isList.typeIs slot_list_getitem.lookup
   (wpAny_getItem_list_neg (Q:=λr s'=>r=w/\EP X pins O Q r s') pl.isList (by omega) (by rw[Fu] <;> omega) (by omega) (by rw[a];simpa using b) #[rfl,fin]) c
theorem Eu:IxR X (xB X.K):=by
 intro value slice pins s O H x y v u Q I c e h d
 obtain ⟨p,xs,i,z,rfl,rfl,b,he,q⟩:=h
 cases c
 obtain ⟨t,rfl⟩:=e
 obtain ⟨its,r,pl,hz⟩:=I.tuple b
 obtain ⟨j,h1,h2,h3,g,f⟩:=pH he
 obtain ⟨w,a,rw'⟩:=r.get h2
 have hl:=r.length
 have hn:=mN
 have fin:EP X pins O Q w s:=#[z,H,I,rw',q]
 exact subscriptTail_builtinR (x:=w) pl.typeIs slot_tuple_getitem.lookup
  (getItem_tuple (j:=j) (Q:=λr s'=>r=w/\EP X pins O Q r s') pl (by omega) (by omega) (by rw[Fu,<- hl];exact h1) (by simpa using a) #[rfl,fin]) d
theorem sE (its:List Value) (n j:Nat) (u:Value):Obj.mapSeq (·.setIfInBounds j u) { cls:=.type "list",data:=.seq its.toArray n }={ cls:=.type "list",data:=.seq (its.set j u).toArray n }:=by
 simp[Obj.mapSeq]
theorem Inv.lst {pins:List (Addr×Obj)} {O:St} {H:Hp} {s:Shared} {p:Addr} {xs:List V} (I:Inv X pins O H s) (h:H p=some (.lst xs)) :
  ∃ (its:List Value) (n:Nat),Vals xs its/\s.heap.get? p=some { cls:=.type "list",data:=.seq its.toArray n }/\xs.length<=sizeLine:=by
 obtain ⟨z,its,n,r,e⟩:=I.hok p _ h
 exact #[its,n,r,e,z]
theorem Inv.lstUpd {its its':List Value} {n a:Nat} (I:Inv X pins O H s) (h:H p=some (.lst xs)) (c:s.heap.get? p=some { cls:=.type "list",data:=.seq its.toArray n }) (hf:f { cls:=.type "list",data:=.seq its.toArray n }={ cls:=.type "list",data:=.seq its'.toArray a }) (r:Vals ys its') (hz:ys.length<=sizeLine) (t:Nat) :
  Inv X pins O (upd H p (.lst ys)) { s with heap:=s.heap.update p f,toks:=t }:=by
 have e:(s.heap.update p f).get? p=some { cls:=.type "list",data:=.seq its'.toArray a }:=by
  rw[FC f c (by rw[hf] <;> rfl),hf]
 refine I.write (x:=p) (e:=p) (by rw[h];trivial) (.inl rfl) (λb u d q=>(FO _ _ (Ne.symm d)).trans q) #[_,e] ?_
 exact #[hz,its',a,r,e]
def qj:V->V->V->Hp->(Hp->Prop)->Prop:=λo i v H Q=>∃ p xs k j,o=.ref p/\i=.int k/\H p=some (.lst xs)/\ixN xs.length k=some j/\Q (upd H p (.lst (xs.set j v)))
theorem pZ:wA X qj:=by
 intro pins s O H o i v w x u Q I m l g h
 obtain ⟨p,xs,k,j,rfl,rfl,d,f,q⟩:=h
 cases m
 obtain ⟨t,rfl⟩:=l
 obtain ⟨its,n,r,a,hz⟩:=I.lst d
 obtain ⟨h1,h2,h3,e⟩:=ut f
 have hl:=r.length
 have hn:=mN
 have c:Inv X pins O (upd H p (.lst (xs.set j v))) { s with heap:=s.heap.update p (Obj.mapSeq (·.setIfInBounds j u)) } :=
  I.lstUpd d a (sE its n j u) (r.set g j) (by rw[List.length_set];exact hz) s.toks
 by_cases h0:0<=k
 .have b:k.toNat=j:=by
   rw[seqIndex_of h0 e] at h1
   exact FY h1
  exact PySem.W.ki_setAt a h0 (by omega) (by rw[Fu,<- hl];exact e) (by rw[b];exact #[_,c,q])
 .have b:(k+(its.toArray.size:Int)).toNat=j:=by
   rw[seqIndex_neg (by omega) h3] at h1
   rw[Fu,<- hl]
   exact FY h1
  exact PySem.W.ki_setBack a (by omega) (by rw[Fu,<- hl];exact h3) (by omega) (by rw[b];exact #[_,c,q])
theorem oK (lo hi:Option Int) (n:Nat):(sliceBounds lo hi none n).1=((HT.sIx n 0 lo:Nat):Int)/\(sliceBounds lo hi none n).2.1=((HT.sIx n n hi:Nat):Int)/\(sliceBounds lo hi none n).2.2=1:=by
 refine #[?_,?_,rfl]
 .cases lo with
  | none=>simp[sliceBounds,HT.sIx]
  | some i =>
   simp only[sliceBounds,HT.sIx,Option.getD_none,show (1:Int) > 0 by decide,if_true]
   by_cases h:i < 0
   .simp only[h,if_true] <;> omega
   .simp only[h,if_false] <;> omega
 .cases hi with
  | none=>simp[sliceBounds,HT.sIx]
  | some i =>
   simp only[sliceBounds,HT.sIx,Option.getD_none,show (1:Int) > 0 by decide,if_true]
   by_cases h:i < 0
   .simp only[h,if_true] <;> omega
   .simp only[h,if_false] <;> omega
theorem nh (its:List Value) (lo hi:Option Int):slicePick its.toArray lo hi none=((its.drop (HT.sIx its.length 0 lo)).take (HT.sIx its.length its.length hi - HT.sIx its.length 0 lo)).toArray:=by
 obtain ⟨h1,h2,h3⟩:=oK lo hi its.toArray.size
 unfold slicePick
 rw[h1,h2,h3]
 simp only[sliceRange_one,pick_run,Fu] <;> rfl
def Dt (K:FG):V->Option Int->Option Int->Hp->VK->Prop:=λx lo hi H Q=>∃ a xs,x=.ref a/\SqL K H a xs/\∀ p,H p=none->Q (.ref p) (upd H p (.lst (re xs lo hi)))
theorem sl_list:SlR X (Dt X.K):=by
 intro pins s O H x v g i lo hi sl Q I e f pl pu h
 obtain ⟨a,xs,rfl,d,q⟩:=h
 cases e
 obtain ⟨its,r,c,hz⟩:=I.list d
 have hlen:=r.length
 refine #["list",_,slot_list_getitem.lookup,c.isList.typeIs,?_]
 refine wpAny_getItem_list_slice c.isList f pl pu .none (by simp) ?_ (by rw[Fu] <;> omega)
 rw[nh,<- hlen]
 refine #[.ref s.heap.objs.size,_,I.laid (t':=s.toks) (o:=.lst (re xs lo hi)) (λb ob q=>E7 _ q) (Fq _) ?_,rfl,q _ (I.hok.fresh (Fq _))]
 exact #[FR (lz xs lo hi) hz,_,0,(r.drop (HT.sIx xs.length 0 lo)).take (HT.sIx xs.length xs.length hi - HT.sIx xs.length 0 lo),Fg _ rfl]
def jB:V->Bool
 | .non=>true
 | .bl _=>true
 | .int _=>true
 | .str _=>true
 | _=>false
def eqV:V->V->Bool
 | .non,.non=>true
 | .bl a,.bl b=>a == b
 | .bl a,.int b=>(if a then 1 else 0) == b
 | .int a,.bl b=>a == (if b then 1 else 0)
 | .int a,.int b=>a == b
 | .str a,.str b=>a == b
 | _,_=>false
theorem EG (d:RelV y u) (c:RelV x v) (e:jB y=true) (fx:jB x=true):SeqAt.EqAt A s u v (eqV y x):=by
 cases y with
 | non =>
  cases d
  cases x with
  | non=>cases c;exact SeqAt.EqAt.same _
  | bl b=>cases c;exact SeqAt.EqAt.none_bool b
  | int b=>obtain ⟨t,rfl⟩:=c;exact SeqAt.EqAt.none_int b t
  | str b=>obtain ⟨t,rfl⟩:=c;exact SeqAt.EqAt.none_str b t
  | _=>exact absurd (show false=true from fx) Fs
 | bl a =>
  cases d
  cases x with
  | non=>cases c;exact SeqAt.EqAt.bool_none a
  | bl b=>cases c;exact SeqAt.EqAt.bool_bool a b
  | int b=>obtain ⟨t,rfl⟩:=c;exact SeqAt.EqAt.bool_int a b t
  | str b=>obtain ⟨t,rfl⟩:=c;exact SeqAt.EqAt.bool_str a b t
  | _=>exact absurd (show false=true from fx) Fs
 | int a =>
  obtain ⟨t',rfl⟩:=d
  cases x with
  | non=>cases c;exact SeqAt.EqAt.int_none a t'
  | bl b=>cases c;exact SeqAt.EqAt.int_bool a t' b
  | int b=>obtain ⟨t,rfl⟩:=c;exact SeqAt.EqAt.int_int a t' b t
  | str b=>obtain ⟨t,rfl⟩:=c;exact SeqAt.EqAt.int_str a t' b t
  | _=>exact absurd (show false=true from fx) Fs
 | str a =>
  obtain ⟨t',rfl⟩:=d
  cases x with
  | non=>cases c;exact SeqAt.EqAt.str_none a t'
  | bl b=>cases c;exact SeqAt.EqAt.str_bool a t' b
  | int b=>obtain ⟨t,rfl⟩:=c;exact SeqAt.EqAt.str_int a t' b t
  | str b=>obtain ⟨t,rfl⟩:=c;exact SeqAt.EqAt.str_str a t' b t
  | _=>exact absurd (show false=true from fx) Fs
 | _=>exact absurd (show false=true from e) Fs
def eqU (x:V) (u:Value):Bool:=match u with
 | .none=>eqV .non x
 | .bool b=>eqV (.bl b) x
 | .int i _=>eqV (.int i) x
 | .str z _=>eqV (.str z) x
 | _=>false
theorem yX (r:RelV y u) (f:jB y=true):eqU x u=eqV y x:=by
 cases y with
 | non=>cases r;rfl
 | bl b=>cases r;rfl
 | int i=>obtain ⟨t,rfl⟩:=r;rfl
 | str z=>obtain ⟨t,rfl⟩:=r;rfl
 | _=>exact absurd (show false=true from f) Fs
theorem pI:∀ {xs:List V} {us:List Value},Vals xs us->xs.all jB=true->us.any (eqU x)=xs.any λy=>eqV y x
 | _,_,.nil,_=>rfl
 | y::xs,u::us,.cons r t,f=>by
  rw[List.all_cons,Bool.and_eq_true] at f
  rw[List.any_cons,List.any_cons,yX r f.1,pI t f.2]
theorem mH (a:RelV x v) (fx:jB x=true):∀ {xs:List V} {us:List Value},Vals xs us->xs.all jB=true->∀ u∈us,SeqAt.EqAt A s u v (eqU x u)
 | _,_,.nil,_=>λu hu=>by cases hu
 | y::xs,u::us,.cons r t,f=>λb hu=>by
  rw[List.all_cons,Bool.and_eq_true] at f
  rcases Fc.mp hu with rfl | hu
  .rw[yX r f.1];exact EG r a f.1 fx
  .exact mH a fx t f.2 b hu
def inV (x:V) (xs:List V):Bool:=xs.any λy=>eqV y x
def rIn (K:FG) (neg:Bool):R2:=λx y H Q=>∃ p xs,y=.ref p/\(SqL K H p xs\/SqT K H p xs)/\jB x=true/\xs.all jB=true/\Q (.bl (if neg then !inV x xs else inV x xs)) H
theorem oZ:OpR X (compareOp .NotIn) (rIn X.K true):=by
 intro pins s O H x y v u Q I b c h
 obtain ⟨p,xs,rfl,a,fx,fs,q⟩:=h
 cases c
 rcases a with a | a
 .obtain ⟨its,r,pl,hz⟩:=I.list a
  refine SeqAt.notIn_listAt (eqU x) pl.isList (λw hw=>mH b fx r fs w (by simpa using hw)) #[.bl _,H,I,rfl,?_]
  rw[show its.toArray.any (eqU x)=its.any (eqU x) by simp,pI r fs]
  exact q
 .obtain ⟨its,r,pl,hz⟩:=I.tuple a
  refine SeqAt.notIn_tupleAt (eqU x) pl (λw hw=>mH b fx r fs w (by simpa using hw)) #[.bl _,H,I,rfl,?_]
  rw[show its.toArray.any (eqU x)=its.any (eqU x) by simp,pI r fs]
  exact q
theorem pw:dU X (.builtin "len") (λxs H Q=>∃ p ys,xs=[.ref p]/\(SqL X.K H p ys\/SqT X.K H p ys)/\Q (.int ys.length) H):=by
 intro pins s O H xs us Q I r h
 obtain ⟨p,ys,rfl,a,q⟩:=h
 obtain ⟨u,rfl,c⟩:=jP r
 cases c
 have hn:=mN
 rcases a with a | a
 .obtain ⟨its,b,pl,hz⟩:=I.list a
  have hlen:=b.length
  exact Calls.call_len_list pl.isList (by simp only[Fu] <;> omega) #[.int ys.length,H,I.tok _,#[s.toks+1,by rw[Fu,hlen]],q]
 .obtain ⟨its,b,pl,hz⟩:=I.tuple a
  have hlen:=b.length
  exact len_tuple pl (by simp only[Fu] <;> omega) #[.int ys.length,H,I.tok _,#[s.toks+1,by rw[Fu,hlen]],q]
theorem nC:dU X (.type "tuple") (λxs H Q=>∃ p ys,xs=[.ref p]/\((SqL X.K H p ys/\∀ l,H l=none->Q (.ref l) (upd H l (.tup ys)))\/(SqT X.K H p ys/\Q (.ref p) H))):=by
 intro pins s O H xs us Q I r h
 obtain ⟨p,ys,rfl,h⟩:=h
 obtain ⟨u,rfl,g⟩:=jP r
 cases g
 rcases h with ⟨a,q⟩ | ⟨a,q⟩
 .obtain ⟨its,c,pl,hz⟩:=I.list a
  have hlen:=c.length
  refine call_tuple_list pl.isList (λh' kp=>?_) (by simp only[Fu] <;> omega)
  have d:Inv X pins O H { s with heap:=h' }:=I.kept (t':=s.toks) kp
  have f:Inv X pins O (upd H h'.objs.size (.tup ys)) { s with heap:=h'.push { cls:=.type "tuple",data:=.seq its.toArray } } :=
   d.laid (t':=s.toks) (λb o e=>E7 _ e) (Fq _) (show ObjOk X.prog X.w _ _ _ (.tup ys) from #[hz,its,c,IsTupD.new _ _])
  exact #[.ref h'.objs.size,_,f,rfl,q _ (d.hok.fresh (Fq _))]
 .obtain ⟨its,c,pl,hz⟩:=I.tuple a
  exact call_tuple_same pl #[.ref p,H,I,rfl,q]
def tyV (K:FG) (T:String) (x:V) (H:Hp):Prop:=match x with
 | .str _=>T="str"
 | .int _=>T="int"
 | .ref p=>(T="list"/\∃ xs,SqL K H p xs)\/(T="tuple"/\((∃ o,K.lookup p=some o/\o.cls=.type "tuple"/\o.dict=none)\/∃ xs,H p=some (.tup xs))) \/
   (T="dict"/\((∃ a,H p=some (.dK a))\/∃ a n,H p=some (.dT a n)))\/(T="set"/\∃ S n,H p=some (.set S n))
 | _=>False
theorem Cw (I:Inv X pins O H s) (r:RelV x v) (ty:tyV X.K T x H) :
  s.TypeIs v T/\∀ a,v=.ref a->∃ ob,s.heap.get? a=some ob/\ob.dict=none:=by
 cases x with
 | str z =>
  obtain ⟨t,rfl⟩:=r
  cases (show T="str" from ty)
  exact #[typeIs_str s z t,λ_ e=>nomatch e]
 | int i =>
  obtain ⟨t,rfl⟩:=r
  cases (show T="int" from ty)
  exact #[typeIs_int s i t,λ_ e=>nomatch e]
 | ref p =>
  cases r
  rcases ty with ⟨rfl,xs,j⟩ | ⟨rfl,⟨o,b,k,hd⟩ | ⟨xs,h⟩⟩ | ⟨rfl,b⟩ | ⟨rfl,S,n,b⟩
  .obtain ⟨its,_,pl,_⟩:=I.list j
   refine #[pl.isList.typeIs,λa e=>?_]
   cases e
   obtain ⟨o,n,e,c,hd,_⟩:=pl
   exact #[o,e,hd]
  .refine #[#[o,I.kIn p o b,k],λa e=>?_]
   cases e
   exact #[o,I.kIn _ o b,hd]
  .obtain ⟨_,its,_,o,e,c,n,d⟩:=I.hok p _ h
   refine #[#[o,e,c],λa f=>?_]
   cases f
   exact #[o,e,congrArg Prod.snd d]
  .have z:∃ o,s.heap.get? p=some o/\o.ExactDict:=by
    rcases b with ⟨g,b⟩ | ⟨g,n,b⟩
    .obtain ⟨_,_,_,_,o,_,_,e,ex,_⟩:=I.hok p _ b
     exact #[o,e,ex]
    .obtain ⟨_,_,_,_,o,_,_,e,ex,_⟩:=I.hok p _ b
     exact #[o,e,ex]
   obtain ⟨o,e,ex⟩:=z
   refine #[#[o,e,ex.1],λa f=>?_]
   cases f
   exact #[o,e,ex.2.1]
  .obtain ⟨o,_,_,_,e,ex,_⟩:=I.hok p _ b
   refine #[#[o,e,ex.1],λa f=>?_]
   cases f
   exact #[o,e,ex.2.1]
 | _=>exact False.elim ty
def tBM (K:FG) (T:String) (r:V->List V->Hp->VK->Prop) (to:TE) (t:TA):TE:=λO H Q=>to O H λx H1=>tyV K T x H1/\t O H1 λxs H2=>r x xs H2 Q
variable {o e:Expr} {es:List Expr} {to:TE} {t:TA} {name:Str} {apos cpos:Pos} {T id:String} {r:V->List V->Hp->VK->Prop}
theorem pe_bm (u:PlainAttrs T) (slot:Slot T name id) (f:typeOf (.builtin id)=pure (.type "method_descriptor")) (hm:MtR X id r) (m:PE X o to) (n:PA X (e::es) t)
  (b:attributeBase o name X.env (eval o X.env)=eval o X.env:=by rfl)
  (d:((backTo cpos (starEach (e::es) X.env)).all (λx=>!x.1) && (backToKw cpos (keywordEach [] X.env)).all (λx=>x.1.isSome)
   && decide ((e::es).length+([]:List Keyword).length+(if ([]:List Keyword).isEmpty then 0 else 1) < 30))=true:=by rfl)
  (c:(apos.endLine == cpos.line)=true:=by rfl) (p:starEach (e::es) X.env=(false,eval e X.env)::starEach es X.env:=by rfl) (a:(backTo cpos (starEach es X.env)).any (·.1)=false:=by rfl) :
  PE X (.Call (.Attribute o name apos) (e::es) [] cpos) (tBM X.K T r to t):=by
 intro pins s O H Q I h
 refine wpAny_Call_method_late b d c rfl (thn (m pins s O H _ I h) λv s1 #[x,H1,g,i,ty,j]=>?_)
 obtain ⟨h1,h2⟩:=Cw g i ty
 refine #[T,id,u,slot,f,h1,h2,?_]
 have hA:=n cpos pins s1 O H1 _ g j
 rw[p] at hA ⊢
 refine Calls.callWith_builtin (by show (false || (backTo cpos (starEach es X.env)).any (·.1))=false;rw[a] <;> rfl) (Calls.evalArgs_plain ?_)
 exact thn hA λus s2 #[vs,H2,l,k,q]=>hm pins s2 O H2 x vs v us Q l i k q
end
end L2
namespace L2
open PySem PySem.Spec PyProof.Rows
def MtM (X:Cx) (id:String) (r:V->List V->Hp->VK->Prop):Prop :=
 ∀ (pins:List (Addr×Obj)) (s:Shared) (O:St) (H:Hp) (x:V) (xs:List V) (v:Value) (us:List Value) (Q:VK),Inv X pins O H s->RelV x v->Vals xs us->r x xs H Q ->
  wpAny (model X.prog X.w) X.A (call (.builtin id) (v::us)) (EP X pins O Q) X.xe s
theorem Vals.one (h:Vals [x] us):∃ u,us=[u]/\RelV x u:=by
 cases h with | cons r t=>cases t;exact #[_,rfl,r]
theorem Vals.rep (h:Vals xs us):∀ k:Nat,Vals (List.replicate k xs).flatten (List.replicate k us).flatten
 | 0=>.nil
 | k+1=>by
  rw[List.replicate_succ,List.replicate_succ,List.flatten_cons,List.flatten_cons]
  exact Vals.append h (Vals.rep h k)
theorem om (its:List Value):∀ (k:Nat) (acc:List Value),
  List.foldl (λa c=>a++c) acc.toArray (List.replicate k its.toArray)=(acc++(List.replicate k its).flatten).toArray
 | 0,acc=>by simp
 | k+1,acc=>by
  have e:acc.toArray++its.toArray=(acc++its).toArray:=by simp
  have b:(acc++its)++(List.replicate k its).flatten=acc++(List.replicate (k+1) its).flatten:=by
   rw[List.replicate_succ,List.flatten_cons,List.append_assoc]
  rw[<- b,<- om its k (acc++its),<- e,List.replicate_succ,List.foldl_cons]
section
variable {X:Cx} {pins:List (Addr×Obj)} {O:St} {H:Hp} {s:Shared} {l b:Addr} {xs ys zs:List V}
theorem Inv.lset {its its':List Value} {n:Nat} {t':Nat} (I:Inv X pins O H s) (hH:H l=some (.lst xs)) (e:s.heap.get? l=some { cls:=.type "list",data:=.seq its.toArray n }) (hf:f its.toArray=its'.toArray) (a:Vals ys its') (hz:ys.length<=sizeLine) :
  Inv X pins O (upd H l (.lst ys)) { s with heap:=s.heap.update l (Obj.mapSeq f),toks:=t' }:=by
 have q:=PySem.IsL.update e f
 rw[hf] at q
 refine I.write (x:=l) (e:=l) (by rw[hH];exact trivial) (.inl rfl) (λc u b hu=>(FO s.heap (Obj.mapSeq f) (Ne.symm b)).trans hu) #[_,q] ?_
 exact #[hz,its',_,a,q]
theorem Inv.lnew {t':Nat} (I:Inv X pins O H s) (a:Vals ys its) (hz:ys.length<=sizeLine) :
  Inv X pins O (upd H s.heap.objs.size (.lst ys)) { s with heap:=s.heap.push { cls:=.type "list",data:=.seq its.toArray },toks:=t' } :=
 I.laid (λ_ _ q=>E7 _ q) (Fq _) #[hz,its,0,a,Fg _ rfl]
theorem Inv.fresh (I:Inv X pins O H s):H s.heap.objs.size=none:=I.hok.fresh (Fq _)
theorem Inv.lstM (I:Inv X pins O H s) (hH:H l=some (.lst xs)):xs.length<=sizeLine/\∃ (its:List Value) (n:Nat),Vals xs its/\xs.length=its.length/\s.heap.get? l=some { cls:=.type "list",data:=.seq its.toArray n }:=by
 obtain ⟨z,its,n,r,e⟩:=I.hok l _ hH
 exact #[z,its,n,r,r.length,e]
theorem qx {n:Nat} (h:n<=sizeLine):Builtin.List.listTooLong n=false:=by
 unfold Builtin.List.listTooLong
 exact Fy (by omega)
end
section
variable {X:Cx}
def ub:V->List V->Hp->VK->Prop:=λx vs H Q=>∃ l xs y,x=.ref l/\vs=[y]/\H l=some (.lst xs)/\xs.length < sizeLine/\Q .non (upd H l (.lst (xs++[y])))
theorem vE:MtM X "list.append" ub:=by
 intro pins s O H x vs v us Q I b a h
 obtain ⟨l,xs,y,rfl,rfl,hH,hz,q⟩:=h
 cases b
 obtain ⟨u,rfl,c⟩:=a.one
 obtain ⟨z,its,n,r,hl,e⟩:=I.lstM hH
 refine call_meets F.slot_list_append #[_,e,rfl] F.entry_list_append (F.args_list_append_2 _ _) (PySem.list_append l its.toArray n u (by rw[Fu];omega)) #[e,?_]
 refine #[.non,_,I.lset (its':=its++[u]) hH e (by simp) (r.append (.cons c .nil)) ?_,rfl,q]
 rw[FD,List.length_singleton]
 lia
def t8:V->List V->Hp->VK->Prop:=λx vs H Q=>∃ l b xs zs,x=.ref l/\vs=[.ref b]/\H l=some (.lst xs)/\H b=some (.lst zs)/\xs.length+zs.length<=sizeLine/\Q .non (upd H l (.lst (xs++zs)))
theorem vD:MtM X "list.extend" t8:=by
 intro pins s O H x vs v us Q I m f h
 obtain ⟨l,b,xs,zs,rfl,rfl,hH,g,hz,q⟩:=h
 cases m
 obtain ⟨u,rfl,o⟩:=f.one
 cases o
 obtain ⟨z,its,n,r,hl,e⟩:=I.lstM hH
 obtain ⟨p,a,j,i,d,k⟩:=I.lstM g
 have hsz:its.toArray.size+a.toArray.size<=sizeLine:=by rw[Fu,Fu];omega
 have c:¬ (!its.toArray.isEmpty && Builtin.List.listTooLong (its.toArray.size+a.toArray.size))=true:=by
  rw[qx hsz,Bool.and_false]
  exact Fs
 refine call_meets F.slot_list_extend #[_,e,rfl] F.entry_list_extend (F.args_list_extend_2 _ _)
  (AutoSeq1.list_extend_list_list_0 l its.toArray n b a.toArray j c (by rw[Fu];omega) (by omega)) #[e,k,?_]
 refine #[.non,_,I.lset (its':=its++a) hH e (by simp) (r.append i) ?_,rfl,q]
 rw[FD]
 lia
def Aw:R2:=λx y H Q=>∃ l b xs zs,x=.ref l/\y=.ref b/\H l=some (.lst xs)/\H b=some (.lst zs)/\xs.length+zs.length<=sizeLine/\∀ p,H p=none->Q (.ref p) (upd H p (.lst (xs++zs)))
theorem DW:OpR X (binaryOp .Add) Aw:=by
 intro pins s O H x y v u Q I j k h
 obtain ⟨l,b,xs,zs,rfl,rfl,hH,d,hz,q⟩:=h
 cases j
 cases k
 obtain ⟨z,its,n,r,hl,e⟩:=I.lstM hH
 obtain ⟨m,a,o,f,c,g⟩:=I.lstM d
 refine PySem.P.add_list e g ?_ (by rw[Fu,Fu];omega)
 have i:its.toArray++a.toArray=(its++a).toArray:=by simp
 rw[i]
 exact #[.ref _,_,I.lnew (t':=s.toks) (r.append f) (by rw[FD];omega),rfl,q _ I.fresh]
def rRep:R2:=λx y H Q=>∃ l k xs,x=.ref l/\y=.int k/\H l=some (.lst xs)/\-(2 ^ 63)<=k/\k < 2 ^ 63/\xs.length * k.toNat<=sizeLine /\
 ∀ p,H p=none->Q (.ref p) (upd H p (.lst (List.replicate k.toNat xs).flatten))
theorem Bj {α:Type} (xs:List α) (k:Nat):(List.replicate k xs).flatten.length=k * xs.length:=by
 induction k with
 | zero=>simp
 | succ k ih=>rw[List.replicate_succ,List.flatten_cons,FD,ih,Nat.succ_mul,Nat.add_comm]
theorem DP:OpR X (binaryOp .Mult) rRep:=by
 intro pins s O H x y v u Q I j o h
 obtain ⟨l,k,xs,rfl,rfl,hH,h1,h2,hz,q⟩:=h
 cases j
 obtain ⟨t,rfl⟩:=o
 obtain ⟨z,its,n,r,hl,e⟩:=I.lstM hH
 have hlen:its.toArray.size * k.toNat<=sizeLine:=by rw[Fu,<- hl];exact hz
 have d:¬ its.toArray.size * k.toNat > (2 ^ 63 - 1) / 8:=by
  have:(sizeLine:Nat)<=(2 ^ 63 - 1) / 8:=by decide
  lia
 have c:¬ (!Builtin.List.listFitsIndex k)=true:=by
  rw[fitsIndex_both h1 h2]
  exact Fs
 have b:¬ Builtin.List.listTooLong (its.toArray.size * k.toNat)=true:=by
  rw[qx hlen]
  exact Fs
 have f:List.foldl (λi g=>i++g) (List.toArray []) (List.replicate (if its.toArray.isEmpty=true then 0 else k.toNat) its.toArray)=(List.replicate k.toNat its).flatten.toArray:=by
  have f0:∀ m:Nat,List.foldl (λi g=>i++g) (List.toArray []) (List.replicate m its.toArray)=(List.replicate m its).flatten.toArray:=λm=>by
   have:=om its m []
   rw[List.nil_append] at this
   exact this
  rw[f0]
  cases its with
  | nil=>simp
  | cons a r'=>rw[if_neg (by simp)]
 refine wpAny_binaryOp_repeat_ref (T:="list") (U:="int") (by decide) #[_,e,rfl] (λs'=>typeIs_int s' k t) noFill_list_mul F.fills_int_mul F.slot_int_rmul repeat_list F.slot_int_index.lookup
  (call_meets F.slot_int_rmul (typeIs_int s k t) F.entry_int_rmul (F.args_int_rmul_2 _ _) (int___rmul___int_list k t l its.toArray n)
   #[e,rfl,#[_,e,rfl],call_meets F.slot_list_mul #[_,e,rfl] F.entry_list_mul (F.args_list_mul_2 _ _) (AutoListH.list___mul___list_int_3 l its.toArray n k t c d b) #[e,?_]])
 rw[f]
 exact #[.ref _,_,I.lnew (t':=s.toks) (r.rep k.toNat) (by rw[Bj,Nat.mul_comm];exact hz),rfl,q _ I.fresh]
end
end L2
namespace Att
open PySem PySem.W PySem.Calls PyProof.Rows
theorem lG:∀ (ns:List Int) (vs:List Value),WellAll P h vs (ns.map WData.int)->IntsAre vs ns:=by
 intro ns
 induction ns with
 | nil =>
  intro vs w
  rw[List.map_nil] at w
  cases w
  exact .nil
 | cons n ns ih =>
  intro vs w
  rw[Fv] at w
  cases w with
  | cons a b =>
   cases a
   exact .cons _ _ (ih _ b)
theorem ve {l:OpenLaw} {n:Nat} (hn:l.most=some n) (b:l.row.toRowW.claim.pre args=true) (g:WellAll P h vals args) :
  ∃ a vs ns,vals=[Value.ref a]/\args=[WData.list (ns.map WData.int)]/\h.get? a=some { cls:=.type "list",data:=.seq vs.toArray }/\IntsAre vs ns/\ns.length<=n:=by
 have f:WShape.hasAll [] args [.list .int]=true:=(pre_splitW b).1
 have i:l.pre.holds [] { args:=args }=true:=(pre_splitW b).2
 obtain ⟨d,r,rfl,h1,h2⟩:=hasAllW_cons f
 obtain rfl:=hasAllW_nil h2
 obtain ⟨xs,rfl,h3⟩:=hasW_list h1
 obtain ⟨ns,rfl⟩:=items_int h3
 have hlen:ns.length<=n:=by
  unfold OpenLaw.pre at i
  have e:(WTm.not (.lt (.lit (.int (n:Int))) (.len (.arg 0)))).holds [] { args:=[.list (ns.map .int)] }=true:=by
   have e:=(holds_andW i).1
   rw[hn] at e
   exact e
  have c:=condW_of e (w_not (w_lt w_lit (w_len_list (w_arg rfl))))
  rw[Fh] at c
  refine Nat.le_of_not_lt λq=>?_
  have j:(n:Int) < ((ns.length:Nat):Int):=by omega
  first
   | (rw[Fw j] at c;exact absurd c (by decide))
   | (simp at c;omega)
 cases g with
 | cons w1 w2 =>
  cases w2
  cases w1 with
  | list ho hall=>exact #[_,_,ns,rfl,rfl,ho,lG ns _ hall,hlen]
theorem vo (l:OpenLaw) (args:List WData):l.row.toRowW.claim.post args (.bool true) args=true :=
 postW_of (r:=l.row.toRowW) (X:=(true == true))
  (show WShape.has [] (.bool true) .bool=true by first | rfl | decide | simp[WShape.has,WShape.arms,WShape.armsAll])
  (show (WTm.eq .res (.lit (.bool true))).value [] { args:=args,res:=some (.bool true),after:=args }=some (.bool (true == true)) from w_eq_bool (w_res rfl) w_lit) rfl
theorem attach_call {l:OpenLaw} {n:Nat} (hn:l.most=some n) (h:d.params.defaults=[]) (call:∀ (w:World) (s₀ b:Shared) (mg mb:Str->Option Value) (e:Addr) (o:Obj) (pm cd doc:Value) (a:Addr) (vs:List Value) (ns:List Int),
   Ground q loose [] XP w s₀ mg mb b.heap->YP w b.heap ->
   b.heap.get? e=some o->o.data=.func (docDef d.name d.params d.body d.scope pm cd doc)->b.heap.CodeRec cd d.name->mg d.name=some (.ref e) ->
   b.heap.get? a=some { cls:=.type "list",data:=.seq vs.toArray }->IntsAre vs ns->ns.length<=n->b.gens=(List.toArray []) ->
   codeAny (model l.prog w) callerA (.call (.ref e) #[[.ref a],[]]) (λr s'=>r=.ok (.ret (.bool true))/\OldK b.heap s'.heap/\s'.os=b.os/\AllBare s'.gens) b) :
  WalkO q loose XP YP l.row.toRowW d [] (λf vs=>PySem.call f vs):=by
 intro w s₀ b mg mb G τ e o pm cd doc t kV u hd i p k hg args vals as g m s j v
 obtain rfl:t=.none:=Dflts.none p h
 obtain rfl:kV=.none:=Dflts.noKw p
 obtain ⟨a,vs,ns,rfl,rfl,c,hints,hlen⟩:=ve hn g j
 refine enter_call (codeAny_mono (call w s₀ b mg mb e o pm cd doc a vs ns G τ u (fd_plain hd) i k c hints hlen hg) λr s' y=>?_)
 obtain ⟨rfl,h2,h3,x⟩:=y
 exact #[.inl #[.bool true,.bool true,[],rfl,λ_=>rfl,.bool true,vo l _,λ_=>#[List.Pairwise.nil,λ_ hm=>(nomatch hm)]],h2,h3,x]
end Att
namespace L2
open PySem PySem.Spec PyProof.Rows
theorem nI:∀ {vs:List Value} {ns:List Int},IntsAre vs ns->Vals (ns.map V.int) vs
 | _,_,.nil=>.nil
 | _,_,.cons n t h=>.cons #[t,rfl] (nI h)
def BR (H:Hp):Prop:=∀ b,H b=none\/∃ o xs,H b=some (.frz o (.lst xs))
set_option tactic.hygienic true in
theorem yr {K:FG} {k:Nat} (M:K.In s₁.heap) (B:s₁.heap.Ns mainGlobals mg) (f:s₁.heap.Ns builtinsNs mb) (D:∀ x:Str,x≠"__name__"->mb x=bootBuiltins x) (p:s₁.heap.NoLimit) (hg:s₁.gens=(List.toArray [])) (C:s₁.heap.get? a=some { cls:=.type "list",data:=.seq vs.toArray }) (hi:IntsAre vs ns) (hl:ns.length<=sizeLine) (τ:Room k callerA) (F:∀ base:Heap,K.In base->base.Ns mainGlobals mg->FnOk P w K mg base CX k fa fd [x] sp) (i:∀ (s:Shared) (u:Value),BindsTo s fd #[[u],[]] [(x,u)]) (E:∀ H:Hp,BR H->SqL K H a (ns.map V.int)->sp [.ref a] H (λv _=>v=.bl true) λ_ _ _=>False) (L:∀ H e s',CX [] H s₁ (λ_ _ _=>False) e s'->False) :
  codeAny (model P w) callerA (.call (.ref fa) #[[.ref a],[]]) (λr s'=>r=.ok (.ret (.bool true))/\OldK s₁.heap s'.heap/\s'.os=s₁.os/\AllBare s'.gens) s₁:=by
 have N:=nI hi
 have A:=hi.length
 have core:∀ H:Hp,BR H->SqL K H a (ns.map V.int)->HOk P w H s₁.heap->(∀ b,H b≠none->b=a)->(H a≠none->K.lookup a=none) ->
   codeAny (model P w) callerA (.call (.ref fa) #[[.ref a],[]]) (λr s'=>r=.ok (.ret (.bool true))/\OldK s₁.heap s'.heap/\s'.os=s₁.os/\AllBare s'.gens) s₁:=by
  intro H σ ρ hok hA Q
  have c:∀ {b:Addr} {o:Obj},s₁.heap.get? b=some o->H b=none->(pj s₁.heap H).get? b=some o:=λe n=>yJ e n
  have J:∀ {b:Addr} {o:Obj} {es:Array DictEntry} {l:Nat},s₁.heap.get? b=some o->o.data=.dict es l->H b=none:=λ{b o es l} e d=>by
   cases q:H b with
   | none=>rfl
   | some u =>
    have I:b=a:=hA b (by rw[q];simp)
    subst I
    rw[C] at e;cases e
    have d':Data.seq vs.toArray _=Data.dict es l:=d
    cases d'
  have g:∀ {b:Addr} {m:Str->Option Value},s₁.heap.Ns b m->(pj s₁.heap H).Ns b m:=λ{b m} #[o,es,l,e,d,r]=>#[o,es,l,c e (J e d),d,r]
  have t:K.In (pj s₁.heap H):=λb o e=>c (M b o e) (by
   cases q:H b with
   | none=>rfl
   | some u =>
    have I:b=a:=hA b (by rw[q];simp)
    subst I
    rw[Q (by rw[q];simp)] at e;cases e)
  have T:Mod K mg (pj s₁.heap H):=#[t,g B,#[mb,g f,D],let #[mc,h1,h2]:=p;#[mc,g h1,h2]]
  have X:Env0 P w K mg (pj s₁.heap H) callerA [] s₁ H:=#[rfl,T,λb o e=>AX e,Nat.le_of_eq (vV _ _),trivial,λb f=>absurd (show b∈([]:List Addr) from f) (by simp),hok,.of_eq hg]
  refine codeAny_mono ((F _ t (g B)).run callerA [] s₁ H #[[.ref a],[]] [.ref a] [.ref a] _ _ τ X (i s₁ (.ref a)) (.cons rfl .nil) (E H σ ρ)) λr s' h=>?_
  cases r with
  | error e=>exact (L H e s' h).elim
  | ok fl =>
   cases fl with
   | next=>exact False.elim h
   | brk=>exact False.elim h
   | cont=>exact False.elim h
   | ret u =>
    obtain ⟨v,H',os,bare,un,y,R,q⟩:=h
    have W:v=.bl true:=q
    subst W
    obtain rfl:u=Value.bool true:=R
    refine #[rfl,OldK.of_keep λb o e=>?_,os,bare]
    cases q:H b with
    | none=>exact un.keep b o e q (by intro z;exact absurd (show b∈([]:List Addr) from z) (by simp)) (by simp)
    | some u =>
     rcases σ b with z | ⟨ob,xs,z⟩
     .rw[q] at z;cases z
     .have U:=un.frzs b ob _ z
      obtain ⟨e1,_⟩:=hok b _ z
      obtain ⟨S,_⟩:=y b _ U
      rw[e] at e1;cases e1
      exact S
 cases G:K.lookup a with
 | some o =>
  have e:=M a o G
  rw[C] at e
  cases e
  refine core (λ_=>none) (λ_=>.inl rfl) (.inr #[_,vs.toArray,_,G,rfl,rfl,rfl,by rw[Fu,A];exact hl,by simpa using N]) (λb u z=>by have j:(none:Option HO)=some u:=z;cases j) (λb z=>absurd rfl z) λz=>absurd rfl z
 | none =>
  refine core (λb=>if b=a then some (.frz { cls:=.type "list",data:=.seq vs.toArray } (.lst (ns.map V.int))) else none) (λb=>?_) (.inl (.inr #[{ cls:=.type "list",data:=.seq vs.toArray },if_pos rfl])) (λb u z=>?_) (λb z=>?_) λ_=>G
  .by_cases f:b=a
   .exact .inr #[_,_,if_pos f]
   .exact .inl (if_neg f)
  .by_cases f:b=a
   .have j:=(if_pos f).symm.trans z
    cases j
    subst f
    exact #[C,by rw[Fh];exact hl,vs,_,N,C]
   .have j:=(if_neg f).symm.trans z
    cases j
  .by_cases f:b=a
   .exact f
   .exact absurd (if_neg f) z
end L2
namespace L2
open PySem PySem.Spec PyProof.Rows
end L2
namespace L2
open PySem PySem.Spec PyProof.Rows
abbrev CX0:CXT:=λ_ _ _ _ _ _=>False
abbrev E0:XK:=λ_ _ _=>False
theorem pass0:tD CX0 X E0:=λ_ _ _ _ _ _ _ h=>h.elim
structure Fun (K:FG) (x qual:Str) (st:Stmt) (f:Addr) (fd:FuncData):Prop where
 ex:∃ (oc:Value) (od:Option Addr) (kV doc pm:Value) (an:Option Addr) (cdv ct:Value) (osl:Array (Option Value)),
  fd=PySem.W.fnOf x qual (aY st) (aS st) (ai st) .none kV doc pm an cdv ct/\K.lookup f=some #[oc,od,.func fd,osl]/\PySem.W.codeIn K cdv qual=true
 kp:PySem.W.keepIn K (.ref f)=true
section
variable {P:Program} {w:World} {K:FG} {mg:Str->Option Value} {base:Heap}
theorem Fun.ok {st:Stmt} {k:Nat} (F:Fun K x qual st f fd) (S:FnScope N ps (ai st)) (len:∀ vs H Q E,sp vs H Q E->vs.length=ps.length) (b:∀ (a:Value) (A:Around) (outer:List Env) (s:Shared) (H:Hp) (vs:List V) (Q:VK) (E:XK),Room k (A.deeper (envOfC qual (ai st) s.heap.objs.size f a))->sp vs H Q E ->
   ∃ t,PSs (q9 CX0 P w K mg base N qual (ai st) f a A outer s H E).nox (aS st) t/\t { nx:=λ_ H'=>Q .non H',rt:=Q } (k9 N vs) H):FnOk P w K mg base CX0 (k+1) f fd ps sp:=by
 obtain ⟨j,od,kV,doc,pm,an,a,ct,g,rfl,e,d⟩:=F.ex
 refine fn_of e d S len λA outer s H vs Q E i c=>?_
 obtain ⟨t,h,q⟩:=b a A outer s H vs Q E i c
 exact #[t,h.nox,q]
theorem Fun.binds {st:Stmt} (F:Fun K x qual st f fd) (h:∀ (kV doc pm:Value) (an:Option Addr) (a ct:Value) (us:List Value),us.length=ps.length->bindArgs (PySem.W.fnOf x qual (aY st) (aS st) (ai st) .none kV doc pm an a ct) #[us,[]]=pure (ps.zip us)):Binds K fd ps []:=by
 obtain ⟨e,od,kV,doc,pm,an,a,ct,b,rfl,d,c⟩:=F.ex
 exact .all (h kV doc pm an a ct)
theorem EC {st:Stmt} {kV doc pm a ct:Value} (l:K.lookup f=some #[oc,od,.func (PySem.W.fnOf x qual (aY st) (aS st) (ai st) .none kV doc pm an a ct),osl]) (c:PySem.W.codeIn K a qual=true) (k:PySem.W.keepIn K (.ref f)=true):Fun K x qual st f (PySem.W.fnOf x qual (aY st) (aS st) (ai st) .none kV doc pm an a ct):=#[#[oc,od,kV,doc,pm,an,a,ct,osl,rfl,l,c],k]
end
theorem hu_of {k:Nat} (a:Room k A):A.units+1 < cLine:=Nat.lt_of_le_of_lt (Nat.add_le_add_left (by decide:1<=64) _) a.units
def Same (H H':Hp):Prop:=∀ b o,H b=some o->H' b=some o
theorem Same.refl (H:Hp):Same H H:=λ_ _ h=>h
theorem Same.trans (a:Same H H1) (b:Same H1 H2):Same H H2:=λc o h=>b c o (a c o h)
theorem Same.free (e:Same H H') (h:H' l=Option.none):H l=Option.none:=by
 cases q:H l with
 | none=>rfl
 | some o =>
  rw[e l o q] at h
  cases h
end L2
end
section
namespace L2
open PySem PySem.Spec PyProof.Rows
section
variable {prog:Program} {w:World} {A:Around} {E:Value->Shared->Prop} {s:Shared}
theorem pY (ty:s.TypeIs (.ref d) "dict") (h:wpAny (model prog w) A.in1 (dictSet d k v) Q E s) :
  wpAny (model prog w) A (setItem (.ref d) k v) Q E s:=by
 unfold setItem
 refine E4 (E2 (wpAny_sequenceKey ty (by decide) (E2 (wpAny_callSpecial?_slot ty slot_dict_setitem (wpAny_call_entry slot_dict_setitem ty entry_dict_setitem ?_ (args_dict_setitem _ _ _))))))
 refine E2 (wpAny_notOrdered_dict ty ?_)
 refine (?_:wpAny _ _ (dictSet d k v >>= _) _ _ s)
 exact E2 (wpAny_mono h (λ_ _ z=>E3 #[_,rfl,E3 z]) λ_ _ z=>z)
theorem nK {b:Int} {c:Nat} {F:Option Nat->Prop} (a:s.heap.get? d=some o) (g:o.ExactDict) (hd:o.data=.dict es c) (hz:es.size<=sizeLine) (find:wpAny (model prog w) A (dictFind d key b) (λr s'=>s'=s/\F r) E s) (old:∀ i h' o',F (some i)->h'.get? d=some o'->o'.ExactDict->o'.data=.dict (es.modify i λe=>{ e with val:=v }) c->Heap.SameBut d s.heap h'->Q () { s with heap:=h' }) (new:∀ h' o',F none->h'.get? d=some o'->o'.ExactDict->o'.data=.dict (es.push #[b,key,v]) (c+1)->Heap.SameBut d s.heap h'->Q () { s with heap:=h' }) :
  wpAny (model prog w) A (dictSetHashed d key b v) Q E s:=by
 unfold dictSetHashed
 refine E4 (E2 (wpAny_mono find ?_ λ_ _ z=>z))
 rintro (_ | i) _ ⟨rfl,f⟩
 .exact E2 (wpAny_rule (wpAny_updateDictKeys (hz:=hz) a hd (new _ _ f (FC _ a (Obj.isFreed_of_dict (Obj.data_mapDictKeys hd _))) (g.mapDictKeys _) (Obj.data_mapDictKeys hd _) (Heap.SameBut.update ..))))
 .exact E2 (wpAny_rule (E2 (wpAny_updateDict a hd (wpAny_point (old i _ _ f (FC _ a (Obj.isFreed_of_dict (Obj.data_mapDict hd _))) (g.mapDict _) (Obj.data_mapDict hd _) (Heap.SameBut.update ..))))))
end
section
variable {prog:Program} {w:World} {K:Type} [DecidableEq K] {A:Around} {E:Value->Shared->Prop} {s:Shared} {d:Addr} {k:K}
section
variable {knd:HeapKind prog w K}
def DictOfHE (knd:HeapKind prog w K) (h:Heap) (d:Addr) (xs:List (K×Addr×Value)) (n:Nat):Prop :=
 ∃ o es a,h.get? d=some o/\o.ExactDict/\o.data=.dict es a/\es.toList=xs.map (entryOfKey knd)/\(∀ x∈xs,knd.is h x.1 x.2.1)/\(xs.map (·.1)).Nodup/\es.size=a+n
theorem DictOfHE.of {n:Nat} (x:DictOfHE knd h d xs n):h.DictOfH knd d xs:=let #[o,es,e,h1,h2,h3,b,a,c,_]:=x;#[o,es,e,h1,h2,h3,b,a,c]
theorem vC {y:Addr×Value} (hn:(xs.map (·.1)).Nodup) (h:k ∉ xs.map (·.1)):((xs++[(k,y)]).map (·.1)).Nodup:=by
 rw[List.map_append]
 exact List.nodup_append.mpr #[hn,List.nodup_cons.mpr #[List.not_mem_nil,List.nodup_nil],λx b y a e=>h (by have:=FJ.mp a;subst this;exact e ▸ b)]
theorem nB (hu:knd.room A) (b:knd.is s.heap k a) {n:Nat} (hm:DictOfHE knd s.heap d xs n) (q:∀ h',DictOfHE knd h' d (storedH xs k a v) n->Heap.SameBut d s.heap h'->Q () { s with heap:=h',toks:=s.toks+knd.draws k }) (hsz:xs.length<=sizeLine:=by size_fits):wpAny (model prog w) A (dictSet d (.ref a) v) Q E s:=by
 obtain ⟨o,es,u,l,r,hd,he,g,hn,m⟩:=hm
 unfold dictSet
 refine E4 (E2 (knd.pyHash hu b ?_))
 refine nK (s:={ s with toks:=s.toks+knd.draws k }) (F:=λ| none=>∀ (j:Nat) (p:Addr×Value),xs[j]?≠some (k,p) | some j=>∃ p,xs[j]?=some (k,p)) l r hd (size_of_entries he ▸ hsz)
  (wpAny_dictFind_heap (s:={ s with toks:=s.toks+knd.draws k }) hu b l hd he g hn (λz=>#[rfl,z]) λj p z=>#[rfl,p,z]) ?_ ?_
 .rintro i h' o' ⟨p,f⟩ g1 g2 g3 h
  have at':=storedH_old (atKey_of_get hn f) a v
  refine q h' #[o',_,_,g1,g2,g3,?_,?_,?_,?_] h <;> try rw[at']
  .rw[Array.toList_modify,he]
   exact modify_map_putAt (entryOfKey knd) _ k v (λ_ _=>rfl) hn f
  .intro x c
   obtain ⟨y,t,rfl⟩:=Fo.mp c
   have:=knd.keeps (g y t) l hd h
   by_cases e:y.1=k <;> simpa[putAt,e] using this
  .exact (keys_map_putAt xs k v).symm ▸ hn
  .rw[Array.size_modify];exact m
 .intro h' o' f g1 g2 g3 h
  have at':=storedH_new (atKey_none_of_get f) a v
  refine q h' #[o',_,_,g1,g2,g3,?_,?_,?_,?_] h <;> try rw[at']
  .simp[he,entryOfKey]
  .intro x c
   rcases Ff.mp c with c | c
   .exact knd.keeps (g x c) l hd h
   .cases FJ.mp c;exact knd.keeps b l hd h
  .exact vC hn (not_mem_keys_of_get f)
  .rw[Array.size_push];omega
theorem nk (hu:knd.room A.in1) (b:knd.is s.heap k a) {n:Nat} (hm:DictOfHE knd s.heap d xs n) (c:∀ h',DictOfHE knd h' d (storedH xs k a v) n->Heap.SameBut d s.heap h'->Q () { s with heap:=h',toks:=s.toks+knd.draws k }) (hsz:xs.length<=sizeLine:=by size_fits):wpAny (model prog w) A (setItem (.ref d) (.ref a) v) Q E s :=
 pY hm.of.typeIs (nB (hsz:=hsz) hu b hm c)
end
section
variable {knd:KeyKind prog w K} {key:Value}
theorem mY (a:knd.is k key=true) (hm:DictOfE knd s.heap d kvs) (l:∀ h',DictOfE knd h' d (stored kvs k v)->Heap.SameBut d s.heap h'->Q () { s with heap:=h',toks:=s.toks+1 }) (hsz:kvs.length<=sizeLine:=by size_fits):wpAny (model prog w) A (dictSet d key v) Q E s:=by
 obtain ⟨o,⟨es⟩,q,j,m,hd,g,b,hn,rfl⟩:=hm
 have same:=b.findIdx k
 have hz:(#[es]:Array DictEntry).size<=sizeLine:=by have:=b.length;simp at this ⊢;omega
 unfold dictSet
 refine E4 (E2 (knd.pyHash a ?_))
 refine nK (s:={ s with toks:=s.toks+1 }) (F:=λr=>es.findIdx? (λe=>knd.is k e.key)=r) j m hd hz
  (wpAny_dictFind_of (s:={ s with toks:=s.toks+1 }) a j hd g #[rfl,by simp]) ?_ ?_
 .intro i h' o' f g1 g2 g3 h
  have at':stored kvs k v=_:=if_pos (any_of_findIdx_some (same.symm.trans f))
  refine l h' #[o',_,_,g1,g2,g3,g.modify _ _,?_,?_,(Array.size_modify).symm] h <;> rw[at']
  .simpa using b.modify hn f v
  .exact (keys_map_store kvs k v).symm ▸ hn
 .intro h' o' f g1 g2 g3 h
  have no:=not_mem_of_findIdx_none (same.symm.trans f)
  have at':stored kvs k v=_:=if_neg λz=>by
   obtain ⟨x,c,e⟩:=List.any_eq_true.mp z
   exact no (Fo.mpr #[x,c,of_decide_eq_true e])
  refine l h' #[o',_,_,g1,g2,g3,g.push a _,?_,?_,by simp] h <;> rw[at']
  .simpa using b.append a (knd.hash k) v
  .rw[List.map_append]
   exact List.nodup_append.mpr #[hn,List.nodup_cons.mpr #[List.not_mem_nil,List.nodup_nil],λx c y p e=>no (by cases FJ.mp p;have n:x=k:=e;exact n ▸ c)]
theorem mf (a:knd.is k key=true) (hm:DictOfE knd s.heap d kvs) (b:∀ h',DictOfE knd h' d (stored kvs k v)->Heap.SameBut d s.heap h'->Q () { s with heap:=h',toks:=s.toks+1 }) (hsz:kvs.length<=sizeLine:=by size_fits):wpAny (model prog w) A (setItem (.ref d) key v) Q E s :=
 pY hm.of.typeIs (mY (hsz:=hsz) a hm b)
end
end
section
variable {κ:Type} [DecidableEq κ]
def lC (a:List (κ×V)) (k:κ):Option V:=(a.find? λb=>decide (b.1=k)).map (·.2)
def gx (a:List (κ×V)) (k:κ) (v:V):List (κ×V) :=
 if (a.any λb=>decide (b.1=k))=true then a.map (λb=>if b.1=k then (b.1,v) else b) else a++[(k,v)]
theorem jQ {p:κ×V} {k:κ} (e:p.1=k):lC (p::r) k=some p.2:=by simp[lC,List.find?_cons,e]
theorem jR {p:κ×V} {k:κ} (e:¬ p.1=k):lC (p::r) k=lC r k:=by simp[lC,List.find?_cons,e]
theorem pP (k:κ):∀ a:List (κ×V),(a.any λb=>decide (b.1=k))=(lC a k).isSome
 | []=>rfl
 | p::r=>by
  rw[List.any_cons]
  by_cases e:p.1=k
  .simp only[jQ e,Fw e,Bool.true_or,Option.isSome_some]
  .rw[jR e,Fy e,Bool.false_or];exact pP k r
theorem lr (a:List (κ×V)) (k:κ) (v:V):(gx a k v).length<=a.length+1:=by
 unfold gx
 split
 .rw[Fh];omega
 .rw[FD,FE,List.length_nil];omega
theorem RelO.isSome_eq (r:RelO o u):o.isSome=u.isSome:=by
 cases o with
 | none=>cases u with
  | none=>rfl
  | some _=>exact (show False from r).elim
 | some _=>cases u with
  | none=>exact (show False from r).elim
  | some _=>rfl
theorem RelO.getD (r:RelO o u) (a:RelV d d'):RelV (o.getD d) (u.getD d'):=by
 cases o with
 | none=>cases u with
  | none=>exact a
  | some _=>exact (show False from r).elim
 | some _=>cases u with
  | none=>exact (show False from r).elim
  | some _=>exact r
theorem KV.val (r:KV kvs vs) (k:κ):RelO (lC kvs k) (valueAt vs k):=by
 unfold KV at r
 induction r with
 | nil=>exact True.intro
 | @cons p q ps qs h t ih =>
  obtain ⟨h1,h2⟩:=h
  by_cases e:p.1=k
  .have a:q.1=k:=h1.symm.trans e
   have b:valueAt (q::qs) k=some q.2:=by simp[valueAt,List.find?_cons,a]
   rw[jQ e,b];exact h2
  .have a:¬ q.1=k:=λz=>e (h1.trans z)
   have b:valueAt (q::qs) k=valueAt qs k:=by simp[valueAt,List.find?_cons,a]
   rw[jR e,b];exact ih
theorem KV.any (r:KV kvs vs) (k:κ):(kvs.any λa=>decide (a.1=k))=vs.any λa=>decide (a.1=k):=by
 unfold KV at r
 induction r with
 | nil=>rfl
 | cons h t ih=>rw[List.any_cons,List.any_cons,ih,h.1]
theorem KV.repl (r:KV kvs vs) (k:κ) (b:RelV y u) :
  KV (kvs.map λa=>if a.1=k then (a.1,y) else a) (vs.map λa=>if a.1=k then (a.1,u) else a):=by
 unfold KV at r ⊢
 induction r with
 | nil=>exact .nil
 | @cons p q ps qs h t ih =>
  rw[Fv,Fv]
  refine .cons ?_ ih
  obtain ⟨h1,h2⟩:=h
  by_cases e:p.1=k
  .rw[if_pos e,if_pos (h1.symm.trans e)];exact #[h1,b]
  .rw[if_neg e,if_neg (λz=>e (h1.trans z))];exact #[h1,h2]
theorem KV.put (r:KV kvs vs) (k:κ) (a:RelV y u):KV (gx kvs k y) (stored vs k u):=by
 unfold gx stored
 rw[r.any k]
 by_cases e:(vs.any λb=>decide (b.1=k))=true
 .rw[if_pos e,if_pos e];exact r.repl k a
 .rw[if_neg e,if_neg e];exact Paired.snoc r #[rfl,a]
theorem KV.length {a:List (κ×V)} (r:KV a vs):a.length=vs.length:=Paired.length r
end
theorem yB (r:RelV (kV k) u):(ci P w).is k u=true:=by
 cases k with
 | inl i=>obtain ⟨t,e⟩:=(show ∃ t,u=Value.int i t from r);subst e;exact qD P w i t
 | inr x=>obtain ⟨t,e⟩:=(show ∃ t,u=Value.str x t from r);subst e;exact qC P w x t
theorem oj:∀ {ks:List Key} {us:List Value},Vals (ks.map kV) us->ItemsAre (ci P w) ks us
 | [],_,r=>by rw[List.map_nil] at r;cases r;exact .nil
 | k::ks,_,r=>by
  rw[Fv] at r
  cases r with
  | cons h t=>exact .cons (yB h) (oj t)
abbrev KT (H:Hp):List (List Key×V)->List (List Key×Addr×Value)->Prop:=Paired λp q=>p.1=q.1/\H q.2.1=some (.tup (p.1.map kV))/\RelV p.2 q.2.2
theorem KT.val (r:KT H kvs xs) (k:List Key):RelO (lC kvs k) ((atKey xs k).map (·.2)):=by
 induction r with
 | nil=>exact True.intro
 | @cons p q ps qs h t ih =>
  obtain ⟨h1,_,h2⟩:=h
  by_cases e:p.1=k
  .have a:q.1=k:=h1.symm.trans e
   have b:atKey (q::qs) k=some q.2:=by simp[atKey,List.find?_cons,a]
   rw[jQ e,b];exact h2
  .have a:¬ q.1=k:=λz=>e (h1.trans z)
   have b:atKey (q::qs) k=atKey qs k:=by simp[atKey,List.find?_cons,a]
   rw[jR e,b];exact ih
theorem KT.repl (r:KT H kvs xs) (k:List Key) (b:RelV y u) :
  KT H (kvs.map λa=>if a.1=k then (a.1,y) else a) (xs.map (putAt k u)):=by
 induction r with
 | nil=>exact .nil
 | @cons p q ps qs h t ih =>
  rw[Fv,Fv]
  refine .cons ?_ ih
  obtain ⟨h1,h2,h3⟩:=h
  unfold putAt
  by_cases e:p.1=k
  .rw[if_pos e,if_pos (h1.symm.trans e)];exact #[h1,h2,b]
  .rw[if_neg e,if_neg (λz=>e (h1.trans z))];exact #[h1,h2,h3]
theorem KT.put (r:KT H kvs xs) (k:List Key) (c:H b=some (.tup (k.map kV))) (a:RelV y u) :
  KT H (gx kvs k y) (storedH xs k b u):=by
 have e:(kvs.any λd=>decide (d.1=k))=(atKey xs k).isSome:=by
  rw[pP,(r.val k).isSome_eq,Option.isSome_map]
 unfold gx storedH
 rw[e]
 by_cases q:(atKey xs k).isSome=true
 .rw[if_pos q,if_pos q];exact r.repl k a
 .rw[if_neg q,if_neg q];exact Paired.snoc r #[rfl,c,a]
theorem KT.keeps (r:KT H kvs xs) (a:∀ b ys,H b=some (.tup ys)->H' b=some (.tup ys)):KT H' kvs xs :=
 Paired.mapP r λ_ _ z=>#[z.1,a _ _ z.2.1,z.2.2]
section
variable {P:Program} {w:World} {H:Hp} {h:Heap} {a:Addr}
theorem B8 (ok:HOk P w H h) (e:Rd H a u):ObjOk P w H h a u:=e.ok ok
theorem za (ok:HOk P w H h) (e:Rd H a (.dK kvs)):kvs.length<=sizeLine/\(a == sysModules)=false/\∃ vs,KV kvs vs/\DictOfE (ci P w) h a vs :=
 show ObjOk P w H h a (.dK kvs) from B8 ok e
theorem Co (ok:HOk P w H h) (e:Rd H a (.dK kvs)):kvs.length<=sizeLine/\(a == sysModules)=false/\∃ vs,KV kvs vs/\h.DictOf (ci P w) a vs:=let #[z,y,vs,r,d]:=za ok e;#[z,y,vs,r,d.of]
def HdT (H:Hp) (a:Addr) (b:List (List Key×V)):Prop:=∃ n,H a=some (.dT b n)
def RdT (H:Hp) (a:Addr) (b:List (List Key×V)):Prop:=∃ n,Rd H a (.dT b n)
theorem sN (ok:HOk P w H h) (e:H a=some (.tup (ks.map kV))):(tupleKind (ci P w)).is h ks a:=by
 obtain ⟨_,its,r,o,h1,h2,n,h3⟩:=(show ObjOk P w H h a (.tup (ks.map kV)) from ok a _ e)
 exact #[o,its.toArray,n,h1,h2,congrArg Prod.fst h3,by simpa using oj r]
theorem y7 {n:Nat} (ok:HOk P w H h) (e:Rd H a (.dT kvs n)):kvs.length<=sizeLine/\(a == sysModules)=false /\
  ∃ xs,KT H kvs xs/\DictOfHE (tupleKind (ci P w)) h a xs n:=by
 obtain ⟨z,y,xs,r,o,es,f,h1,h2,h3,d,c⟩:=(show ObjOk P w H h a (.dT kvs n) from B8 ok e)
 refine #[z,y,xs,r,o,es,f,h1,h2,h3,d,λx b=>?_,c]
 have all:∀ {l:List (List Key×V)} {m:List (List Key×Addr×Value)},KT H l m->∀ x∈m,(tupleKind (ci P w)).is h x.1 x.2.1:=by
  intro l m q
  induction q with
  | nil=>intro x b;exact nomatch b
  | @cons p q ps qs hq t ih =>
   intro x b
   rcases Fc.mp b with e | b
   .subst e
    exact sN ok (by rw[<- hq.1];exact hq.2.1)
   .exact ih x b
 exact all r x b
theorem Cn (ok:HOk P w H h) (e:RdT H a kvs):kvs.length<=sizeLine/\(a == sysModules)=false /\
  ∃ xs,KT H kvs xs/\h.DictOfH (tupleKind (ci P w)) a xs:=let #[_,e]:=e;let #[z,y,xs,r,d]:=y7 ok e;#[z,y,xs,r,d.of]
end
def DGet (H:Hp) (a:Addr) (y:V) (r:Option V):Prop :=
 (∃ c k,Rd H a (.dK c)/\y=kV k/\r=lC c k)\/∃ c k b,RdT H a c/\y=.ref b/\H b=some (.tup (k.map kV))/\r=lC c k
def DPut (H:Hp) (a:Addr) (y v:V) (H':Hp):Prop :=
 (∃ c k,H a=some (.dK c)/\y=kV k/\c.length < sizeLine/\H'=upd H a (.dK (gx c k v))) \/
 ∃ c k b,∃ n,H a=some (.dT c n)/\y=.ref b/\H b=some (.tup (k.map kV))/\c.length < sizeLine/\H'=upd H a (.dT (gx c k v) n)
theorem DGet.t {n:Nat} (e:H a=some (.dT kvs n)) (c:H b=some (.tup (k.map kV))):DGet H a (.ref b) (lC kvs k):=.inr #[kvs,k,b,#[n,.inl e],rfl,c,rfl]
theorem DPut.t {n:Nat} (e:H a=some (.dT kvs n)) (c:H b=some (.tup (k.map kV))) (hl:kvs.length < sizeLine) :
  DPut H a (.ref b) v (upd H a (.dT (gx kvs k v) n)):=.inr #[kvs,k,b,n,e,rfl,c,hl,rfl]
section
variable {X:Cx} {pins:List (Addr×Obj)} {O:St} {H:Hp} {s:Shared} {a:Addr} {y v:V} {u r:Value} {o:Option V} {A:Around} {E:Value->Shared->Prop}
theorem Inv.big (I:Inv X pins O H s):sysModules < s.heap.objs.size:=by
 have h:mainGlobals < s.heap.objs.size:=(I.mod.glob.keeps I.bk).lt
 exact Nat.lt_trans (by decide) h
theorem wc (hu:A.units+1 < cLine) (I:Inv X pins O H s) (g:DGet H a y (some v)) (m:RelV y u) (h:∀ c s',Inv X pins O H s'->RelV v c->Q c s') :
  wpAny (model X.prog X.w) A (getItem (.ref a) u) Q E s:=by
 rcases g with ⟨d,k,e,j,l⟩ | ⟨d,k,b,e,j,n,l⟩
 .subst j
  obtain ⟨z,hd,vs,rel,i⟩:=Co I.hok e
  obtain ⟨c,hw,rw'⟩:=RelO.some_of (v:=v) (o:=valueAt vs k) (by rw[l];exact rel.val k)
  exact wpAny_getItem_of (yB m) i.mapOf hw (h c _ (I.tok _) rw')
 .subst j
  cases (show u=Value.ref b from m)
  obtain ⟨z,hd,xs,rel,i⟩:=Cn I.hok e
  obtain ⟨c,hw,rw'⟩:=RelO.some_of (v:=v) (o:=(atKey xs k).map (·.2)) (by rw[l];exact rel.val k)
  obtain ⟨p,q,f⟩:=E8.mp hw
  refine wpAny_getItem_heap (tupleKind_room_in1 hu) (sN I.hok n) i q ?_
  rw[f]
  exact h c _ (I.tok _) rw'
theorem uP {t':Nat} (I:Inv X pins O H s) (c:Mut (H a)) (d:Heap.SameBut a s.heap h') (he:∃ q,h'.get? a=some q) (new:ObjOk X.prog X.w (upd H a ob) h' a ob) :
  Inv X pins O (upd H a ob) { s with heap:=h',toks:=t' } :=
 I.write (x:=a) (e:=a) c (.inl rfl) (λb q f z=>(d.2 b f).trans z) he new
theorem EI (z:kvs.length<=sizeLine) (hd:(a == sysModules)=false) (rel:KV kvs vs) (b:DictOfE (ci P w) h' a vs) :
  ObjOk P w H' h' a (.dK kvs):=#[z,hd,vs,rel,b]
theorem wb (hu:A.units+1 < cLine) (I:Inv X pins O H s) (g:DPut H a y v H') (B:RelV y u) (t:RelV v r) (h:∀ s',Inv X pins O H' s'->Q () s') :
  wpAny (model X.prog X.w) A (setItem (.ref a) u r) Q E s:=by
 rcases g with ⟨d,k,e,j,l,m⟩ | ⟨d,k,b,n,e,j,x,l,m⟩
 .subst j m
  obtain ⟨z,hd,vs,rel,o⟩:=za I.hok (.inl e)
  have hz:vs.length<=sizeLine:=by rw[<- rel.length];exact z
  have hl:(gx d k v).length<=sizeLine:=by have:=lr d k v;omega
  refine mf (hsz:=hz) (yB B) o λh' f p=>h _ ?_
  have he:∃ q,h'.get? a=some q:=let #[q,_,_,i,_]:=f;#[q,i]
  exact uP I (by rw[e];exact True.intro) p he (EI hl hd (rel.put k t) f)
 .subst j m
  cases (show u=Value.ref b from B)
  obtain ⟨z,hd,xs,rel,o⟩:=y7 I.hok (.inl e)
  have hz:xs.length<=sizeLine:=by rw[<- Paired.length rel];exact z
  have hl:(gx d k v).length<=sizeLine:=by have:=lr d k v;omega
  refine nk (hsz:=hz) (tupleKind_room_in1 hu) (sN I.hok x) o λh' f p=>h _ ?_
  obtain ⟨q,es,G,i,h2,h3,F,_,D⟩:=f
  refine uP I (by rw[e];exact True.intro) p #[q,i] #[hl,hd,_,(rel.put k x t).keeps λc ys C=>?_,q,es,G,i,h2,h3,F,D]
  rw[aF (ne_of C e (λz=>nomatch z))]
  exact C
end
theorem q8 (I:Inv X pins O H s) (g:DGet H a y o):s.TypeIs (.ref a) "dict":=by
 rcases g with ⟨c,k,e,_,_⟩ | ⟨c,k,b,e,_,_,_⟩
 .obtain ⟨_,_,vs,_,d⟩:=Co I.hok e
  exact d.typeIs
 .obtain ⟨_,_,xs,_,d⟩:=Cn I.hok e
  exact d.typeIs
theorem y8 (h:Heap) (a:sysModules < h.objs.size):ObjOk P w H (h.push { cls:=.type "dict",data:=.dict (List.toArray []) }) h.objs.size (.dT [] 0) :=
 #[Nat.zero_le _,beq_eq_false_iff_ne.mpr (Ne.symm (Ft a)),[],.nil,_,(List.toArray []),0,Fg _ rfl,#[rfl,rfl,rfl],rfl,rfl,List.nodup_nil,rfl]
def CU:TE:=λ_ H Q=>∀ p,H p=none->Q (.ref p) (upd H p (.dT [] 0))
section
variable {X:Cx} {pos:Pos}
theorem xR:PE X (.Dict [] [] pos) CU:=λpins s O H Q I h =>
 wpAny_Dict_empty #[.ref s.heap.objs.size,_,I.laid (a:=s.heap.objs.size) (o:=.dT [] 0) (t':=s.toks) (λ_ _ q=>E7 _ q) (Fq _) (y8 s.heap I.big),rfl,h _ (I.hok.fresh (Fq _))]
end
end L2
namespace L2
open PySem PySem.Spec PyProof.Rows
end L2
end
section
namespace L2
open PySem PySem.Spec PyProof.Rows
def lJ (cells:List (Str×Addr)) (cs:List (Str×Addr)) (x:Str×NameKind):List (Str×Addr) :=
 if x.2 == .free then (match cells.lookup x.1 with | some c=>(x.1,c)::cs | none=>cs) else cs
def clo (cells:List (Str×Addr)) (names:List (Str×NameKind)):List (Str×Addr):=names.foldl (lJ cells) []
theorem mQ {α β:Type} {f:α->β->Sem (ForInStep β)} {g:β->α->β}:∀ {l:List α} {c:β},(∀ x∈l,∀ c,f x c=pure (.yield (g c x)))->forIn l c f=pure (l.foldl g c)
 | [],c,_=>rfl
 | x::l,c,h=>by
  rw[List.forIn_cons,h x E5,pure_bind]
  exact mQ λy a=>h y (E6 _ a)
theorem je (h:∀ x∈scope.names,x.2=.free->∃ c,env.cells.lookup x.1=some c):closureFor scope env=pure (clo env.cells scope.names):=by
 simp only[closureFor]
 rw[mQ (g:=lJ env.cells) (λx i c=>by
  obtain ⟨n,kind⟩:=x
  unfold lJ
  by_cases b:kind=.free
  .subst b
   obtain ⟨a,e⟩:=h _ i rfl
   have f:env.cells.lookup n=some a:=e
   simp[cellOf,f]
  .have d:(kind == NameKind.free)=false:=by simpa using b
   simp[d])]
 rfl
theorem ol:∀ {l:List (Str×NameKind)} {cs:List (Str×Addr)},(∀ y d,cs.lookup y=some d->cells.lookup y=some d)->(l.foldl (lJ cells) cs).lookup x=some c->cells.lookup x=some c
 | [],cs,h,e=>h x c e
 | y::l,cs,h,e=>by
  refine ol (l:=l) (cs:=lJ cells cs y) (λz d q=>?_) e
  unfold lJ at q
  split at q
  .cases b:cells.lookup y.1 with
   | none=>rw[b] at q;exact h z d q
   | some a =>
    rw[b] at q
    simp only[List.lookup_cons] at q
    cases hz:z == y.1 with
    | true=>rw[hz] at q;have:=eq_of_beq hz;subst this;rw[b];exact q
    | false=>rw[hz] at q;exact h z d q
  .exact h z d q
theorem iq (e:(clo cells l).lookup x=some c):cells.lookup x=some c:=ol (λ_ _ q=>by simp at q) e
theorem mR (d:cells.lookup x=some c):∀ {l:List (Str×NameKind)} {cs:List (Str×Addr)},cs.lookup x=some c->(l.foldl (lJ cells) cs).lookup x=some c
 | [],_,e=>e
 | y::l,cs,e=>by
  refine mR d (l:=l) (cs:=lJ cells cs y) ?_
  unfold lJ
  split
  .cases b:cells.lookup y.1 with
   | none=>exact e
   | some a =>
    simp only[List.lookup_cons]
    cases hz:x == y.1 with
    | true=>have:=eq_of_beq hz;subst this;rw[d] at b;exact b.symm
    | false=>exact e
  .exact e
theorem oq (a:cells.lookup x=some c):∀ {l:List (Str×NameKind)} {cs:List (Str×Addr)},(x,NameKind.free)∈l->(l.foldl (lJ cells) cs).lookup x=some c
 | [],_,m=>by simp at m
 | y::l,cs,m=>by
  rcases Fc.mp m with rfl | m
  .refine mR a (l:=l) ?_
   simp[lJ,a]
  .exact oq a (l:=l) (cs:=lJ cells cs y) m
theorem uR (a:cells.lookup x=some c) (m:(x,NameKind.free)∈l):(clo cells l).lookup x=some c:=oq a m
theorem j5 {env:Env}:∀ {names:List (Str×NameKind)} {x:Str},names.lookup x=some .free ->
  (names.map λ(n,k)=>if (k == NameKind.free && env.scope.kind == .function && env.kindOf n == some .cell) then (n,NameKind.cell) else (n,k)).lookup x=some .cell \/
  (names.map λ(n,k)=>if (k == NameKind.free && env.scope.kind == .function && env.kindOf n == some .cell) then (n,NameKind.cell) else (n,k)).lookup x=some .free
 | [],_,h=>by simp at h
 | (n,k)::r,x,h=>by
  have b:=@j5 env r x
  show List.lookup x ((if (k == NameKind.free && env.scope.kind == .function && env.kindOf n == some .cell)=true then (n,NameKind.cell) else (n,k))::_)=_ \/
   List.lookup x ((if (k == NameKind.free && env.scope.kind == .function && env.kindOf n == some .cell)=true then (n,NameKind.cell) else (n,k))::_)=_
  cases a:x == n with
  | true =>
   simp only[List.lookup_cons,a] at h
   cases h
   split
   .left;simp[List.lookup_cons,a]
   .right;simp[List.lookup_cons,a]
  | false =>
   simp only[List.lookup_cons,a] at h
   split
   .simp only[List.lookup_cons,a];exact b h
   .simp only[List.lookup_cons,a];exact b h
theorem mq {env:Env}:∀ {names:List (Str×NameKind)} {x:Str},
  ((names.map λ(n,k)=>if (k == NameKind.free && env.scope.kind == .function && env.kindOf n == some .cell) then (n,NameKind.cell) else (n,k)).lookup x=some .cell \/
  (names.map λ(n,k)=>if (k == NameKind.free && env.scope.kind == .function && env.kindOf n == some .cell) then (n,NameKind.cell) else (n,k)).lookup x=some .free)->(x,NameKind.free)∈names\/(x,NameKind.cell)∈names
 | [],_,h=>by simp at h
 | (n,k)::r,x,h=>by
  have c:=@mq env r x
  have h':List.lookup x ((if (k == NameKind.free && env.scope.kind == .function && env.kindOf n == some .cell)=true then (n,NameKind.cell) else (n,k))::(r.map λ(n,k)=>if (k == NameKind.free && env.scope.kind == .function && env.kindOf n == some .cell) then (n,NameKind.cell) else (n,k)))=some .cell \/
   List.lookup x ((if (k == NameKind.free && env.scope.kind == .function && env.kindOf n == some .cell)=true then (n,NameKind.cell) else (n,k))::(r.map λ(n,k)=>if (k == NameKind.free && env.scope.kind == .function && env.kindOf n == some .cell) then (n,NameKind.cell) else (n,k)))=some .free:=h
  cases a:x == n with
  | true =>
   have e:=eq_of_beq a
   subst e
   by_cases hf:k=.free
   .subst hf;exact .inl E5
   .have b:(k == NameKind.free)=false:=by simpa using hf
    simp[b,List.lookup_cons] at h'
    rcases h' with q | q
    .subst q;exact .inr E5
    .exact (hf q).elim
  | false =>
   refine (c ?_).imp (E6 _) (E6 _)
   split at h'
   .simpa only [List.lookup_cons,a] using h'
   .simpa only [List.lookup_cons,a] using h'
theorem mZ {x:Str} {c:Addr}:∀ {names:List (Str×NameKind)} {n:Nat} {acc:List (Str×Addr)},(cellsFrom n names acc).lookup x=some c->n<=c\/acc.lookup x=some c
 | [],_,_,h=>.inr h
 | (y,k)::r,n,acc,h=>by
  unfold cellsFrom at h
  split at h
  .rcases mZ h with q | q
   .exact .inl (Nat.le_of_succ_le q)
   .rw[List.lookup_cons] at q
    split at q
    .cases q;exact .inl (Fq _)
    .exact .inr q
  .exact mZ h
set_option tactic.hygienic true in
theorem zg {x:Str} {c:Addr} {lo:Nat}:∀ {names:List (Str×NameKind)} {n:Nat} {acc:List (Str×Addr)},lo<=n->((x,NameKind.cell)∈names\/∀ d,acc.lookup x=some d->lo<=d)->(cellsFrom n names acc).lookup x=some c->lo<=c
 | [],_,_,_,m,h=>m.elim (λm=>by simp at m) λm=>m c h
 | (y,k)::r,n,acc,hl,m,h=>by
  unfold cellsFrom at h
  split at h
  .refine zg (Nat.le_succ_of_le hl) ?_ h
   by_cases e:x=y
   .refine .inr λd hd=>?_
    rw[List.lookup_cons,beq_iff_eq.mpr e] at hd
    cases hd;exact hl
   .refine m.imp (λm=>(Fc.mp m).resolve_left λz=>e (Prod.mk.inj z).1) λm d hd=>m d ?_
    rw[List.lookup_cons,beq_false_of_ne e] at hd
    exact hd
  .rename_i a
   exact zg hl (m.imp_left λm=>(Fc.mp m).resolve_left λz=>a (by rw[<- (Prod.mk.inj z).2];rfl)) h
set_option tactic.hygienic true in
theorem sR {x:Str}:∀ {names:List (Str×NameKind)} {n:Nat} {acc:List (Str×Addr)},(x,NameKind.cell) ∉ names->(cellsFrom n names acc).lookup x=acc.lookup x
 | [],_,_,_=>rfl
 | (y,k)::r,n,acc,h=>by
  have h2:(x,NameKind.cell) ∉ r:=λm=>h (E6 _ m)
  unfold cellsFrom
  split
  .rename_i a
   rw[sR h2,List.lookup_cons,beq_false_of_ne λe=>h (by rw[e,<- eq_of_beq a];exact E5)]
  .exact sR h2
theorem sS:∀ {names:List (Str×NameKind)} {n:Nat} {acc:List (Str×Addr)},(∀ x y c,acc.lookup x=some c->acc.lookup y=some c->x=y)->(∀ x c,acc.lookup x=some c->c < n)->∀ x y c,(cellsFrom n names acc).lookup x=some c->(cellsFrom n names acc).lookup y=some c->x=y
 | [],_,_,h,_=>h
 | (z,k)::r,n,acc,h,hl=>by
  unfold cellsFrom
  split
  .refine sS (λx y c e1 a=>?_) λx c e=>?_
   .rw[List.lookup_cons] at e1 a
    cases b:x == z <;> cases d:y == z <;> rw[b] at e1 <;> rw[d] at a
    .exact h x y c e1 a
    .cases a;exact absurd (hl _ _ e1) (Nat.lt_irrefl _)
    .cases e1;exact absurd (hl _ _ a) (Nat.lt_irrefl _)
    .rw[eq_of_beq b,eq_of_beq d]
   .rw[List.lookup_cons] at e
    split at e
    .cases e;exact Nat.lt_succ_self _
    .exact Nat.lt_succ_of_lt (hl x c e)
  .exact sS h hl
theorem pv:∀ {names:List (Str×NameKind)} {h:Heap} {acc:List (Str×Addr)},(∀ x c,acc.lookup x=some c->∃ v,h.IsCell c v)->∀ x c,(cellsFrom h.objs.size names acc).lookup x=some c->∃ v,(pushCells h names).IsCell c v
 | [],_,_,h=>h
 | (z,k)::r,hp,acc,h=>by
  unfold cellsFrom pushCells
  split
  .have:=pv (names:=r) (h:=hp.push { cls:=.type "cell",data:=.cell none }) (acc:=(z,hp.objs.size)::acc) λx c e=>by
    rw[List.lookup_cons] at e
    split at e
    .cases e;exact #[none,_,Fg _ rfl,rfl]
    .obtain ⟨v,q⟩:=h x c e
     exact #[v,q.keeps λb o e=>E7 _ e]
   rwa [FP] at this
  .exact pv h
theorem nc {M:Model} {A:Around} {E:Value->Shared->Prop} {s:Shared} {scope:Scope} {globals:Addr} {cl:List (Str×Addr)} {qual:Str} {env:Env} {Q:Env->Shared->Prop}
  (h:Q (newEnv scope s.heap.objs.size globals (cellsFrom (s.heap.objs.size+1) scope.names cl) qual none .none (some env) builtinsNs) { s with heap:=pushCells (s.heap.push { cls:=.type "dict",data:=.dict (List.toArray []) }) scope.names }) :
  wpAny M A (newFunctionEnv scope globals cl [] qual none .none (some env)) Q E s:=by
 simp only[newFunctionEnv,Option.isSome_some,if_true]
 refine E2 (wpAny_alloc ?_)
 refine E2 (wpAny_layCells _ (λname kind cells=>by cases a:kind == NameKind.cell <;> simp[a]) _ _ _ _ ?_)
 rw[show ({ s with heap:=s.heap.push { cls:=.type "dict",data:=.dict (List.toArray []) } }:Shared).heap.objs.size=s.heap.objs.size+1 from FP ..]
 exact E2 (by rw[List.forIn_nil];exact E3 (E3 h))
abbrev lX (X:Cx) (scope:Scope) (C:Addr):List (Str×Addr):=cellsFrom (C+1) scope.names (clo X.env.cells scope.names)
def aP (X:Cx) (NY:List Str) (scope:Scope) (s:Shared) (H:Hp) (C:Addr) (fp:List Addr):Cx where
 prog:=X.prog
 w:=X.w
 K:=X.K
 mg:=X.mg
 base:=X.base
 A:=X.A
 N:=NY
 s₀:=s
 H₀:=H
 env:=compEnvC scope (lX X scope C) C X.env
 outer:=X.stack
 stack:=X.stack
 ex:=fp
 fn:=λx=>scope.names.lookup x == some .cell
 calm:=X.calm
 pn:=[]
 xe:=λ_ _=>False
def cap (ix:List (Option Nat)) (O:St):St:=ix.map λo=>match o with | some i=>(O[i]?).getD none | none=>none
def jb (sc:Scope) (b:List Str) (a:Scope) (NY:List Str) (ix:List (Option Nat)):Bool :=
 sc.kind == .function && sc.names.all (λy=>y.2 != .cell || sc.names.lookup y.1 == some .cell) && sc.names.all (λy=>y.2 != .local || sc.names.lookup y.1 == some .local) && sc.names.all (λy=>y.2 != .free || sc.names.lookup y.1 == some .free)
  && sc.names.all (λy=>y.2 != .free || (a.names.lookup y.1 == some .cell || a.names.lookup y.1 == some .free))
  && ix.length == NY.length && (NY.zip ix).all λp=>match p.2 with | none=>true | some i=>(b[i]? == some p.1) && sc.names.contains (p.1,NameKind.free)
structure CompOk (sc:Scope) (XN:List Str) (Xsc:Scope) (NY:List Str) (ix:List (Option Nat)):Prop where
 kind:sc.kind=.function
 cel:∀ y∈sc.names,y.2=.cell->sc.names.lookup y.1=some .cell
 loc:∀ y∈sc.names,y.2=.local->sc.names.lookup y.1=some .local
 fre:∀ y∈sc.names,y.2=.free->sc.names.lookup y.1=some .free
 out:∀ y∈sc.names,y.2=.free->Xsc.names.lookup y.1=some .cell\/Xsc.names.lookup y.1=some .free
 len:ix.length=NY.length
 cap:∀ (j:Nat) x i,NY[j]?=some x->ix[j]?=some (some i)->XN[i]?=some x/\(x,NameKind.free)∈sc.names
theorem CompOk.of (h:jb sc XN Xsc NY ix=true):CompOk sc XN Xsc NY ix:=by
 simp only[jb,Bool.and_eq_true,List.all_eq_true,beq_iff_eq] at h
 obtain ⟨⟨⟨⟨⟨⟨h1,h2⟩,h3⟩,d⟩,c⟩,f⟩,h7⟩:=h
 refine #[h1,λy a e=>?_,λy a e=>?_,λy a e=>?_,λy a e=>?_,f,λj x i e1 b=>?_]
 .have:=h2 y a;rw[e] at this;simpa using this
 .have:=h3 y a;rw[e] at this;simpa using this
 .have:=d y a;rw[e] at this;simpa using this
 .have:=c y a;rw[e] at this;simpa using this
 .have m:(x,some i)∈NY.zip ix:=by
   refine Fj (i:=j) ?_
   rw[List.getElem?_zip_eq_some]
   exact #[e1,b]
  have:=h7 _ m
  simpa using this
section
variable {X:Cx}
theorem FpOk.of_upd (f:FpOk X pins H b) (h:b≠D):FpOk X pins (upd H D o) b:=#[by rw[aF h];exact f.1,f.2]
theorem HOk.track (x:HOk P w H h) (hn:H a=none) (new:ObjOk P w (upd H a o) h a o):HOk P w (upd H a o) h:=λb u e=>by
 by_cases d:b=a
 .subst d;rw[bu] at e;cases e;exact new
 .rw[aF d] at e
  exact (x b u e).stay (λc v _ q=>q) (λc q=>by rw[aF (aV q hn)];exact q) λc xs q=>by rw[aF (aV q hn)];exact q
def PTs (τ:Cx) (ifs:List Expr) (t:TT):Prop :=
 ∀ (pins:List (Addr×Obj)) (s:Shared) (O:St) (H:Hp) (Q:Bool->Hp->Prop),Inv τ pins O H s->t O H Q ->
  wpAny (model τ.prog τ.w) τ.A (forIn ifs true λc r=>if r=true then do let ok <- isTrue c τ.env (eval c τ.env);pure (ForInStep.yield ok) else pure (ForInStep.yield r)) (TP τ pins O Q) τ.xe s
def tYes:TT:=λ_ H Q=>Q true H
theorem Az:PTs τ [] tYes:=λpins s O H Q I h=>wpAny_tests_nil #[H,I,h]
theorem Ay (h:PT τ c t):PTs τ [c] t:=λpins s O H Q I q=>wpAny_tests_one (h pins s O H Q I q)
def rM (J:It) (g:TG) (tc:TT) (te:TE) (ρ:List V->Hp->Prop) (Y0:St) (H1:Hp):Prop :=
 ∃ W:Nat->Nat->List V->St->Hp->Prop,(∃ m,W 0 m [] Y0 H1)/\∀ i m ys Y H,W i m ys Y H->ys.length < sizeLine /\
  ((J.stop i H/\ρ ys H)\/(J.go i H/\∃ N:List V->St->Hp->Prop,(∀ a Y' H',N a Y' H'->∃ c,c < m/\W (i+1) c a Y' H')/\∀ x H',J.yld i H x H'->g x Y H' λY2 H2=>tc Y2 H2 λb d =>
   if b=true then te Y2 d λy e=>N (ys++[y]) Y2 e else N ys Y2 d))
def B0 (a:TI) (g:TG) (tc:TT) (te:TE) (ix:List (Option Nat)):TE:=λO H Q =>
 a O H λJ H1=>rM J g tc te (λys H2=>∀ p,H2 p=none->Q (.ref p) (upd H2 p (.lst ys))) (cap ix O) H1
theorem sQ (d:CompOk scope X.N X.env.scope NY ix) (I:Inv X pins O H s) (f:∀ b∈fp,FpOk X pins H b) (g:s.heap.objs.size<=C) (t:∀ b∈fp,b < s.heap.objs.size) (L:s4.os=s.os) (hg:s4.gens=s.gens) (keep:∀ b o,s.heap.get? b=some o->s4.heap.get? b=some o) (ns:s4.heap.Ns C λ_=>none) (A:∀ x c,(lX X scope C).lookup x=some c->∃ v,s4.heap.IsCell c v):Inv (aP X NY scope s H C fp) [] (cap ix O) H s4:=by
 have σ:FpOk X pins H C:=I.fpOk g (I.hok.fresh g)
 have sb:∀ x c,(lX X scope C).lookup x=some c->C+1<=c\/X.env.cells.lookup x=some c:=λx c e=>(mZ e).imp_right iq
 have lt:∀ x c,X.env.cells.lookup x=some c->c < s.heap.objs.size:=λx c e=>let #[_,q]:=I.cell x c e;q.lt
 have n:∀ x,(x,NameKind.free)∈scope.names->∃ c,X.env.cells.lookup x=some c:=λx m=>by
  rcases d.out _ m rfl with q | q
  .exact I.ok.has x (.inl q)
  .exact I.ok.has x (.inr q)
 refine ⟨⟨I.ok.mod,d.kind,I.ok.glob,I.ok.blt,g,sS (λx y c e1 w=>I.ok.inj x y c (iq e1) (iq w)) (λx c e=>Nat.lt_succ_of_le (FR (Nat.le_of_lt (lt x c (iq e))) g)),λx D=>?_,λx c e h=>FR g (Nat.le_of_succ_le (zg (Fq _) (.inl (PySem.mem_of_lookup (eq_of_beq e))) h)),λe=>I.ok.hd e,I.ok.frames,.inl rfl,λb j=>⟨Ft (Fz (t b j) g),λx c e=>(sb x c e).elim (λz=>Nat.ne_of_gt (Fz (t b j) (FR g (Nat.le_of_succ_le z)))) λz=>(f b j).2.2.2.2.1 x c z⟩,
  I.bs,FR I.ok.bsz I.sz,λb o e j=>?_,λb j hz=>?_,I.stack,I.stkFree⟩,L,by rw[hg];exact I.bare,Un.kept keep,⟨_,ns,λi x v e1 w R=>?_⟩,A,σ.1,λx c e=>(sb x c e).elim (λz=>I.hok.fresh (FR g (Nat.le_of_succ_le z))) λz=>I.freeC x c z,λp F=>absurd (show p∈([]:List (Addr×Obj)) from F) (by simp),I.hok.kept keep,?_⟩
 .refine Option.isSome_iff_exists.mp (PySem.W.cellsFrom_some _ _ _ ?_)
  rcases mq D with m | m
  .obtain ⟨c,e⟩:=n x m
   exact .inr (by rw[uR e m];rfl)
  .exact .inl (d.cel _ m rfl)
 .rcases (f b j).2.2.2.1 with z | z
  .exact I.ok.noex b o e z
  .exact absurd (Fz (Fe e) (FR I.ok.bsz z)) (Nat.lt_irrefl _)
 .rcases Fc.mp (I.stkSub b hz) with e | e
  .exact (f b j).2.1 e
  .exact (f b j).2.2.1 e
 .-- a captured name
  have q:∃ k,ix[i]?=some (some k)/\O[k]?=some (some v):=by
   unfold cap at w
   grind
  obtain ⟨k,M,ev⟩:=q
  obtain ⟨K,m⟩:=d.cap i x k e1 M
  obtain ⟨S,P,hl⟩:=I.loc
  have J:Vis X.env.scope x:=by
   rcases d.out _ m rfl with q | q
   .exact .inr (.inl q)
   .exact .inr (.inr q)
  obtain ⟨u,r,l⟩:=hl k x v K ev J
  refine #[u,r,.inr ?_]
  rcases l with ⟨B,_⟩ | ⟨_,c,Q,G⟩
  .exfalso
   rcases d.out _ m rfl with q | q
   .have:=B.symm.trans q;cases this
   .have:=B.symm.trans q;cases this
  .obtain ⟨o,E,hd⟩:=G
   exact #[j5 (d.fre _ m rfl),c,(sR λz=>by have h1:scope.names.lookup x=_:=d.cel _ z rfl;rw[show scope.names.lookup x=_ from d.fre _ m rfl] at h1;cases h1).trans (uR Q m),o,keep c o E,hd]
 .show (cap ix O).length=NY.length
  unfold cap
  rw[Fh]
  exact d.len
set_option tactic.hygienic true in
theorem jd (I:Nat->Shared->Prop) (turn:∀ n s,I n s->wpAny (model prog w) A (pyNext it) (λr b=>match r with
   | none=>R (.ok .next) b
   | some v=>wpAny (model prog w) A (letOwnedTupleGo target it v) (λ_ a=>wpAny (model prog w) A (assign target env v) (λ_ j =>
     wpAny (model prog w) A (forIn ifs true λc r=>if r=true then do let ok <- isTrue c env (eval c env);pure (ForInStep.yield ok) else pure (ForInStep.yield r)) (λok e =>
      if ok=true then wpAny (model prog w) A (eval elt env) (λx g =>
       wpAny (model prog w) A (call (.builtin "list.append") [acc,x]) (λ_ f=>∃ m,m < n/\I m f) (λ_ _=>False) g) (λ_ _=>False) e
      else ∃ m,m < n/\I m e) (λ_ _=>False) j) (λ_ _=>False) a) (λ_ _=>False) b) (λ_ _=>False) s) (n:Nat) (h:I n s) :
  codeAny (model prog w) A (.compLoop (.ListComp elt [#[target,iter,ifs,0]] scope pos) 0 it acc env) R s:=by
 refine codeAny_loop rfl I (λn s p=>?_) n h
 show wpAny _ A ((compTurn (.ListComp elt [#[target,iter,ifs,0]] scope pos) 0 it acc env).onRaise (λx=>do noteFrame x env;theTreesLotGoes x)) _ _ s
 refine wpAny_noted ?_
 rw[compTurn_list]
 refine E2 (wpAny_standAt (E2 (wpAny_mono (turn n s p) (λr b k=>?_) λ_ _ h'=>h'.elim)))
 cases r with
 | none=>exact E3 k
 | some v =>
  refine E2 (wpAny_mono k (λ_ a d=>?_) λ_ _ h'=>h'.elim)
  refine E2 (wpAny_mono d (λ_ j l=>E2 (wpAny_mono l (λok e i=>?_) λ_ _ h'=>h'.elim)) λ_ _ h'=>h'.elim)
  cases ok with
  | false=>exact E3 #[rfl,i]
  | true =>
   exact E2 (E2 (wpAny_mono i (λx g o=>E2 (wpAny_mono o (λ_ f q=>E3 (E3 #[rfl,q])) λ_ _ h'=>h'.elim)) λ_ _ h'=>h'.elim))
set_option tactic.hygienic true in
theorem rf {RR:Value->Addr->Result->Shared->Prop} (hc:X.calm=true) (ck:CompOk scope X.N X.env.scope NY ix) (hg:∀ s H C fp,PG (aP X NY scope s H C fp) tg g) (ht:∀ s H C fp,PTs (aP X NY scope s H C fp) ifs tc) (he:∀ s H C fp,PE (aP X NY scope s H C fp) elt te) (I:Inv X pins O H s) (T:Turn X.prog X.w X.K tg J fp it tn) (st:tn 0 s.heap) (f:∀ b∈fp,FpOk X pins H b) (hW:rM J g tc te ρ (cap ix O) H) (bc:∀ D C s' ys H' m,s'.heap.Ns C m->H' D=none->FpOk X pins (upd H' D (.lst ys)) C->Inv X pins O (upd H' D (.lst ys)) s'->ρ ys H'->RR (.ref D) C (.ok .next) s') :
  wpAny (model X.prog X.w) X.A (newList []) (λacc s₃=>wpAny (model X.prog X.w) X.A (newFunctionEnv scope X.env.globals (clo X.env.cells scope.names) [] X.env.qual none .none (some X.env)) (λB s₄ =>
   codeAny (model X.prog X.w) X.A (.compStart (.ListComp elt [#[tg,iter,ifs,0]] scope pos) 0 (.ref it) acc { B with scope:=relabel scope X.env }) (RR acc B.locals) s₄) E s₃) E s:=by
 obtain ⟨W,⟨m0,w0⟩,turn⟩:=hW
 refine wpAny_newObj_type (nc ?_)
 dsimp only
 generalize F:s.heap.push { cls:=.type "list",dict:=none,data:=.seq ([]:List Value).toArray }=H2
 have V:H2.objs.size=s.heap.objs.size+1:=by rw[<- F,FP]
 have Q:s.heap.objs.size≠H2.objs.size:=by rw[V];exact Ft (Nat.lt_succ_self _)
 have j:s.heap.objs.size<=H2.objs.size:=by rw[V];exact Nat.le_succ _
 generalize P:s.heap.objs.size=D at *
 generalize hC:H2.objs.size=C at *
 have below:∀ b o,s.heap.get? b=some o->b < D:=λb o e=>by rw[<- P];exact Fe e
 have kp:∀ b o,H2.get? b=some o->(pushCells (H2.push { cls:=.type "dict",data:=.dict (List.toArray []) }) scope.names).get? b=some o:=λb o e=>pushCells_keeps _ _ b o (E7 _ e)
 have t:∀ b o,s.heap.get? b=some o->H2.get? b=some o:=λb o e=>F ▸ E7 _ e
 have az:∀ x c,(lX X scope C).lookup x=some c->∃ v,(pushCells (H2.push { cls:=.type "dict",data:=.dict (List.toArray []) }) scope.names).IsCell c v:=by
  have:=pv (names:=scope.names) (h:=H2.push { cls:=.type "dict",data:=.dict (List.toArray []) }) (acc:=clo X.env.cells scope.names) λx c e=>let #[v,q]:=I.cell x c (iq e);#[v,q.keeps λb o e=>E7 _ (t b o e)]
  rwa [FP,hC] at this
 have hns₁:(pushCells (H2.push { cls:=.type "dict",data:=.dict (List.toArray []) }) scope.names).Ns C λ_=>none:=hC ▸ (Heap.Ns.new H2 (.type "dict")).keeps (pushCells_keeps _ _)
 generalize pushCells (H2.push { cls:=.type "dict",data:=.dict (List.toArray []) }) scope.names=h₁ at kp az hns₁ ⊢
 have old:∀ b o,s.heap.get? b=some o->h₁.get? b=some o:=λb o e=>kp b o (t b o e)
 have σ:H2.get? D=some { cls:=.type "list",dict:=none,data:=.seq ([]:List Value).toArray }:=by
  rw[<- F,<- P];exact Fg _ rfl
 have a0:h₁.PlainList D (List.toArray []):=#[_,kp _ _ σ]
 have a5:∀ b∈fp,b < s.heap.objs.size:=λb a=>by
  obtain ⟨o,e,_⟩:=T.obj 0 _ st b a
  exact Fe e
 have k:∀ b∈fp,b < D:=λb a=>by rw[<- P];exact a5 b a
 have IY:Inv (aP X NY scope s H C fp) [] (cap ix O) H { s with heap:=h₁ } :=
  sQ ck I f (by rw[P];exact j) a5 rfl rfl old hns₁ az
 have b3:H D=none:=I.hok.fresh (by rw[P];exact Fq _)
 have l:∀ b∈frs X.stack,b < D:=λb a=>by
  obtain ⟨_,o,ho,_⟩:=I.stack.mem a
  exact below b o ho
 have loop:∀ s₃:Shared,s₃={ s with heap:=h₁ } ->
   codeAny (model X.prog X.w) X.A (.compLoop (.ListComp elt [#[tg,iter,ifs,0]] scope pos) 0 (.ref it) (.ref D) (aP X NY scope s H C fp).env) (RR (.ref D) C) s₃:=by
  rintro s₃ rfl
  refine jd (λn s'=>∃ i ys Y H' its,Inv (aP X NY scope s H C fp) [] Y H' s'/\H' D=none/\s'.heap.PlainList D its/\Vals ys its.toList/\tn i s'.heap/\(∀ b∈fp,H' b=none)/\W i n ys Y H') ?_ m0
   #[0,[],cap ix O,H,(List.toArray []),IY,b3,a0,.nil,T.keep _ _ _ st λb _ o e=>old b o e,λb a=>(f b a).1,w0]
  rintro n s3 ⟨i,ys,Y,S,its,I3,d3,l3,v3,ar,U,w3⟩
  obtain ⟨nl,e3⟩:=id l3
  have ab:Inv (aP X NY scope s H C fp) [(D,{ cls:=.type "list",data:=.seq its nl })] Y S s3:=I3.pins_of λp hp=>by
   have e:p=(D,{ cls:=.type "list",data:=.seq its nl }):=by simpa using hp
   subst e
   exact #[e3,d3,Q,λz=>Nat.lt_irrefl _ (l D z),λv z=>by cases z]
  have M:∀ {H':Hp} {pl:List (Addr×Obj)},(∀ b∈fp,H' b=none)->(∀ p∈pl,p.1=D)->∀ b∈fp,FpOk (aP X NY scope s H C fp) pl H' b:=λhn hp b a =>
   ⟨hn b a,Ft (Fz (k b a) j),λz=>by
    rcases Fc.mp (I.stkSub b z) with e | e
    .exact (f b a).2.1 e
    .exact (f b a).2.2.1 e,.inl a,λx c e=>(mZ e).elim (λz=>Nat.ne_of_gt (Fz (k b a) (FR j (Nat.le_of_succ_le z)))) λz=>(f b a).2.2.2.2.1 x c (iq z),λp a6=>by
    have e:p.1=D:=hp p ((Ff.mp a6).elim (λz=>absurd (show p∈([]:List (Addr×Obj)) from z) (by simp)) λz=>z)
    rw[e]
    exact Nat.ne_of_gt (k b a)⟩
  obtain ⟨zl,step⟩:=turn i n ys Y S w3
  have single:∀ p∈[(D,({ cls:=.type "list",data:=.seq its nl }:Obj))],p.1=D:=λp hp=>by
   have e:p=(D,{ cls:=.type "list",data:=.seq its nl }):=by simpa using hp
   rw[e]
  rcases step with ⟨stop,qn⟩ | ⟨go,N,hN,step⟩
  .refine wpAny_mono (T.done (aP X NY scope s H C fp) rfl rfl rfl hc i _ s3 Y S (λ_ _=>False) ab (M U single) ar stop) (λr s4 #[hr,L]=>?_) λ_ _ e=>e
   subst hr
   obtain ⟨mC,b0,_⟩:=id L.loc
   obtain ⟨e4,d4,_⟩:=L.pin (D,{ cls:=.type "list",data:=.seq its nl }) (by simp[aP])
   have bp:∀ b o,s.heap.get? b=some o->b≠D:=λb o e=>Ft (below b o e)
   have G:=L.base
   refine bc D C s4 ys S mC b0 d4 ?_ ?_ qn
   .exact (I.fpOk (by rw[P];exact j) (by exact L.free)).of_upd (Ne.symm Q)
   .refine I.call' (ch:=fp) L.os (H':=upd S D (.lst ys)) #[G.keep,G.slot,λb o e n hx=>?_,G.there,λb xs e=>?_,λb o u e=>?_,λb ps e=>?_] ?_ L.bare λb a=>?_
    .rw[aF (bp b o e)];exact G.free b o e n hx
    .have q:=G.tups b xs e;rw[aF (aV q d4)];exact q
    .have q:=G.frzs b o u e;rw[aF (aV q d4)];exact q
    .obtain ⟨more,q⟩:=G.tbls b ps e;exact #[more,by rw[aF (aV q d4)];exact q]
    .exact L.hok.track d4 #[Nat.le_of_lt zl,its.toList,nl,v3,by simpa using e4]
    .exact #[(f b a).2.2.2.1,(f b a).2.1,(f b a).2.2.2.2.1,(f b a).2.2.2.2.2]
  .refine wpAny_mono (T.item (aP X NY scope s H C fp) rfl rfl rfl hc i _ s3 Y S (λ_ _=>False) ab (M U single) ar go) (λr s4 #[u,hr,h4]=>?_) λ_ _ e=>e
   subst hr
   refine wpAny_mono h4 (λ_ s5 #[x,H5,I5,r5,y5,R,be]=>?_) λ_ _ e=>e
   have a8:=I5.pinned (M be single) (T.obj _ _ R)
   refine wpAny_mono (hg s H C fp _ s5 Y H5 x u _ a8 r5 (step x H5 y5)) (λ_ s6 #[Y6,H6,I6,q6]=>?_) λ_ _ e=>e
   refine wpAny_mono (ht s H C fp _ s6 Y6 H6 _ I6 q6) (λb s7 #[H7,I7,q7]=>?_) λ_ _ e=>e
   have after:∀ {s':Shared} {H':Hp},Inv (aP X NY scope s H C fp) ([(D,{ cls:=.type "list",data:=.seq its nl })]++mB fp s5.heap) Y6 H' s'->tn (i+1) s'.heap/\(∀ b∈fp,H' b=none)/\H' D=none/\s'.heap.PlainList D its:=λ{s' H'} I' =>
    ⟨T.keep _ _ _ R λb a o e=>(I'.pin (b,o) (Fb _ (Fb _ (gz a e)))).1,λb a=>by
     obtain ⟨o,e,d⟩:=T.obj _ _ R b a
     exact (I'.pin (b,o) (Fb _ (Fb _ (gz a e)))).2.1,(I'.pin (D,_) (Fb _ (E9 _ (FJ.mpr rfl)))).2.1,
     nl,(I'.pin (D,_) (Fb _ (E9 _ (FJ.mpr rfl)))).1⟩
   cases b with
   | false =>
    rw[if_neg Fs]
    rw[if_neg Fs] at q7
    obtain ⟨m',hm,w7⟩:=hN _ _ _ q7
    obtain ⟨a1,a2,a3,a4⟩:=after I7
    exact #[m',hm,i+1,ys,Y6,H7,its,I7.pins_of (λ_ z=>absurd z (by simp)),a3,a4,v3,a1,a2,w7]
   | true =>
    rw[if_pos rfl]
    rw[if_pos rfl] at q7
    refine wpAny_mono (he s H C fp _ s7 Y6 H7 _ I7 q7) (λy s8 #[yv,H8,I8,r8,n8]=>?_) λ_ _ e=>e
    obtain ⟨m',hm,w8⟩:=hN _ _ _ n8
    obtain ⟨a1,a2,a3,a4⟩:=after I8
    have b4:ys.length=its.size:=by simpa using v3.length
    have hsz:its.size<=sizeLine:=by lia
    refine wpAny_list_append_plain (hsz:=hsz) a4 λh9 l9 τ=>?_
    have I9:Inv (aP X NY scope s H C fp) [] Y6 H8 { s8 with heap:=h9,toks:=s8.toks }:=(I8.pins_of (pins':=[]) λ_ z=>absurd z (by simp)).turned (it:=D) (λb o a e=>(τ.2 b a).trans e) a3 Q (.inr (by show s.heap.objs.size<=D;rw[P];exact Fq _)) (λx c e z=>?_) λp z=>absurd (show p∈([]:List (Addr×Obj)) from z) (by simp)
    .refine #[m',hm,i+1,ys++[yv],Y6,H8,its.push y,I9,a3,l9,?_,T.keep _ _ _ a1 λb a o e=>(τ.2 b (Ft (k b a))).trans e,a2,w8]
     rw[Array.toList_push]
     exact v3.append (.cons r8 .nil)
    .rcases mZ e with q | q
     .rw[z] at q;exact Nat.lt_irrefl _ (Fz (Nat.lt_of_le_of_lt j (Nat.lt_succ_self _)) q)
     .obtain ⟨v,o,ho,_⟩:=I.cell x c (iq q)
      exact Nat.lt_irrefl _ (z ▸ below c o ho)
 exact codeAny_compStart_list (loop _ rfl) (T.self X.A 0 _ _ _ (T.keep _ _ _ st λb _ o e=>old b o e) (loop _ rfl))
theorem AR (NY:List Str) (ix:List (Option Nat)) (k:X.calm=true) (hi:PI X tg iter wi) (hg:∀ s H C fp,PG (aP X NY scope s H C fp) tg g) (n:∀ s H C fp,PTs (aP X NY scope s H C fp) ifs tc) (he:∀ s H C fp,PE (aP X NY scope s H C fp) elt te) (a:jb scope X.N X.env.scope NY ix=true) (u:∀ x,foldedSetIterable iter X.env x=pure x:=by intro _;rfl):PE X (.ListComp elt [#[tg,iter,ifs,0]] scope pos) (B0 wi g tc te ix):=by
 intro pins s O H Q I h
 have a:=CompOk.of a
 rw[eval_ListComp]
 refine wpAny_comprehension_free (use:=none) rfl u (je (scope:=scope) (env:=X.env) λx m e=>?_) a.kind a.loc (thn (hi pins s O H _ I h) λv s1 h1=>thn h1 λd s2 h2=>?_)
 .rcases a.out x m e with q | q
  .exact I.ok.has x.1 (.inl q)
  .exact I.ok.has x.1 (.inr q)
 .obtain ⟨it,fp,B,J,H2,e,y,T,c,f2,i⟩:=h2
  subst e
  refine rf (RR:=λacc C=>compPost (model X.prog X.w) X.A X.xe none (EP X pins O Q) acc C) k a hg n he y T c f2 i ?_
  intro D C s' ys H' m hn p r j f
  obtain ⟨f0,f1,f2,z,f4,t⟩:=r
  exact #[m,hn,λh' sb=>#[.ref D,_,j.turned (t':=s'.toks) (λb o l e=>(sb.2 b l).trans e) f0 f1 z f4 t,rfl,f D p]]
def B7 (i:Nat) (a:TI) (g:TG) (tc:TT) (te:TE) (ix:List (Option Nat)):TS:=λD O H =>
 a O H λJ H1=>rM J g tc te (λys H2=>∀ p,H2 p=none->D.nx (O.set i (some (.ref p))) (upd H2 p (.lst ys))) (cap ix O) H1
set_option tactic.hygienic true in
theorem sj {i:Nat} (P:X.N.Nodup) (U:X.N[i]?=some y) (u:Loc X.env.scope y) (NY:List Str) (ix:List (Option Nat)) (F:X.calm=true) (hi:PI X tg iter wi) (hg:∀ s H C fp,PG (aP X NY scope s H C fp) tg g) (K:∀ s H C fp,PTs (aP X NY scope s H C fp) ifs tc) (he:∀ s H C fp,PE (aP X NY scope s H C fp) elt te) (c:jb scope X.N X.env.scope NY ix=true) (j:swapsWith (.ListComp elt [#[tg,iter,ifs,0]] scope pos) (some (.Name y py)) spos.line X.env=pure true:=by rfl) (hf:X.fn y=true\/X.env.scope.names.lookup y=some .local:=by first | exact .inl rfl | exact .inr rfl | assumption) (S:∀ x,foldedSetIterable iter X.env x=pure x:=by intro _;rfl):PS X (.Assign [.Name y py] (.ListComp elt [#[tg,iter,ifs,0]] scope pos) spos) (B7 i wi g tc te ix):=by
 intro pins s O H D I h
 have c:=CompOk.of c
 rw[exec_Assign_Name_used _ _ _ _ j]
 refine E2 (wpAny_standAt (E2 ?_))
 show wpAny _ X.A (do let _ <- comprehension (.ListComp elt [#[tg,iter,ifs,0]] scope pos) scope X.env _ (newList []) false (eval iter X.env) (some (assign (.Name y py) X.env))) _ _ s
 refine E2 (wpAny_mono (wpAny_comprehension_free (use:=some (assign (.Name y py) X.env)) (Q:=λ_ s'=>SP X pins D .next s') rfl S (je (scope:=scope) (env:=X.env) λx m e=>?_) c.kind c.loc
  (thn (hi pins s O H _ I h) λv s1 h1=>thn h1 λp s2 h2=>?_)) (λ_ s' σ=>E3 (E3 σ)) λ_ _ e=>e)
 .rcases c.out x m e with q | q
  .exact I.ok.has x.1 (.inl q)
  .exact I.ok.has x.1 (.inr q)
 .obtain ⟨it,fp,τ,J,H2,e,V,T,k,f2,t⟩:=h2
  subst e
  refine rf (RR:=λacc C=>compPost (model X.prog X.w) X.A X.xe (some (assign (.Name y py) X.env)) (λ_ s'=>SP X pins D .next s') acc C) F c hg K he V T k f2 t ?_
  intro D' C s' ys H' m hn L M B r
  obtain ⟨f0,f1,f2,W,f4,R⟩:=M
  show wpAny _ X.A (assign (.Name y py) X.env (.ref D')) _ _ _
  refine wpAny_assign_Name (nM B P U u (v:=.ref D') rfl (λd n #[a,sb,E]=>?_) hf)
  have l:C≠a:=by
   rcases E with e | e
   .rw[e];exact f1
   .exact λz=>f4 y a e z.symm
  exact #[m,hn.sameBut sb l,λh' f=>#[_,_,n.turned (t':=d.toks) (λb o G e=>(f.2 b G).trans e) f0 f1 W f4 R,r D' L]]
end
section
variable {X:Cx}
inductive KindOf (K:FG) (H:Hp):V->String->Prop
 | int (i:Int):KindOf K H (.int i) "int"
 | bool (b:Bool):KindOf K H (.bl b) "bool"
 | str (x:Str):KindOf K H (.str x) "str"
 | non:KindOf K H .non "NoneType"
 | tuple {a:Addr} {xs:List V}:SqT K H a xs->KindOf K H (.ref a) "tuple"
 | list {a:Addr} {xs:List V}:SqL K H a xs->KindOf K H (.ref a) "list"
 | dK {a:Addr} {kvs}:H a=some (.dK kvs)->KindOf K H (.ref a) "dict"
 | dT {a:Addr} {kvs n}:H a=some (.dT kvs n)->KindOf K H (.ref a) "dict"
def qP (k t:String):Bool:=k == t || (k == "bool" && t == "int")
theorem Inv.clsK (I:Inv X pins O H s) (h:KindOf X.K H (.ref a) k):∃ o,s.heap.get? a=some o/\o.cls=.type k:=by
 cases h with
 | tuple h=>obtain ⟨its,_,⟨o,e,c,_⟩,_⟩:=I.tuple h;exact #[o,e,c]
 | list h=>obtain ⟨its,_,⟨o,n,e,c,_⟩,_⟩:=I.list h;exact #[o,e,c]
 | dK h=>obtain ⟨_,_,_,_,o,_,_,e,c,_⟩:=I.hok a _ h;exact #[o,e,c.1]
 | dT h=>obtain ⟨_,_,_,_,o,_,_,e,c,_⟩:=I.hok a _ h;exact #[o,e,c.1]
theorem pA:dU X (.builtin "isinstance") (λxs H Q=>∃ x k,xs=[x,.ty "int"]/\KindOf X.K H x k/\Q (.bl (qP k "int")) H):=by
 intro pins s O H xs us Q I r h
 obtain ⟨x,k,rfl,f,q⟩:=h
 obtain ⟨u,v,rfl,a,d⟩:=nJ r
 cases (show v=Value.type "int" from d)
 cases f with
 | int i=>obtain ⟨tk,rfl⟩:=a;exact IsiPair.int_int #[.bl true,H,I,rfl,q]
 | bool b=>cases (show u=Value.bool b from a);exact IsiPair.bool_int #[.bl true,H,I,rfl,q]
 | str z=>obtain ⟨tk,rfl⟩:=a;exact IsiPair.str_int #[.bl false,H,I.tok _,rfl,q]
 | non=>cases (show u=Value.none from a);exact IsiPair.NoneType_int #[.bl false,H,I.tok _,rfl,q]
 | tuple hh=>cases a;obtain ⟨o,e,c⟩:=I.clsK (.tuple hh);exact IsiPair.tuple_int e c #[.bl false,H,I.tok _,rfl,q]
 | list hh=>cases a;obtain ⟨o,e,c⟩:=I.clsK (.list hh);exact IsiPair.list_int e c #[.bl false,H,I.tok _,rfl,q]
 | dK hh=>cases a;obtain ⟨o,e,c⟩:=I.clsK (.dK hh);exact IsiPair.dict_int e c #[.bl false,H,I.tok _,rfl,q]
 | dT hh=>cases a;obtain ⟨o,e,c⟩:=I.clsK (.dT hh);exact IsiPair.dict_int e c #[.bl false,H,I.tok _,rfl,q]
theorem nD:dU X (.builtin "isinstance") (λxs H Q=>∃ x k,xs=[x,.ty "bool"]/\KindOf X.K H x k/\Q (.bl (qP k "bool")) H):=by
 intro pins s O H xs us Q I r h
 obtain ⟨x,k,rfl,f,q⟩:=h
 obtain ⟨u,v,rfl,a,d⟩:=nJ r
 cases (show v=Value.type "bool" from d)
 cases f with
 | int i=>obtain ⟨tk,rfl⟩:=a;exact IsiPair.int_bool #[.bl false,H,I.tok _,rfl,q]
 | bool b=>cases (show u=Value.bool b from a);exact IsiPair.bool_bool #[.bl true,H,I,rfl,q]
 | str z=>obtain ⟨tk,rfl⟩:=a;exact IsiPair.str_bool #[.bl false,H,I.tok _,rfl,q]
 | non=>cases (show u=Value.none from a);exact IsiPair.NoneType_bool #[.bl false,H,I.tok _,rfl,q]
 | tuple hh=>cases a;obtain ⟨o,e,c⟩:=I.clsK (.tuple hh);exact IsiPair.tuple_bool e c #[.bl false,H,I.tok _,rfl,q]
 | list hh=>cases a;obtain ⟨o,e,c⟩:=I.clsK (.list hh);exact IsiPair.list_bool e c #[.bl false,H,I.tok _,rfl,q]
 | dK hh=>cases a;obtain ⟨o,e,c⟩:=I.clsK (.dK hh);exact IsiPair.dict_bool e c #[.bl false,H,I.tok _,rfl,q]
 | dT hh=>cases a;obtain ⟨o,e,c⟩:=I.clsK (.dT hh);exact IsiPair.dict_bool e c #[.bl false,H,I.tok _,rfl,q]
theorem m4:dU X (.builtin "isinstance") (λxs H Q=>∃ x k,xs=[x,.ty "tuple"]/\KindOf X.K H x k/\Q (.bl (qP k "tuple")) H):=by
 intro pins s O H xs us Q I r h
 obtain ⟨x,k,rfl,f,q⟩:=h
 obtain ⟨u,v,rfl,a,d⟩:=nJ r
 cases (show v=Value.type "tuple" from d)
 cases f with
 | int i=>obtain ⟨tk,rfl⟩:=a;exact IsiPair.int_tuple #[.bl false,H,I.tok _,rfl,q]
 | bool b=>cases (show u=Value.bool b from a);exact IsiPair.bool_tuple #[.bl false,H,I.tok _,rfl,q]
 | str z=>obtain ⟨tk,rfl⟩:=a;exact IsiPair.str_tuple #[.bl false,H,I.tok _,rfl,q]
 | non=>cases (show u=Value.none from a);exact IsiPair.NoneType_tuple #[.bl false,H,I.tok _,rfl,q]
 | tuple hh=>cases a;obtain ⟨o,e,c⟩:=I.clsK (.tuple hh);exact IsiPair.tuple_tuple e c #[.bl true,H,I,rfl,q]
 | list hh=>cases a;obtain ⟨o,e,c⟩:=I.clsK (.list hh);exact IsiPair.list_tuple e c #[.bl false,H,I.tok _,rfl,q]
 | dK hh=>cases a;obtain ⟨o,e,c⟩:=I.clsK (.dK hh);exact IsiPair.dict_tuple e c #[.bl false,H,I.tok _,rfl,q]
 | dT hh=>cases a;obtain ⟨o,e,c⟩:=I.clsK (.dT hh);exact IsiPair.dict_tuple e c #[.bl false,H,I.tok _,rfl,q]
theorem wy {bs:List Bool}:((List.range bs.length).all λi=>bs.getD i false)=bs.all id:=by
 rw[Bool.eq_iff_iff]
 simp only[List.all_eq_true,List.mem_range,id]
 constructor
 .intro h b a
  obtain ⟨i,hi,rfl⟩:=List.mem_iff_getElem.mp a
  simpa[List.getD,hi] using h i hi
 .intro h i hi
  simpa[List.getD,hi] using h _ (List.getElem_mem hi)
theorem zj (t:X.calm=true):dU X (.builtin "all") (λxs H Q=>∃ (a:Addr) (bs:List Bool),xs=[.ref a]/\SqL X.K H a (bs.map V.bl)/\Q (.bl (bs.all id)) H):=by
 intro pins s O H xs us Q I r h
 obtain ⟨a,bs,rfl,z,q⟩:=h
 obtain ⟨u,rfl,f⟩:=jP r
 cases f
 obtain ⟨its,k,p,hz⟩:=I.list z
 have hl:=k.length
 rw[Fh] at hl
 have g:a < s.heap.objs.size:=by obtain ⟨o,_,e,_⟩:=id p;exact Fe e
 refine call_all_walk (wpAny_pyIter_list p.isList ?_)
 refine #[s.heap.objs.size,_,_,_,_,_,λi=>bs.getD i false,rfl,Walks.list (show X.A.in1.handled=none from I.ok.hd t) s.heap.objs.size a (Ft g) its.toArray,#[#[_,Fg _ rfl,rfl,rfl],p.isList.at λo e=>E7 _ e],?_,?_]
 .intro i v s' m B w j
  have c:its[i]?=some v:=by simpa using w
  have hi:i < bs.length:=by
   have:=(Fi.mp c).1
   lia
  obtain ⟨u,hu,f⟩:=k.get (i:=i) (x:=V.bl (bs[i])) (by simp[hi])
  rw[c] at hu
  cases hu
  cases (show v=Value.bool bs[i] from f)
  refine FQ ?_
  have e:bs.getD i false=bs[i]:=by simp[List.getD,hi]
  have d:m (bs.getD i false) s':=j
  rw[e] at d
  exact d
 .intro h' tk n
  have l:Inv X pins O H { s with heap:=h',toks:=tk }:=I.kept λb o e=>n b o (by
   intro hm
   have y:b=s.heap.objs.size:=by simpa using hm
   exact absurd (y ▸ Fe e) (Nat.lt_irrefl _)) (E7 _ e)
  refine #[.bl (bs.all id),H,l,?_,q]
  show Value.bool _=Value.bool _
  rw[Fu,<- hl,wy]
def Ite (K:FG) (a:Addr):It :=
 #[λi H=>∃ xs x,SqL K H a xs/\xs[i]?=some x,λi H x H'=>∃ T y,x=.ref T/\H T=none/\H'=upd H T (.tup [.int i,y])/\∀ xs,SqL K H a xs->xs[i]?=some y,λi H=>∃ xs,SqL K H a xs/\xs.length<=i]
theorem Inv.two {tk:Nat} (I:Inv X pins O H s) (f:FpOk X pins H e) (g:FpOk X pins H it) (k:∀ b o,b≠e->b≠it->s.heap.get? b=some o->h'.get? b=some o):Inv X pins O H { s with heap:=h',toks:=tk }:=by
 have j:∀ b u,H b=some u->b≠e/\b≠it:=λb u q=>#[aV q f.1,aV q g.1]
 have a:∀ b,b ∉ [e,it]->b≠e/\b≠it:=λb h=>#[λz=>h (by simp[z]),λz=>h (by simp[z])]
 refine I.step (g':=s.gens) (d':=s.drawn) (ch:=[e,it]) (λb h=>?_) (λb o _ _ d q _=>k b o (a b d).1 (a b d).2 q) (λb o _ _ d q _=>#[o.slots,k b o (a b d).1 (a b d).2 q]) (λ_ _ _ _ n=>n)
  (λb o d q=>#[o,k b o (a b d).1 (a b d).2 q]) (λ_ _ q=>q) (λ_ _ _ q=>q) (λb ps q=>#[(List.toArray []),by rw[q];simp]) (λm hm=>?_) (λb u q=>?_) I.bare
 .have i:b=e\/b=it:=by simpa using h
  rcases i with rfl | rfl
  .exact #[f.2.2.2.1,f.2.1,f.2.2.2.2.1,f.2.2.2.2.2]
  .exact #[g.2.2.2.1,g.2.1,g.2.2.2.2.1,g.2.2.2.2.2]
 .obtain ⟨o,es,p,l,r⟩:=hm
  exact #[o,es,p,k _ o (Ne.symm f.2.1) (Ne.symm g.2.1) l,r]
 .refine (I.hok b u q).stay (λc v d z=>?_) (λ_ z=>z) λ_ _ z=>z
  grind
theorem Inv.trackT (I:Inv X pins O H s) (J:Inv X pins O H s0) (hT:s0.heap.objs.size<=T) (g:IsTupD s.heap T its.toArray) (A:Vals xs its) (hz:xs.length<=sizeLine):Inv X pins O (upd H T (.tup xs)) s:=by
 have hn:H T=none:=J.hok.fresh hT
 obtain ⟨e1,m,l,a,z,B,E,D,w,j,f⟩:=id I
 have d:∀ b,H b=none->∀ o,s0.heap.get? b=some o->upd H T (.tup xs) b=none:=λb y o e=>by
  rw[aF (Ft (Fz (Fe e) hT))];exact y
 have i:∀ b u,H b=some u->upd H T (.tup xs) b=some u:=λb u e=>by rw[aF (aV e hn)];exact e
 have h:X.s₀.heap.objs.size<=T:=FR J.sz hT
 refine #[e1,m,l,#[a.keep,a.slot,λb o q n g=>?_,a.there,λb ys q=>i _ _ (a.tups b ys q),λb o u q=>i _ _ (a.frzs b o u q),λb ps q=>?_],z,B,?_,λx c q=>?_,λp k=>?_,?_,f]
 .rw[aF (Ft (Fz (Fe q) h))];exact a.free b o q n g
 .obtain ⟨more,C⟩:=a.tbls b ps q;exact #[more,i _ _ C]
 .rw[aF (Ft (Fz J.lt hT))];exact E
 .obtain ⟨v,o,r,_⟩:=J.cell x c q
  exact d c (D x c q) o r
 .obtain ⟨a1,a2,t⟩:=w p k
  exact #[a1,d p.1 a2 p.2 (J.pin p k).1,t]
 .exact j.track hn #[hz,its,A,g]
theorem u7 {P:Program} {w:World} {K:FG} {elts:List Expr} {k:Nat} {pos:Pos} (a e it:Addr) (y:e≠it):Turn P w K (.Tuple elts k pos) (Ite K a) [e,it] e (λi h=>(∃ old,IsEnum h e it i old)/\h.IsListIter it a i) where
 mem:=by simp
 obj:=λi h st b g=>by
  obtain ⟨⟨old,he⟩,o,l,c,d⟩:=st
  have L:b=e\/b=it:=by simpa using g
  rcases L with rfl | rfl
  .exact #[_,he,λv z=>by cases z]
  .exact #[o,l,λv z=>by rw[d] at z;cases z]
 keep:=λi h h' st k=>#[let #[old,he]:=st.1;#[old,k e (by simp) _ he],st.2.at λo q=>k it (by simp) o q]
 item:=by
  intro X C hw M N i pins s O H E I hf st hg
  subst C hw M
  obtain ⟨xs,x,A,G⟩:=hg
  obtain ⟨its,J,p,hz⟩:=I.list A
  obtain ⟨u,hu,V⟩:=J.get G
  obtain ⟨⟨old,he⟩,hit⟩:=st
  refine wpAny_pyNext_enum_item he hit p.isList (x:=u) (by simpa using hu) y λh' D t hT hsz Q=>?_
  refine #[_,rfl,wpAny_letOwnedTupleGo_enum D λn m f=>?_]
  have j:e < s.heap.objs.size:=Fe he
  have σ:Inv X pins O H { s with heap:=n,toks:=s.toks+1 }:=I.two (hf e (by simp)) (hf it (by simp)) λb o hb1 hb2 q=>(f.2 b hb1).trans (Q b o hb1 hb2 q)
  have B:n.get? s.heap.objs.size=some { cls:=.type "tuple",data:=.seq (List.toArray [.int i s.toks,u]) }:=(f.2 _ (Nat.ne_of_gt j)).trans hT
  have R:=σ.trackT (s0:=s) (T:=s.heap.objs.size) (xs:=[.int i,x]) (its:=[.int i s.toks,u]) I (Fq _) #[_,B,rfl,_,rfl] (.cons #[_,rfl] (.cons V .nil)) (by show 2<=sizeLine;decide)
  refine #[.ref s.heap.objs.size,_,R,rfl,#[_,x,rfl,I.hok.fresh (Fq _),rfl,λys τ=>by rw[I.list_inj τ A];exact G],#[#[_,by simpa using m],?_],λb g=>?_]
  .obtain ⟨o,l,r⟩:=t
   exact #[o,(f.2 it (Ne.symm y)).trans l,r]
  .have F:b < s.heap.objs.size:=by
    have L:b=e\/b=it:=by simpa using g
    rcases L with rfl | rfl
    .exact j
    .obtain ⟨o,l,r⟩:=hit;exact Fe l
   rw[aF (Ft F)]
   exact (hf b g).1
 done:=by
  intro X C hw M N i pins s O H E I hf st hg
  subst C hw M
  obtain ⟨xs,A,G⟩:=hg
  obtain ⟨its,J,p,hz⟩:=I.list A
  obtain ⟨⟨old,he⟩,hit⟩:=st
  have hl:=J.length
  obtain ⟨f0,f1,f2,S,f4,W⟩:=hf it (by simp)
  exact wpAny_pyNext_enum_end (I.ok.hd N) he hit p.isList (by simp;lia) λh' U=>#[rfl,I.turned (t':=s.toks) (λb o g q=>U b o g q) f0 f1 S f4 W]
 self:=λ_ _ _ _ _ st h=>let #[_,he]:=st.1;wpAny_pyIter_enum he h
def Ck (K:FG) (ta:TA):TI:=λO H R=>ta O H λvs H1=>∃ a,vs=[.ref a]/\(∃ xs,SqL K H1 a xs)/\R (Ite K a) H1
theorem AN {k:Nat} (hg:Gl X "enumerate") (hm:X.mg "enumerate"=none) (i:PA X [a] ta) (n:starEach [a] X.env=[(false,eval a X.env)]:=by rfl):PI X (.Tuple elts k tp) (.Call (.Name "enumerate" p) [a] [] pos) (Ck X.K ta):=by
 intro pins s O H R I h
 refine Call_ (iY I hg hm boot_enumerate (PyProof.Rows.callWith_type1 (thn (i pos pins s O H _ I h) λus s1 #[vs,H1,d,j,f]=>?_) n rfl))
 obtain ⟨a,e,⟨xs,l⟩,q⟩:=f
 subst e
 obtain ⟨u,rfl,m⟩:=jP j
 cases m
 obtain ⟨its,t,pl,hz⟩:=d.list l
 refine call_enumerate_list pl.isList λh' he hit hsz g=>?_
 refine wpAny_pyIter_enum he ?_
 have o:Inv X pins O H1 { s1 with heap:=h' }:=d.kept (t':=s1.toks) g
 refine #[s1.heap.objs.size+1,[s1.heap.objs.size+1,s1.heap.objs.size],_,_,H1,rfl,o,u7 a _ _ (Nat.succ_ne_self _),#[#[_,he],hit],λb r=>?_,q]
 have c:s1.heap.objs.size<=b:=by
  grind
 exact d.fpOk c (d.hok.fresh c)
end
structure Callee (P:Program) (w:World) (K:FG) (mg:Str->Option Value) (base:Heap) (x:Str) (k:Nat) (ps:List Str) (sp:Sp):Prop where
 ex:∃ (f:Addr) (fd:FuncData),FnOk P w K mg base CX0 k f fd ps sp/\mg x=some (.ref f)/\PySem.W.keepIn K (.ref f)=true/\Binds K fd ps []
structure DefAt (K:FG) (mg:Str->Option Value) (x:Str) (st:Stmt) (f:Addr) (fd:FuncData):Prop where
 fn:Fun K x x st f fd
 mg:mg x=some (.ref f)
def Def (K:FG) (mg:Str->Option Value) (x:Str) (st:Stmt):Prop:=∃ f fd,DefAt K mg x st f fd
theorem Def.callee {K:FG} {st:Stmt} {k:Nat} (D:Def K mg x st) (b:∀ (kV doc pm:Value) (an:Option Addr) (a ct:Value) (us:List Value),us.length=ps.length->bindArgs (PySem.W.fnOf x x (aY st) (aS st) (ai st) .none kV doc pm an a ct) #[us,[]]=pure (ps.zip us)) (h:∀ f fd,Fun K x x st f fd->FnOk P w K mg base CX0 k f fd ps sp):Callee P w K mg base x k ps sp :=
 let #[f,fd,d]:=D
 #[f,fd,h f fd d.fn,d.mg,d.fn.kp,d.fn.binds b]
section
variable {X:Cx} {x:Str} {p pos:Pos} {e:Expr} {es:List Expr} {t:TA} {k:Nat} {ps:List Str} {sp:Sp}
def tFn (sp:Sp) (t:TA):TE:=λO H Q=>t O H λvs H1=>sp vs H1 Q E0
theorem pe_fn (c:Callee X.prog X.w X.K X.mg X.base x k ps sp) (i:Room k X.A) (j:PA X (e::es) t) (hg:Gl X x:=by rfl) (a:(x == ("__debug__":Str))=false:=by decide)
  (he:starEach (e::es) X.env=(false,eval e X.env)::starEach es X.env:=by rfl) (b:(backTo pos (starEach es X.env)).any (·.1)=false:=by rfl):PE X (.Call (.Name x p) (e::es) [] pos) (tFn sp t):=by
 obtain ⟨f,fd,F,hm,g,l⟩:=c.ex
 have h:=AT (pos:=pos) (p:=p) (dvs:=[]) (E:=E0) F i hg hm g l .nil pass0 j a he b
 intro pins s O H Q I q
 refine h pins s O H Q I ?_
 show t O H λvs H1=>sp (vs++[]) H1 Q E0
 have d:t O H (λvs H1=>sp vs H1 Q E0):=q
 simpa using d
end
def But (p:Addr) (H H':Hp):Prop:=∀ b o,H b=some o->b≠p->H' b=some o
theorem But.trans (a:But p H H1) (b:But p H1 H2):But p H H2:=λc o h n=>b c o (a c o h n) n
abbrev Pt:=Int×Int
def aU (p q r:Pt):Int:=(q.1 - p.1) * (r.2 - p.2) - (q.2 - p.2) * (r.1 - p.1)
def Small (p:Pt):Prop:=-(2 ^ 62) < p.1/\p.1 < 2 ^ 62/\-(2 ^ 62) < p.2/\p.2 < 2 ^ 62
def Rising (ps:List Pt):Prop:=∀ (i j:Nat) (p q:Pt),i < j->ps[i]?=some p->ps[j]?=some q->p.1 < q.1
def NoLine (ps:List Pt):Prop:=∀ (i j k:Nat) (p q r:Pt),i < j->j < k->ps[i]?=some p->ps[j]?=some q->ps[k]?=some r->aU p q r≠0
structure GoodSh (ps:List Pt):Prop where
 pos:0 < ps.length
 most:ps.length<=24
 small:∀ p∈ps,Small p
 rising:Rising ps
 noline:NoLine ps
def ld:List Pt->List (Pt×Pt)
 | []=>[]
 | p::r=>r.map (λq=>(p,q))++ld r
theorem n9:∀ {ps:List Pt} {i j:Nat} {p q:Pt},i < j->ps[i]?=some p->ps[j]?=some q->(p,q)∈ld ps
 | [],_,_,_,_,_,h,_=>by simp at h
 | a::r,0,0,_,_,h,_,_=>by lia
 | a::r,0,j+1,p,q,_,h1,h2=>by
  simp at h1 h2;subst h1
  exact E9 _ (Fo.mpr #[q,Fj h2,rfl])
 | a::r,i+1,0,_,_,h,_,_=>by lia
 | a::r,i+1,j+1,p,q,h,h1,h2=>Fb _ (n9 (ps:=r) (i:=i) (j:=j) (by lia) (by simpa using h1) (by simpa using h2))
theorem qt:∀ {ps:List Pt} {p q:Pt},(p,q)∈ld ps->∃ i j:Nat,i < j/\ps[i]?=some p/\ps[j]?=some q
 | [],_,_,h=>by simp[ld] at h
 | a::r,p,q,h=>by
  rcases Ff.mp h with h | h
  .obtain ⟨z,hz,e⟩:=Fo.mp h
   cases e
   obtain ⟨j,b,e⟩:=List.mem_iff_getElem.mp hz
   exact #[0,j+1,by lia,rfl,by simp[b,e]]
  .obtain ⟨i,j,h0,h1,h2⟩:=qt h
   exact #[i+1,j+1,by lia,by simpa using h1,by simpa using h2]
theorem n4:∀ ps:List Pt,(ld ps).length<=ps.length * ps.length
 | []=>by simp[ld]
 | a::r=>by
  have b:=n4 r
  simp only[ld,FD,Fh,FE]
  have:(r.length+1) * (r.length+1)=r.length * r.length+2 * r.length+1:=by
   rw[Nat.add_mul,Nat.mul_add];lia
  lia
def zD (ps:List Pt) (z:Pt):Prop:=∀ (i j:Nat) (p q:Pt),i < j->ps[i]?=some p->ps[j]?=some q->aU p q z≠0
def above (ps:List Pt) (x y:Int):Nat:=((ld ps).filter λpr=>decide (aU pr.1 pr.2 (x,y)<=0)).length
theorem zd {α:Type} {p q:α->Bool}:∀ {l:List α},(∀ a∈l,p a=true->q a=true)->(l.filter p).length<=(l.filter q).length
 | [],_=>by simp
 | a::l,h=>by
  have e:=zd (l:=l) λb g=>h b (E6 _ g)
  have f:=h a E5
  cases c:p a with
  | true=>rw[List.filter_cons_of_pos c,List.filter_cons_of_pos (f c)];simpa using e
  | false =>
   rw[List.filter_cons_of_neg (by simp[c])]
   cases d:q a with
   | true=>rw[List.filter_cons_of_pos d];simp;lia
   | false=>rw[List.filter_cons_of_neg (by simp[d])];exact e
theorem zc {α:Type} {p q:α->Bool}:∀ {l:List α} {z:α},(∀ a∈l,p a=true->q a=true)->z∈l->q z=true->p z=false->(l.filter p).length < (l.filter q).length
 | [],_,_,hz,_,_=>by simp at hz
 | a::l,z,h,hz,h1,h2=>by
  have hl:∀ b∈l,p b=true->q b=true:=λb g=>h b (E6 _ g)
  rcases Fc.mp hz with rfl | hz
  .rw[List.filter_cons_of_neg (by simp[h2]),List.filter_cons_of_pos h1]
   have:=zd hl
   simp;lia
  .have e:=zc hl hz h1 h2
   have f:=h a E5
   cases c:p a with
   | true=>rw[List.filter_cons_of_pos c,List.filter_cons_of_pos (f c)];simpa using e
   | false =>
    rw[List.filter_cons_of_neg (by simp[c])]
    cases d:q a with
    | true=>rw[List.filter_cons_of_pos d];simp;lia
    | false=>rw[List.filter_cons_of_neg (by simp[d])];exact e
theorem uU (p q:Pt) (x y:Int):aU p q (x,y+1)=aU p q (x,y)+(q.1 - p.1):=by
 unfold aU
 grind
theorem zy {x y:Int} (R:Rising ps) {i j:Nat} (a:i < j) (hi:ps[i]?=some p) (c:ps[j]?=some q) (h0:aU p q (x,y)=0):above ps x (y+1) < above ps x y:=by
 refine zc (z:=(p,q)) (λpr b h=>?_) (n9 a hi c) (by simp[h0]) ?_
 .obtain ⟨e,f,h',e1,d⟩:=qt (p:=pr.1) (q:=pr.2) b
  have:=R e f _ _ h' e1 d
  have h:=of_decide_eq_true h
  rw[uU] at h
  exact Fw (by lia)
 .have:=R i j _ _ a hi c
  show decide (aU p q (x,y+1)<=0)=false
  rw[uU,h0]
  exact Fy (by lia)
theorem zA (ps:List Pt) (x y:Int):above ps x y<=ps.length * ps.length:=FR (List.length_filter_le _ _) (n4 ps)
theorem dS {α:Type} {l:List α} {z a:α} {i:Nat} (h:(l++[z])[i]?=some a):(l[i]?=some a/\i < l.length)\/(a=z/\i=l.length):=by grind
theorem Rising.snoc (R:Rising ps) (h:∀ p∈ps,p.1 < z.1):Rising (ps++[z]):=λi j p q a h1 h2=>by
 rcases dS h1 with ⟨a1,b1⟩ | ⟨rfl,b1⟩
 .rcases dS h2 with ⟨a2,b2⟩ | ⟨rfl,b2⟩
  .exact R i j p q a a1 a2
  .exact h p (Fj a1)
 .rcases dS h2 with ⟨a2,b2⟩ | ⟨rfl,b2⟩
  .lia
  .lia
theorem NoLine.snoc (N:NoLine ps) (F:zD ps z):NoLine (ps++[z]):=λi j k p q r a b h1 h2 h3=>by
 rcases dS h1 with ⟨a1,b1⟩ | ⟨rfl,b1⟩
 .rcases dS h2 with ⟨a2,b2⟩ | ⟨rfl,b2⟩
  .rcases dS h3 with ⟨d,c⟩ | ⟨rfl,c⟩
   .exact N i j k p q r a b a1 a2 d
   .exact F i j p q a a1 a2
  .rcases dS h3 with ⟨d,c⟩ | ⟨rfl,c⟩ <;> lia
 .rcases dS h2 with ⟨a2,b2⟩ | ⟨rfl,b2⟩ <;> lia
def jH (a b c:Int) (p:Pt):Pt:=(a * p.1+c,b * p.2)
theorem tj (a b c:Int) (p q r:Pt):aU (jH a b c p) (jH a b c q) (jH a b c r)=(a * b) * aU p q r:=by
 unfold aU jH
 grind
theorem Rising.scale {a b c:Int} (h:0 < a) (R:Rising ps):Rising (ps.map (jH a b c)):=λi j p q d h1 h2=>by
 rw[Fp] at h1 h2
 obtain ⟨e,e1,rfl⟩:=E8.mp h1
 obtain ⟨f,g,rfl⟩:=E8.mp h2
 have:=R i j e f d e1 g
 have h3:a * e.1 < a * f.1:=Int.mul_lt_mul_of_pos_left this h
 show a * e.1+c < a * f.1+c
 lia
theorem NoLine.scale {a b c:Int} (n:0 < a) (o:0 < b) (N:NoLine ps):NoLine (ps.map (jH a b c)):=λi j k p q r d e h1 h2 h3=>by
 rw[Fp] at h1 h2 h3
 obtain ⟨l,e1,rfl⟩:=E8.mp h1
 obtain ⟨f,m,rfl⟩:=E8.mp h2
 obtain ⟨g,h,rfl⟩:=E8.mp h3
 rw[tj]
 exact Int.mul_ne_zero (Int.mul_ne_zero (by lia) (by lia)) (N i j k l f g d e e1 m h)
section InBlock
variable {X:Cx} {NY:List Str} {scope:Scope} {s:Shared} {H:Hp} {C:Addr} {fp:List Addr}
end InBlock
mutual
inductive DV (K:FG) (H:Hp):V->PyData->Prop
 | non:DV K H .non .none
 | bl (b:Bool):DV K H (.bl b) (.bool b)
 | int (i:Int):DV K H (.int i) (.int i)
 | str (x:Str):DV K H (.str x) (.str x)
 | tup {a:Addr} {xs:List V} {ds:List PyData}:SqT K H a xs->DVs K H xs ds->DV K H (.ref a) (.tuple ds)
 | lst {a:Addr} {xs:List V} {ds:List PyData}:SqL K H a xs->DVs K H xs ds->DV K H (.ref a) (.list ds)
inductive DVs (K:FG) (H:Hp):List V->List PyData->Prop
 | nil:DVs K H [] []
 | cons {x:V} {d:PyData} {xs:List V} {ds:List PyData}:DV K H x d->DVs K H xs ds->DVs K H (x::xs) (d::ds)
end
section
variable {X:Cx} {pins:List (Addr×Obj)} {O:St} {H:Hp} {s:Shared}
mutual
theorem DV.reads (I:Inv X pins O H s):∀ {v:V} {d:PyData} {u:Value},DV X.K H v d->RelV v u->∃ as,Reads s.heap u d as
 | _,_,u,.non,r=>by cases (show u=Value.none from r);exact #[_,.none]
 | _,_,u,.bl b,r=>by cases (show u=Value.bool b from r);exact #[_,.bool b]
 | _,_,u,.int i,r=>by obtain ⟨t,rfl⟩:=r;exact #[_,.int i t]
 | _,_,u,.str x,r=>by obtain ⟨t,rfl⟩:=r;exact #[_,.str x t]
 | _,_,u,.tup (a:=a) h rs,r=>by
  cases (show u=Value.ref a from r)
  obtain ⟨its,f,⟨o,e,c,n,d⟩,_⟩:=I.tuple h
  obtain ⟨as,q⟩:=DVs.reads I rs f
  exact #[_,.tuple e c d (by simpa using q)]
 | _,_,u,.lst (a:=a) h rs,r=>by
  cases (show u=Value.ref a from r)
  obtain ⟨its,f,⟨o,n,e,c,_,d⟩,_⟩:=I.list h
  obtain ⟨as,q⟩:=DVs.reads I rs f
  exact #[_,.list e c d (by simpa using q)]
theorem DVs.reads (I:Inv X pins O H s):∀ {v:List V} {d:List PyData} {us:List Value},DVs X.K H v d->Vals v us->∃ as,ReadsAll s.heap us d as
 | _,_,_,.nil,.nil=>#[_,.nil]
 | _,_,_,.cons h r,.cons q t=>by
  obtain ⟨as,e1⟩:=DV.reads I h q
  obtain ⟨bs,a⟩:=DVs.reads I r t
  exact #[_,.cons e1 a]
end
end
section
variable {X:Cx}
theorem Br (r:Vals (ns.map V.int) us):∃ xs:Array (Int×Tok),us.toArray=intItems xs/\ns=xs.toList.map (·.1):=by
 induction ns generalizing us with
 | nil=>cases r;exact #[(List.toArray []),by simp[intItems],rfl]
 | cons n ns ih =>
  cases r with
  | cons q t =>
   obtain ⟨k,rfl⟩:=q
   obtain ⟨xs,e1,b⟩:=ih t
   refine #[((n,k)::xs.toList).toArray,?_,by simp[b]]
   have a:=congrArg Array.toList e1
   simp only[intItems,List.toList_toArray,Array.toList_map] at a
   simp[intItems,a]
end
section
variable {prog:Program} {w:World} {A:Around} {E:Value->Shared->Prop} {s:Shared}
theorem jv {id:String} (g:builtinKind id=none) (h:plainId id=true) (i:entryFor table id=some b) (c:argsOk id #[args,kw]) (d:wpAny (model prog w) A.in1 (b #[args,kw]) (λfin s'=>match fin with
   | .done f=>(match (Except.ok f:Result) with | .ok (.ret v)=>Q v s' | .ok _=>False | .error e=>E e s')
   | .again c'=>c'.quiet=true/\codeAny (model prog w) A c' (λr s'=>match r with | .ok (.ret v)=>Q v s' | .ok _=>False | .error e=>E e s') s') E s) :
  wpAny (model prog w) A (call (.builtin id) args kw) Q E s:=by
 refine wpAny_call (codeAny_call_builtin h i ?_)
 simp only[checkBuiltinCall,g]
 cases a:Manifest.signature? id with
 | none=>exact E3 d
 | some sig =>
  simp only[argsOk,a] at c
  have h2:Bind.checkArgs id sig #[args,kw]=pure ():=c
  show wpAny _ A.in1 (Bind.checkArgs id sig #[args,kw]) _ _ s
  rw[h2];exact E3 d
end
end L2
end
section
namespace PySem
open Sem (wp)
end PySem
end
section
namespace L2
open PySem PySem.Spec PyProof.Rows
end L2
end
section
namespace PyProof.Rows
open PySem
end PyProof.Rows
end
section
namespace L2
open PySem PySem.Spec PyProof.Rows
def FstI (ls:Nat->Nat) (j i:Nat):Prop:=i < j/\(∀ k,k < j->ls k<=ls i)/\∀ k,k < i->ls k < ls i
def FstO (ls:Nat->Nat) (j:Nat) (b:Option (Nat×Tok)):Prop:=match b with
 | none=>j=0
 | some p=>FstI ls j p.1
def zo (its:Array Value) (ls:Nat->Nat) (b:Option (Nat×Tok)):Array Value:=match b with | none=>(List.toArray []) | some p=>(List.toArray [its.getD p.1 .none,.int (ls p.1:Int) p.2])
section
variable {prog:Program} {w:World} {A:Around} {R:Result->Shared->Prop}
theorem vG (hh:A.handled=none) {I l S:Addr} (L:l≠I) (n:S≠I) (T:S≠l) (its:Array Value) (ls:Nat->Nat) (hz:∀ i,i < its.size->ls i < 2 ^ 62) (dk:List (Str×Value)):∀ (k j:Nat) (s:Shared) (b:Option (Nat×Tok)) (c:Nat),its.size - j=k->j<=its.size->s.heap.IsListIter I l j->s.heap.IsList l its ->
  (∀ i,i < its.size->∃ p zs,its[i]?=some (.ref p)/\p≠I/\p≠S/\IsTup s.heap p zs/\zs.size=ls i) ->
  s.heap.get? S=some { cls:=.type "list",dict:=none,data:=.seq (zo its ls b) c,slots:=(List.toArray []) }->FstO ls j b->(its.size=0->∃ x d,dk=[(x,d)]) ->
  (∀ v h' tk,((its.size=0/\∃ x,dk=[(x,v)])\/∃ i,its[i]?=some v/\FstI ls its.size i)->(∀ a o,a≠I->a≠S->s.heap.get? a=some o->h'.get? a=some o)->R (.ok (.ret v)) { s with heap:=h',toks:=tk }) ->
  codeAny (model prog w) A (.builtin "max.loop" #[[.ref I,.builtin "len",.ref S],dk]) R s:=by
 have nm:(toString "max"++toString ".loop":String)="max.loop":=by decide
 intro k
 induction k with
 | zero =>
  intro j s b c hk hj hit hl ht C r hd fin
  obtain rfl:j=its.size:=by omega
  refine codeAny_builtin F.entry_max_loop ?_
  rw[Around.under_plainId F.plain_max_loop _]
  show wpAny _ A.in1 (seqItems? (.ref S) >>= _) _ _ s
  refine E2 (wpAny_seqItems C rfl ?_)
  show wpAny _ A.in1 (tryCatch (pyNext (.ref I)) _ >>= _) _ _ s
  refine E2 (wpAny_tryCatch (wpAny_pyNext_list_end (show A.in1.handled=none from hh) hit hl (by simp) λh' eb=>?_))
  cases b with
  | none =>
   have h0:its.size=0:=r
   obtain ⟨x,d,rfl⟩:=hd h0
   show wpAny _ A.in1 (rule _ >>= λ_=>ret d) _ _ _
   exact E2 (wpAny_rule (E3 (fin d h' s.toks (.inl #[h0,x,rfl]) λa o h _ e=>eb a o h e)))
  | some p =>
   have f:=eb S _ n C
   show wpAny _ A.in1 (updateSeq S (λ_=>(List.toArray [])) >>= _) _ _ _
   refine E2 (wpAny_updateSeq f rfl (E2 (wpAny_letGo (E3 ?_))) (hz:=by show 2<=sizeLine;decide))
   have hp:p.1 < its.size:=r.1
   refine fin _ _ s.toks (.inr #[p.1,?_,r]) λa o h D e=>(FO _ _ (Ne.symm D)).trans (eb a o h e)
   show its[p.1]?=some (its.getD p.1 .none)
   simp[Array.getD,hp]
 | succ k ih =>
  intro j s b c hk hj hit hl ht C r hd fin
  have g:j < its.size:=by omega
  obtain ⟨q,zs,M,X,a8,hq,ab⟩:=ht j g
  refine codeAny_builtin F.entry_max_loop ?_
  rw[Around.under_plainId F.plain_max_loop _]
  show wpAny _ A.in1 (seqItems? (.ref S) >>= _) _ _ s
  refine E2 (wpAny_seqItems C rfl ?_)
  show wpAny _ A.in1 (tryCatch (pyNext (.ref I)) _ >>= _) _ _ s
  refine E2 (wpAny_tryCatch (wpAny_pyNext_list_item hit hl M λh' z sb=>?_))
  have f:h'.get? S=_:=(sb.2 S n).trans C
  have J:h'.IsList l its:=hl.at λo e=>(sb.2 l L).trans e
  have K:∀ i,i < its.size->∃ p zs,its[i]?=some (.ref p)/\p≠I/\p≠S/\IsTup h' p zs/\zs.size=ls i:=λi hi=>by
   obtain ⟨p,zs,a1,a2,G,⟨o,y,u⟩,U⟩:=ht i hi
   exact #[p,zs,a1,a2,G,#[o,(sb.2 p a2).trans y,u],U]
  have N:its.getD j .none=.ref q:=by
   rw[Array.getElem?_eq_getElem g] at M
   simp only[Array.getD,g,dite_true]
   exact FY M
  have on:∀ (h2:Heap) (tk:Nat) (E:Option (Nat×Tok)) (V:Array Value) (W:Nat),zo its ls E=V->(∀ a o,a≠S->h'.get? a=some o->h2.get? a=some o)->h2.get? S=some { cls:=.type "list",dict:=none,data:=.seq V W,slots:=(List.toArray []) }->FstO ls (j+1) E ->
    codeAny (model prog w) A (.builtin "max.loop" #[[.ref I,.builtin "len",.ref S],dk]) R { s with heap:=h2,toks:=tk }:=λh2 tk E V W σ k2 az ρ=>by
   subst σ
   exact ih (j+1) _ E W (by omega) g (z.at λo e=>k2 I o (Ne.symm n) e) (J.at λo e=>k2 l o (Ne.symm T) e) (λi hi=>by
    obtain ⟨p,zs,a1,a2,G,⟨o,y,u⟩,U⟩:=K i hi
    exact #[p,zs,a1,a2,G,#[o,k2 p o G y,u],U]) az ρ hd λv h3 τ H k3=>fin v h3 τ H λa o h D e=>k3 a o h D (k2 a o D ((sb.2 a h).trans e))
  have B:zo its ls (some (j,s.toks+1))=(List.toArray [.ref q,.int (ls j:Int) (s.toks+1)]):=by
   show (List.toArray [its.getD j .none,.int (ls j:Int) (s.toks+1)])=_
   rw[N]
  have P:IsTup h' q zs:=by
   obtain ⟨o,y,u⟩:=hq
   exact #[o,(sb.2 q X).trans y,u]
  have a0:=hz j g
  show wpAny _ A.in1 (tryCatch (holding [.ref q] (call (.builtin "len") [.ref q])) _ >>= _) _ _ _
  refine E2 (wpAny_tryCatch (E4 (len_tuple P (by omega) ?_)))
  rw[ab]
  cases b with
  | none =>
   have h0:j=0:=r
   show wpAny _ A.in1 (updateSeq S (λ_=>(List.toArray [.ref q,.int (ls j:Int) (s.toks+1)])) >>= _) _ _ _
   refine E2 (wpAny_updateSeq f rfl ?_ (hz:=by show 0<=sizeLine;decide))
   rw[nm]
   refine E3 #[plainId_quiet F.plain_max_loop _,on _ _ (some (j,s.toks+1)) _ _ B (λa o h e=>(FO _ _ (Ne.symm h)).trans e) (FC _ f rfl) #[by omega,λi hi=>?_,λi hi=>?_]]
   .obtain rfl:i=j:=by lia
    exact Fq _
   .have hi:i < j:=hi
    lia
  | some p =>
   obtain ⟨bc,hle,Q⟩:FstI ls j p.1:=r
   show wpAny _ A.in1 (tryCatch (holding [.ref q,.int (ls j:Int) (s.toks+1)] (richCompare .Gt (.int (ls j:Int) (s.toks+1)) (.int (ls p.1:Int) p.2) >>= _)) _ >>= _) _ _ _
   refine E2 (wpAny_tryCatch (E4 (E2 ?_)))
   refine (gt_int (a:=(ls j:Int)) (b:=(ls p.1:Int)) ?_:wpAny (model prog w) A.in1 (compareOp .Gt (.int (ls j:Int) (s.toks+1)) (.int (ls p.1:Int) p.2)) _ _ _)
   refine E2 (E4 (FQ (E2 (wpAny_letGo (E3 ?_)))))
   by_cases t:(ls p.1:Int) < (ls j:Int)
   .rw[Fw t,if_pos rfl]
    refine E2 (wpAny_updateSeq f rfl (E2 (wpAny_letGo ?_)) (hz:=by show 2<=sizeLine;decide))
    rw[nm]
    refine E3 #[plainId_quiet F.plain_max_loop _,on _ _ (some (j,s.toks+1)) _ _ B (λa o h e=>(FO _ _ (Ne.symm h)).trans e) (FC _ f rfl) #[by omega,λi hi=>?_,λi hi=>?_]]
    .by_cases m:i=j
     .subst m;exact Fq _
     .have:=hle i (by omega)
      show ls i<=ls j
      lia
    .have hi:i < j:=hi
     have:=hle i hi
     show ls i < ls j
     lia
   .rw[Fy t,if_neg Fs]
    refine E2 (wpAny_letGo ?_)
    rw[nm]
    refine E3 #[plainId_quiet F.plain_max_loop _,on h' _ (some p) _ c rfl (λa o _ e=>e) f #[by omega,λi hi=>?_,Q]]
    by_cases m:i=j
    .subst m;lia
    .exact hle i (by lia)
theorem wx (a d:Value):argsOk "max" #[[a],[("key",Value.builtin "len"),("default",d)]]:=by unfold argsOk;kernel_rfl
theorem tv (a:Value):argsOk "max" #[[a],[("key",Value.builtin "len")]]:=by unfold argsOk;kernel_rfl
def kwK (od:Option Value):List (Str×Value):=match od with
 | none=>[("key",.builtin "len")]
 | some d=>[("key",.builtin "len"),("default",d)]
theorem wm {E:Value->Shared->Prop} {s:Shared} {l:Addr} {its:Array Value} {ls:Nat->Nat} (hz:∀ i,i < its.size->ls i < 2 ^ 62) {od:Option Value} {Q:Value->Shared->Prop} (m:A.handled=none) (hl:s.heap.IsList l its)
  (r:∀ i,i < its.size->∃ p zs,its[i]?=some (.ref p)/\IsTup s.heap p zs/\zs.size=ls i) (hd:its.size=0->od≠none)
  (h:∀ v h' tk,((its.size=0/\od=some v)\/∃ i,its[i]?=some v/\FstI ls its.size i)->(∀ b o,s.heap.get? b=some o->h'.get? b=some o)->Q v { s with heap:=h',toks:=tk }) :
  wpAny (model prog w) A (call (.builtin "max") [.ref l] (kwK od)) Q E s:=by
 have a:(toString "max"++toString ".loop":String)="max.loop":=by decide
 have ok:argsOk "max" #[[.ref l],kwK od]:=by
  cases od with
  | none=>exact tv _
  | some d=>exact wx _ d
 refine jv F.kind_max F.plain_max F.entry_max ok ?_
 show wpAny _ A.in1 (Builtin.Builtins.bindParams "max" ["key","default"] 0 #[[],kwK od] >>= _) _ _ s
 have t:Builtin.Builtins.bindParams "max" ["key","default"] 0 #[[],kwK od]=pure [some (Value.builtin "len"),od]:=by cases od <;> rfl
 refine E2 (wpAny_of_eq t ?_)
 refine E2 (E3 ?_)
 refine E2 (wpAny_pyIter_list hl ?_)
 refine E2 (wpAny_newObj_type ?_)
 rw[a]
 have c:l < s.heap.objs.size:=by obtain ⟨_,e,_⟩:=hl;exact Fe e
 have hsz:(s.heap.push { cls:=.type "list_iterator",data:=.fields (List.toArray [.ref l,.int 0 0]) }).objs.size=s.heap.objs.size+1:=FP _ _
 have a1:(s.heap.push { cls:=.type "list_iterator",data:=.fields (List.toArray [.ref l,.int 0 0]) }).objs.size≠s.heap.objs.size:=by rw[hsz];exact Nat.succ_ne_self _
 have a2:(s.heap.push { cls:=.type "list_iterator",data:=.fields (List.toArray [.ref l,.int 0 0]) }).objs.size≠l:=by rw[hsz];exact Nat.ne_of_gt (Nat.lt_succ_of_lt c)
 refine E3 #[plainId_quiet F.plain_max_loop _,vG (A:=A) m (Ft c) a1 a2 its ls hz _ its.size 0 _ none 0 (by omega) (by omega) #[_,E7 _ (Fg _ rfl),rfl,rfl] (hl.at λo e=>E7 _ (E7 _ e)) (λi hi=>?_) (Fg _ rfl) rfl (λh0=>?_) λv h' tk g n=>?_]
 .obtain ⟨p,zs,b1,⟨o,b2,u⟩,k⟩:=r i hi
  have j:=Fe b2
  exact #[p,zs,b1,Ft j,by rw[hsz];exact Ft (Nat.lt_succ_of_lt j),#[o,E7 _ (E7 _ b2),u],k]
 .cases od with
  | none=>exact absurd rfl (hd h0)
  | some d=>exact #[_,d,rfl]
 .have f:(its.size=0/\od=some v)\/∃ i,its[i]?=some v/\FstI ls its.size i:=by
   rcases g with ⟨z,x,e⟩ | g
   .refine .inl #[z,?_]
    cases od with
    | none=>cases e
    | some d=>cases e;rfl
   .exact .inr g
  refine h v h' tk f λb o e=>n b o (λq=>?_) (λq=>?_) (E7 _ (E7 _ e))
  .exact absurd q (Ft (Fe e))
  .exact absurd (q.trans hsz) (Ft (Nat.lt_succ_of_lt (Fe e)))
end
section
variable {X:Cx}
def qk (K:FG) (x:V) (od:Option V) (H:Hp) (Q:VK):Prop:=∃ (l:Addr) (ys:List V) (ls:Nat->Nat),x=.ref l/\SqL K H l ys/\(∀ i y,ys[i]?=some y->∃ p zs,y=.ref p/\SqT K H p zs/\zs.length=ls i)/\(ys=[]->∃ d,od=some d/\Q d H)/\∀ i y,ys[i]?=some y->FstI ls ys.length i->Q y H
theorem l5:∀ {ys:List V} {us:List Value} {i:Nat} {u:Value},Vals ys us->us[i]?=some u->∃ y,ys[i]?=some y/\RelV y u
 | _,_,i,u,.nil,h=>by simp at h
 | _,_,0,u,.cons r _,h=>by simp at h;subst h;exact #[_,rfl,r]
 | _,_,i+1,u,.cons _ t,h=>by
  obtain ⟨y,h1,h2⟩:=l5 (i:=i) t (by simpa using h)
  exact #[y,by simpa using h1,h2]
theorem xh (t:X.calm=true) {pins:List (Addr×Obj)} {s:Shared} {O:St} {H:Hp} {x:V} {od:Option V} {u:Value} {ou:Option Value} {Q:VK} (I:Inv X pins O H s) (D:RelV x u) (k:∀ d,od=some d->∃ b,ou=some b/\RelV d b) (G:od=none->ou=none) (h:qk X.K x od H Q) :
  wpAny (model X.prog X.w) X.A (call (.builtin "max") [u] (kwK ou)) (EP X pins O Q) X.xe s:=by
 obtain ⟨l,ys,ls,rfl,hl,hT,h0,h1⟩:=h
 cases (show u=Value.ref l from D)
 obtain ⟨its,c,p,hz⟩:=I.list hl
 have hlen:=c.length
 have pl:=p.isList
 have tup:∀ i,i < its.length->∃ p zs us,its[i]?=some (.ref p)/\SqT X.K H p zs/\IsTup s.heap p us/\us.size=zs.length/\zs.length=ls i/\us.size<=sizeLine:=λi hi=>by
  obtain ⟨y,e1,a⟩:=l5 c (Fd hi)
  obtain ⟨q,zs,rfl,g,C⟩:=hT i y e1
  obtain ⟨us,B,pt,n⟩:=I.tuple g
  have:=B.length
  refine #[q,zs,us.toArray,?_,g,pt,by simp;omega,C,by simp;omega]
  rw[Fd hi,(show its[i]=Value.ref q from a)]
 refine wm (ls:=ls) (λi hi=>?_) (I.ok.hd t) pl (λi hi=>?_) (λf=>?_) λv h' tk z j=>?_
 .obtain ⟨q,zs,us,b1,b2,m,o,F,E⟩:=tup i (by simpa using hi)
  have:sizeLine < 2 ^ 62:=by decide
  lia
 .obtain ⟨q,zs,us,b1,b2,m,o,F,E⟩:=tup i (by simpa using hi)
  exact #[q,us,by simpa using b1,m,by omega]
 .have:ys=[]:=by
   have:its.length=0:=by simpa using f
   exact FZ.mp (by omega)
  obtain ⟨d,e,_⟩:=h0 this
  obtain ⟨b,a,_⟩:=k d e
  rw[a];simp
 .rcases z with ⟨f,e⟩ | ⟨i,e,hf⟩
  .have:ys=[]:=by
    have:its.length=0:=by simpa using f
    exact FZ.mp (by omega)
   obtain ⟨d,e1,q⟩:=h0 this
   obtain ⟨b,a,r⟩:=k d e1
   rw[a] at e
   cases e
   exact #[d,H,I.kept j,r,q]
  .have e:its[i]?=some v:=by simpa using e
   obtain ⟨y,e1,a⟩:=l5 c e
   refine #[y,H,I.kept j,a,h1 i y e1 ?_]
   rw[hlen]
   simpa using hf
end
section
variable {X:Cx}
def tMaxK (K:FG) (te a:TE):TE:=λO H Q=>te O H λx H1=>a O H1 λd H2=>qk K x (some d) H2 Q
theorem AO (z:X.calm=true) {e d:Expr} {te r:TE} {p c pos kpos a:Pos} (hg:Gl X "max") (hm:X.mg "max"=none) (i:Gl X "len") (o:X.mg "len"=none) (A:bootBuiltins "max"=some (.builtin "max")) (g:bootBuiltins "len"=some (.builtin "len")) (he:PE X e te) (hd:PE X d r)
  (t:backTo pos (starEach [e] X.env)=(false,eval e X.env)::backTo pos (starEach [] X.env)) (m:backTo pos (starEach [] X.env)=[]) (b:(backTo pos (starEach [e] X.env)).any (·.1)=false)
  (f:(backToKw pos (keywordEach [#[some "key",.Name "len" c,kpos],#[some "default",d,a]] X.env)).all (·.1.isSome)=true) (n:(backToKw pos (keywordEach [#[some "key",.Name "len" c,kpos],#[some "default",d,a]] X.env)).any (·.1.isNone)=false) (k:(backToKw pos (keywordEach [#[some "key",.Name "len" c,kpos],#[some "default",d,a]] X.env)).filterMap (·.1)=(["key","default"]:List Str)) :
  PE X (.Call (.Name "max" p) [e] [#[some "key",.Name "len" c,kpos],#[some "default",d,a]] pos) (tMaxK X.K te r):=by
 intro pins s O H Q I h
 refine wpAny_Call_Name_kw (iY I hg hm A ?_)
 refine PyProof.Rows.callWith_kw ?_ t b f n
 rw[t,m]
 refine Calls.spliced_cons (thn (he pins s O H _ I h) λu s1 #[x,H1,q,B,y]=>Calls.spliced_nil ?_)
 show wpAny _ _ (evalAll ((do let v <- eval (.Name "len" c) X.env;standAt pos;pure v)::(backToKw pos (keywordEach [#[some "default",d,a]] X.env)).map (·.2))) _ _ s1
 refine wpAny_evalAll_cons (E2 (iY q i o g (E2 (wpAny_standAt (E3 ?_)))))
 refine thn (AM (nm:=some "default") (kpos:=a) hd DD pos pins s1 O H1 (λvs H2=>match vs with | [d]=>qk X.K x (some d) H2 Q | _=>False) q y) λus s2 #[xs,H2,D,l,j]=>?_
 match xs,j,l with
 | [d'],j,l =>
  rw[k]
  obtain ⟨w,rfl,C⟩:=jP l
  exact xh (ou:=some w) z D B (λE e=>#[w,rfl,by cases e;exact C]) (λe=>by cases e) j
end
end L2
end
section
namespace L2
open PySem PySem.W PySem.Spec PyProof.Rows
abbrev excO (a:Addr) (cls:Value):HO:=.ext λh=>∃ o,h.get? a=some o/\o.cls=cls
abbrev yW (ob:Obj) (a:Addr) (cls:Value):HO:=.frz ob (excO a cls)
structure ExcK (K:FG) (D:Addr):Prop where
 ga:findIn K (.ref D) "__getattribute__"=some (some (.builtin "BaseException.__getattribute__"))
 gt:findIn K (.ref D) "__getattr__"=some none
 cl:(clsIn K D).isSome=true
 ca:findIn K (.ref D) "__class__"=some (some (.builtin "object.__class__"))
 sp:specialIn K (.builtin "object.__class__") "__get__"=some (some (.builtin "getset_descriptor.__get__"))
 tk:takesIn K (.builtin "object.__class__")=some true
 ob:mroIn K D (.type "object")=some true
 be:mroIn K D (.type "BaseException")=some true
structure XName (K:FG) (c:String) (D:Addr):Prop where
 ns:nsIn K mainGlobals (Str.ofString c)=some (some (.ref D))
 ex:ExcK K D
theorem XName.inj {K:FG} (a:XName K c D) (b:XName K c D'):D=D':=by
 have:=a.ns.symm.trans b.ns
 cases this
 rfl
end L2
end
section
namespace L2
open PySem
section
variable {K:FG} {h:Heap} {mg:Str->Option Value}
theorem yp {h:Heap} {i:Nat} {p:Obj} {q:Nat×Obj} (a:h.objs[i]?=some p) (e:qM (i,p)=some q):q.1=i /\ h.get? i=some q.2:=by
  obtain ⟨c,d,x,y⟩:=p
  unfold Heap.get?
  rw[a]
  cases x <;> first | (cases e; exact #[rfl,rfl]) | cases e
theorem kK:∀ {is:List Nat} {l:List Obj} {a:Nat} {o:Obj},(∀ (j i:Nat) (p:Obj),is[j]?=some i->l[j]?=some p->h.objs[i]?=some p)->((is.zip l).filterMap qM).lookup a=some o->h.get? a=some o
 | [],_,_,_,_,e=>by cases e
 | _::_,[],_,_,_,e=>by cases e
 | b::is,p::l,a,o,hj,e=>by
  have g:=hj 0 b p rfl rfl
  have f:∀ (j i:Nat) (p:Obj),is[j]?=some i->l[j]?=some p->h.objs[i]?=some p:=λj i p h1 h2=>hj (j+1) i p (by simpa using h1) (by simpa using h2)
  rw[List.zip_cons_cons,List.filterMap_cons] at e
  cases hl:qM (b,p) with
  | none=>rw[hl] at e;exact kK f e
  | some q =>
   rw[hl] at e
   obtain ⟨h1,h2⟩:=yp g hl
   obtain ⟨d,k⟩:=q
   cases h1
   replace e:List.lookup a ((d,k)::(is.zip l).filterMap qM)=some o:=e
   rw[List.lookup_cons] at e
   cases c:a == d with
   | true=>rw[c] at e;cases eq_of_beq c;cases e;exact h2
   | false=>rw[c] at e;exact kK f e
theorem fragAt_in (h:Heap):(yR h).In h:=λ_ _ e=>kK (λj i p h1 h2=>by
 obtain ⟨a,rfl⟩:=Fi.mp h1
 simpa using h2) e
def stPos (s:Stmt):Pos:=match s with
 | .FunctionDef _ _ _ _ _ _ _ _ _ p=>p
 | _=>#[0,0,0,0]
set_option tactic.hygienic true in
theorem EJ (X:K.In h) (G:h.Ns mainGlobals mg) (e:qW K n=mS n st):Def K mg n st:=by
 unfold qW at e
 split at e
 .rename_i f hf
  split at e
  .rename_i b od fd sl hl
   unfold mS at e
   obtain ⟨name,qual,params,body,scope,globals,closure,defaults,kw,doc,pm,an,cd,ct,bi⟩:=fd
   simp only[Option.some.injEq,Prod.mk.injEq] at e
   obtain ⟨rfl,rfl,rfl,rfl,rfl,rfl,rfl,rfl,rfl,a⟩:=e
   exact #[f,_,EC (st:=st) hl a (by unfold PySem.W.keepIn;simp only[hl]),PySem.W.mg_of X G hf]
  .cases e
 .cases e
theorem sB {α β:Type} {f g:α->β} {l:List α} (e:l.map f=l.map g) (i:Nat) {a:α} (h:l[i]?=some a):f a=g a:=List.map_inj_left.mp e a (Fj h)
theorem aD {ds:List (Str×Stmt)} (X:K.In h) (G:h.Ns mainGlobals mg) (e:ds.map (λp=>qW K p.1)=ds.map (λp=>mS p.1 p.2)) (i:Nat) (hi:ds[i]?=some (n,st)):Def K mg n st:=EJ X G (sB e i hi)
theorem cz {l:List Str} (X:K.In h) (G:h.Ns mainGlobals mg) (e:l.map (PySem.W.nsIn K mainGlobals)=l.map (λ_=>some none)) (i:Nat) (hi:l[i]?=some n):mg n=none:=PySem.W.mg_none_of X G (sB e i hi)
set_option tactic.hygienic true in
theorem mP {l:List (Str×Int)} {v:Int} (X:K.In h) (G:h.Ns mainGlobals mg) (e:l.map (λp=>o9 K p.1)=l.map (λp=>some p.2)) (i:Nat) (hi:l[i]?=some (n,v)):∃ t,mg n=some (.int v t):=by
 have e:=sB e i hi
 unfold o9 at e
 dsimp only at e
 split at e
 .rename_i b t a;cases e;exact #[t,PySem.W.mg_of X G a]
 .cases e
theorem walk_ofS {l:PySem.W.OpenLaw} {n k:Nat} {S:FG->Prop} {sp:FG->Sp} (hn:l.most=some n) (p:n<=sizeLine) (j:d.params.defaults=[]) (J:Room k callerA) (C:∀ (w:World) (h:Heap),YP w h->∃ K:FG,K.In h/\S K) (F:∀ (w:World) (mg:Str->Option Value) (i:Addr) (h:Heap) (K:FG),S K->K.In h->h.Ns mainGlobals mg->mg d.name=some (.ref i) ->
   ∃ fd:FuncData,(∀ (s:Shared) (u:Value),BindsTo s fd #[[u],[]] [(x,u)]) /\
    ∀ base:Heap,K.In base->base.Ns mainGlobals mg->FnOk l.prog w K mg base CX k i fd [x] (sp K)) (m:∀ (K:FG) (H:Hp) (a:Addr) (ns:List Int),ns.length<=n->BR H->SqL K H a (ns.map V.int)->sp K [.ref a] H (λv _=>v=.bl true) λ_ _ _=>False) (r:∀ (H:Hp) (s:Shared) (e:Value) (s':Shared),CX [] H s (λ_ _ _=>False) e s'->False) :
  PySem.W.WalkO q loose XP YP l.row.toRowW d [] (λf vs=>PySem.call f vs):=by
 refine Att.attach_call hn j λw s₀ A mg mb i o pm cd doc a vs ns G τ L hd E y c hints hlen hg=>?_
 obtain ⟨K,z,t⟩:=C w _ τ
 obtain ⟨fd,B,D⟩:=F w mg i _ K t z G.T.g y
 exact yr z G.T.g G.T.b G.T.builtins G.T.nolimit hg c hints (FR hlen p) J D B (λH I t=>m K H a ns hlen I t) λH e s'=>r H A e s'
end
end L2
end
section
namespace L3
open PySem L2
theorem nsE {α:Type} {p:α} {P:Prop} (e:(none:Option α)=some p):P:=nomatch e
inductive D where
 | non | bl (b:Bool) | int (i:Int) | str (x:Str)
 | tup (xs:List D) | lst (xs:List D) | fls (xs:List D) | dk (kvs:List (Key×D)) | dt (kvs:List (List Key×D))
 | exc (c:String) (fs:List (String×D))
def kh:D->Bool
 | .lst _=>true
 | .dk _=>true
 | .dt _=>true
 | _=>false
def FzL (K:FG) (H:Hp) (a:Addr) (vs:List V):Prop:=(∃ o,H a=some (.frz o (.lst vs)))\/∃ (o:Obj) (its:Array Value) (n:Nat),K.lookup a=some o/\o.cls=.type "list"/\o.dict=none/\o.data=.seq its n/\its.size<=sizeLine/\Vals vs its.toList
theorem FzL.sq (h:FzL K H a vs):SqL K H a vs:=h.elim (λ#[o,e]=>.inl (.inr #[o,e])) .inr
inductive Reps (R:D->V->List Addr->Prop):List D->List V->List Addr->Prop where
 | nil:Reps R [] [] []
 | cons {d v L ds vs L'}:R d v L->Reps R ds vs L'->Reps R (d::ds) (v::vs) (L++L')
inductive Rep (K:FG) (H:Hp):D->V->List Addr->Prop where
 | non:Rep K H .non .non []
 | bl (b:Bool):Rep K H (.bl b) (.bl b) []
 | int (i:Int):Rep K H (.int i) (.int i) []
 | str (x:Str):Rep K H (.str x) (.str x) []
 | tup {xs a vs L}:H a=some (.tup vs)->Reps (Rep K H) xs vs L->Rep K H (.tup xs) (.ref a) L
 | lst {xs a vs L}:H a=some (.lst vs)->Reps (Rep K H) xs vs L->Rep K H (.lst xs) (.ref a) (a::L)
 | lstF {xs a vs L}:FzL K H a vs->Reps (Rep K H) xs vs L->Rep K H (.fls xs) (.ref a) L
 | dK {kvs a ps L}:H a=some (.dK ps)->kvs.map (·.1)=ps.map (·.1)->Reps (Rep K H) (kvs.map (·.2)) (ps.map (·.2)) L->Rep K H (.dk kvs) (.ref a) (a::L)
 | dT {kvs a ps n L}:H a=some (.dT ps n)->kvs.map (·.1)=ps.map (·.1)->Reps (Rep K H) (kvs.map (·.2)) (ps.map (·.2)) L->Rep K H (.dt kvs) (.ref a) (a::L)
 | exc {c a D ob}:XName K c D->H a=some (yW ob a (.ref D))->Rep K H (.exc c []) (.ref a) []
 | excV {c a D ob n x v d od u}:XName K c D->H a=some (yW ob a (.ref D))->ob.dict=some d->H d=some (yW od d od.cls)->PySem.W.lookIn (Str.ofString n) od=some (some u)->RelV v u->PySem.W.notCls ob=true->Rep K H x v []->Rep K H (.exc c [(n,x)]) (.ref a) []
def PayX (K:FG) (H:Hp) (da:Option Addr):List (String×D)->Prop
 | []=>True
 | [(n,x)]=>∃ v d od u,da=some d/\H d=some (yW od d od.cls)/\PySem.W.lookIn (Str.ofString n) od=some (some u)/\RelV v u/\Rep K H x v []
 | _=>False
def RepV (K:FG) (H:Hp) (d:D) (v:V) (L:List Addr):Prop:=match d with
 | .non=>v=.non/\L=[]
 | .bl b=>v=.bl b/\L=[]
 | .int i=>v=.int i/\L=[]
 | .str x=>v=.str x/\L=[]
 | .tup xs=>∃ a vs,v=.ref a/\H a=some (.tup vs)/\Reps (Rep K H) xs vs L
 | .lst xs=>∃ a vs L',v=.ref a/\L=a::L'/\H a=some (.lst vs)/\Reps (Rep K H) xs vs L'
 | .fls xs=>∃ a vs,v=.ref a/\FzL K H a vs/\Reps (Rep K H) xs vs L
 | .dk kvs=>∃ a ps L',v=.ref a/\L=a::L'/\H a=some (.dK ps)/\kvs.map (·.1)=ps.map (·.1)/\Reps (Rep K H) (kvs.map (·.2)) (ps.map (·.2)) L'
 | .dt kvs=>∃ a ps L',v=.ref a/\L=a::L'/\HdT H a ps/\kvs.map (·.1)=ps.map (·.1)/\Reps (Rep K H) (kvs.map (·.2)) (ps.map (·.2)) L'
 | .exc c fs=>L=[]/\∃ a D ob,v=.ref a/\XName K c D/\H a=some (yW ob a (.ref D))/\PayX K H ob.dict fs/\(fs≠[]->PySem.W.notCls ob=true)
theorem Rep.view (r:Rep K H d v L):RepV K H d v L:=by
 cases r with
 | non=>exact #[rfl,rfl]
 | bl b=>exact #[rfl,rfl]
 | int i=>exact #[rfl,rfl]
 | str x=>exact #[rfl,rfl]
 | tup h r=>exact #[_,_,rfl,h,r]
 | lst h r=>exact #[_,_,_,rfl,rfl,h,r]
 | lstF h r=>exact #[_,_,rfl,h,r]
 | dK h k r=>exact #[_,_,_,rfl,rfl,h,k,r]
 | dT h k r=>exact #[_,_,_,rfl,rfl,#[_,h],k,r]
 | exc n h=>exact #[rfl,_,_,_,rfl,n,h,trivial,λz=>absurd rfl z]
 | excV n h1 h2 h3 h4 h5 h7 h6=>exact #[rfl,_,_,_,rfl,n,h1,#[_,_,_,_,h2,h3,h4,h5,h6],λ_=>h7]
def MutAt (H:Hp) (b:Addr):Prop:=(∃ xs,H b=some (.lst xs))\/(∃ ps,H b=some (.dK ps))\/∃ ps n,H b=some (.dT ps n)
theorem MutAt.ex (m:MutAt H b):∃ o,H b=some o:=by
 rcases m with ⟨_,h⟩ | ⟨_,h⟩ | ⟨_,_,h⟩ <;> exact #[_,h]
theorem MutAt.notup (m:MutAt H b) (h:H b=some (.tup vs)):False:=by
 rcases m with ⟨_,e⟩ | ⟨_,e⟩ | ⟨_,_,e⟩ <;> rw[e] at h <;> cases h
theorem MutAt.nofrz (m:MutAt H b) (h:H b=some (.frz o u)):False:=by
 rcases m with ⟨_,e⟩ | ⟨_,e⟩ | ⟨_,_,e⟩ <;> rw[e] at h <;> cases h
theorem FzL.keep {M:Addr->Prop} (h:FzL K H a vs) (k:∀ b o,H b=some o->¬ M b->H' b=some o) (hm:∀ b,M b->MutAt H b):FzL K H' a vs:=h.elim (λ#[o,e]=>.inl #[o,k a _ e λz=>(hm a z).nofrz e]) .inr
section
variable {K:FG} {H H':Hp} {d:D} {v:V} {L:List Addr}
set_option tactic.hygienic true in
theorem Rep.inH (r:Rep K H d v L):∀ b∈L,MutAt H b:=by
 refine Rep.rec (motive_1:=λ_ _ L _=>∀ b∈L,MutAt H b) (motive_2:=λ_ _ L _=>∀ b∈L,MutAt H b) ?_ ?_ ?_ ?_ ?_ ?_ ?_ ?_ ?_ ?_ ?_ ?_ ?_ r
 .intro b a;cases a
 .intro _ b a;cases a
 .intro _ b a;cases a
 .intro _ b a;cases a
 .intro _ _ _ _ _ _ c;exact c
 .intro _ _ _ _ h _ c b a
  rcases Fc.mp a with e | a
  .rw[e];exact .inl #[_,h]
  .exact c b a
 .intro _ _ _ _ _ _ c;exact c
 .intro _ _ _ _ h _ _ c b a
  rcases Fc.mp a with e | a
  .rw[e];exact .inr (.inl #[_,h])
  .exact c b a
 .intro _ _ _ _ _ h _ _ c b a
  rcases Fc.mp a with e | a
  .rw[e];exact .inr (.inr #[_,_,h])
  .exact c b a
 .intro _ _ _ _ _ _ b a;cases a
 .intros;rename_i a;cases a
 .intro b a;cases a
 .intro _ _ _ _ _ _ _ _ g f b a
  rcases Ff.mp a with h | h
  .exact g b h
  .exact f b h
theorem Reps.inH (r:Reps (Rep K H) ds vs L):∀ b∈L,MutAt H b:=by
 induction r with
 | nil=>intro b a;cases a
 | cons r _ ih =>
  intro b a
  rcases Ff.mp a with h | h
  .exact r.inH b h
  .exact ih b h
theorem Rep.keep {M:Addr->Prop} (k:∀ b o,H b=some o->¬ M b->H' b=some o) (hm:∀ b,M b->MutAt H b) (r:Rep K H d v L):(∀ b∈L,¬ M b)->Rep K H' d v L:=by
 refine Rep.rec (motive_1:=λd v L _=>(∀ b∈L,¬ M b)->Rep K H' d v L) (motive_2:=λds vs L _=>(∀ b∈L,¬ M b)->Reps (Rep K H') ds vs L) ?_ ?_ ?_ ?_ ?_ ?_ ?_ ?_ ?_ ?_ ?_ ?_ ?_ r
 .intro _;exact .non
 .intro b _;exact .bl b
 .intro b _;exact .int b
 .intro b _;exact .str b
 .intro xs a vs L h _ g f
  exact .tup (k a _ h λz=>(hm a z).notup h) (g f)
 .intro xs a vs L h _ g f
  exact .lst (k a _ h (f a E5)) (g λb i=>f b (E6 _ i))
 .intro xs a vs L h _ g f
  exact .lstF (h.keep k hm) (g f)
 .intro j a ps L h e _ g f
  exact .dK (k a _ h (f a E5)) e (g λb i=>f b (E6 _ i))
 .intro j a ps n L h e _ g f
  exact .dT (k a _ h (f a E5)) e (g λb i=>f b (E6 _ i))
 .intro c a D ob n h _
  exact .exc n (k a _ h λz=>(hm a z).nofrz h)
 .intro c a D ob n x v d od u e1 l p m y t w _ g _
  exact .excV e1 (k a _ l λz=>(hm a z).nofrz l) p (k d _ m λz=>(hm d z).nofrz m) y t w (g λ_ h=>nomatch h)
 .intro _;exact .nil
 .intro d v L ds vs L' _ _ q s f
  exact .cons (q λb i=>f b (E9 _ i)) (s λb i=>f b (Fb _ i))
theorem Rep.same (r:Rep K H d v L) (s:Same H H'):Rep K H' d v L:=r.keep (M:=λ_=>False) (λb o h _=>s b o h) (λ_ z=>z.elim) λ_ _ z=>z
theorem Reps.keep {M:Addr->Prop} (k:∀ b o,H b=some o->¬ M b->H' b=some o) (hm:∀ b,M b->MutAt H b) (r:Reps (Rep K H) ds vs L):(∀ b∈L,¬ M b)->Reps (Rep K H') ds vs L:=by
 induction r with
 | nil=>intro _;exact .nil
 | cons r _ ih=>intro c;exact .cons (r.keep k hm λb a=>c b (E9 _ a)) (ih λb a=>c b (Fb _ a))
theorem Reps.same (r:Reps (Rep K H) ds vs L) (s:Same H H'):Reps (Rep K H') ds vs L:=r.keep (M:=λ_=>False) (λb o h _=>s b o h) (λ_ z=>z.elim) λ_ _ z=>z
end
inductive Fl where
 | u | l | z
 deriving DecidableEq
structure It3 where
 d:D
 v:V
 L:List Addr
 f:Fl
abbrev Sto:=List (Option (D×Fl))
structure Gm where
 H0:Hp
 bw:Addr->Prop
 pr:Nat->Bool
 O0:St
 orig:Hp
 src:Addr->Prop
 lv:Nat->Option V
def OwnOk (G:Gm) (x:It3):Prop:=kh x.d=true/\∃ a L',x.v=.ref a/\x.L=a::L'/\a ∉ L'/\(x.f=.u->G.H0 a=none\/G.bw a)
structure ItOk (K:FG) (G:Gm) (H:Hp) (x:It3):Prop where
 rep:Rep K H x.d x.v x.L
 own:x.f≠.z->OwnOk G x
 src:∀ c∈x.L,G.H0 c=none\/G.src c
structure Fx (G:Gm) (H:Hp) (T:List It3) (g:Nat->Option It3):Prop where
 frT:∀ x∈T,x.f≠.z->∀ a,x.v=.ref a->G.orig a=none
 frS:∀ i x,g i=some x->G.pr i=false->x.f≠.z->∀ a,x.v=.ref a->G.orig a=none
 bin:∀ b,G.bw b->∃ o,H b=some o
 ob:∀ b o,G.orig b=some o->∃ o',H b=some o'
 lvS:∀ i x,g i=some x->x.f=.l->G.lv i=some x.v
def NoRoot (x y:It3):Prop:=x.f≠.z->∀ a,x.v=.ref a->a ∉ y.L
def Apart3 (x y:It3):Prop:=NoRoot x y/\NoRoot y x
structure Wf (K:FG) (G:Gm) (H:Hp) (O:St) (Z:Sto) (T:List It3) (g:Nat->Option It3):Prop where
 len:O.length=Z.length
 sl:∀ i,(g i).map (λx=>(x.d,x.f))=(Z[i]?).join
 sv:∀ i x,g i=some x->O[i]?=some (some x.v)
 okS:∀ i x,g i=some x->ItOk K G H x
 okT:∀ x∈T,ItOk K G H x
 ss:∀ i j x y,i≠j->g i=some x->g j=some y->NoRoot x y
 st:∀ i x,g i=some x->∀ y∈T,Apart3 x y
 tt:T.Pairwise Apart3
 base:∀ b o,G.H0 b=some o->¬ G.bw b->H b=some o
 pro:∀ i,G.pr i=true->O[i]?=G.O0[i]?
 fx:Fx G H T g
structure Le (K:FG) (G:Gm) (W:D->Sto->Prop) (G0:Gm) (W0:D->Sto->Prop):Prop where
 pr:G.pr=G0.pr
 ex:∀ (H:Hp) (O:St) (Z:Sto) (T:List It3) (g:Nat->Option It3) (e:D),Wf K G H O Z T g->W e Z->∃ Z0 T0 g0,Wf K G0 H O Z0 T0 g0/\W0 e Z0
theorem Le.refl (K:FG) (G:Gm) (W:D->Sto->Prop):Le K G W G W:=#[rfl,λ_ _ Z T g _ w h=>#[Z,T,g,w,h]]
theorem Le.trans (a:Le K G W G1 W1) (b:Le K G1 W1 G2 W2):Le K G W G2 W2:=⟨a.pr.trans b.pr,λH O Z T g e w h=>by
 obtain ⟨Z1,d,g1,c,h1⟩:=a.ex H O Z T g e w h
 exact b.ex H O Z1 d g1 e c h1⟩
section
variable {K:FG} {G:Gm} {H H':Hp} {O:St} {Z:Sto} {T T':List It3} {g:Nat->Option It3} {x y z:It3}
theorem ItOk.keep {M:Addr->Prop} (h:ItOk K G H x) (k:∀ b o,H b=some o->¬ M b->H' b=some o) (hm:∀ b,M b->MutAt H b) (a:∀ b∈x.L,¬ M b):ItOk K G H' x:=#[h.rep.keep k hm a,h.own,h.src]
theorem ItOk.same (h:ItOk K G H x) (s:Same H H'):ItOk K G H' x:=#[h.rep.same s,h.own,h.src]
theorem Fx.more (f:Fx G H T g) (s:∀ b o,H b=some o->∃ o',H' b=some o'):Fx G H' T g:=#[f.frT,f.frS,λb h=>let #[o,e]:=f.bin b h;s b o e,λb o h=>let #[o',e]:=f.ob b o h;s b o' e,f.lvS]
theorem Fx.sub (f:Fx G H T g) (h:∀ x∈T',x∈T):Fx G H T' g:=#[λx a=>f.frT x (h x a),f.frS,f.bin,f.ob,f.lvS]
theorem Wf.grow (w:Wf K G H O Z T g) (s:Same H H'):Wf K G H' O Z T g :=
 #[w.len,w.sl,w.sv,λi x e=>(w.okS i x e).same s,λx a=>(w.okT x a).same s,w.ss,w.st,w.tt,λb o e n=>s b o (w.base b o e n),w.pro,w.fx.more λb o h=>#[o,s b o h]]
theorem Wf.sub (w:Wf K G H O Z T g) (h:T'.Sublist T):Wf K G H O Z T' g :=
 #[w.len,w.sl,w.sv,w.okS,λx a=>w.okT x (h.subset a),w.ss,λi x e y b=>w.st i x e y (h.subset b),w.tt.sublist h,w.base,w.pro,w.fx.sub λx a=>h.subset a]
def Itm (T:List It3) (g:Nat->Option It3) (y:It3):Prop:=(∃ i,g i=some y)\/y∈T
def eF (T:List It3) (g:Nat->Option It3) (c:Addr):Prop:=(∀ i z,g i=some z->z.f≠.z->z.v≠.ref c)/\∀ z∈T,z.f≠.z->z.v≠.ref c
theorem Wf.itm (w:Wf K G H O Z T g) (h:Itm T g y):ItOk K G H y:=by
 rcases h with ⟨i,e⟩ | h
 .exact w.okS i y e
 .exact w.okT y h
theorem oX {α:Type} {R:α->α->Prop} {l:List α} (p:l.Pairwise R) (h:∀ a b,R a b->R b a):∀ a∈l,∀ b∈l,a≠b->R a b:=by
 induction p with
 | nil=>intro a d;cases d
 | @cons c l hc _ ih =>
  intro a d b e n
  rcases Fc.mp d with g | d
  .rcases Fc.mp e with f | e
   .exact absurd (g.trans f.symm) n
   .rw[g];exact hc b e
  .rcases Fc.mp e with f | e
   .rw[f];exact h _ _ (hc a d)
   .exact ih a d b e n
theorem Apart3.symm (h:Apart3 x y):Apart3 y x:=#[h.2,h.1]
theorem Wf.kid (w:Wf K G H O Z T g) (h:Itm T g y) (d:c∈y.L) (hn:y.f≠.z->y.v≠.ref c):eF T g c:=by
 refine #[λi z e hz a=>?_,λz hm hz a=>?_]
 .rcases h with ⟨j,b⟩ | k
  .by_cases l:i=j
   .subst l
    rw[e] at b
    cases b
    exact hn hz a
   .exact w.ss i j z y l e b hz c a d
  .exact (w.st i z e y k).1 hz c a d
 .rcases h with ⟨j,b⟩ | k
  .exact (w.st j y b z hm).2 hz c a d
  .by_cases e:z=y
   .subst e;exact hn hz a
   .exact (oX w.tt (λ_ _=>Apart3.symm) z hm y k e).1 hz c a d
structure New (K:FG) (H H':Hp) (Ks:Addr->Prop) (x:It3):Prop where
 same:Same H H'
 rep:Rep K H' x.d x.v x.L
 sub:∀ c∈x.L,H c=none\/Ks c
 own:x.f≠.z->kh x.d=true/\∃ a L',x.v=.ref a/\x.L=a::L'/\a ∉ L'/\H a=none
theorem Wf.h0none (w:Wf K G H O Z T g) (h:H a=none):G.H0 a=none:=by
 cases e:G.H0 a with
 | none=>rfl
 | some o =>
  by_cases b:G.bw a
  .obtain ⟨o,e⟩:=w.fx.bin a b
   rw[h] at e;cases e
  .have:=w.base a o e b
   rw[h] at this;cases this
theorem Wf.ornone (w:Wf K G H O Z T g) (h:H a=none):G.orig a=none:=by
 cases e:G.orig a with
 | none=>rfl
 | some o =>
  obtain ⟨o,e⟩:=w.fx.ob a o e
  rw[h] at e;cases e
theorem Wf.push (w:Wf K G H O Z T g) (n:New K H H' Ks x) (p:∀ c,Ks c->eF T g c/\(G.H0 c=none\/G.src c)):Wf K G H' O Z (x::T) g:=by
 have d:=w.grow n.same
 have a1:∀ y:It3,ItOk K G H y->(∀ c,Ks c->y.f≠.z->y.v≠.ref c)->Apart3 y x:=λy q b=>by
  refine #[λhf a e hm=>?_,λhf a e hm=>?_]
  .obtain ⟨_,u,L',e1,j,_,_⟩:=q.own hf
   rw[e] at e1
   cases e1
   rcases n.sub a hm with h | h
   .obtain ⟨o,k⟩:=(q.rep.inH a (by rw[j];exact E5)).ex
    rw[h] at k;cases k
   .exact b a h hf e
  .obtain ⟨_,u,L',e1,j,_,h⟩:=n.own hf
   rw[e] at e1
   cases e1
   obtain ⟨o,k⟩:=(q.rep.inH a hm).ex
   rw[h] at k;cases k
 refine #[d.len,d.sl,d.sv,d.okS,?_,d.ss,?_,?_,d.base,d.pro,#[λy b hf a t=>?_,d.fx.frS,d.fx.bin,d.fx.ob,d.fx.lvS]]
 .intro y b
  rcases Fc.mp b with rfl | b
  .refine #[n.rep,λhf=>?_,λc l=>?_]
   .obtain ⟨s,a,L',e1,j,r,m⟩:=n.own hf
    exact #[s,a,L',e1,j,r,λ_=>.inl (w.h0none m)]
   .rcases n.sub c l with h | h
    .exact .inl (w.h0none h)
    .exact (p c h).2
  .exact d.okT y b
 .intro i z e y b
  rcases Fc.mp b with rfl | b
  .exact a1 z (w.okS i z e) λc l=>(p c l).1.1 i z e
  .exact d.st i z e y b
 .refine List.pairwise_cons.mpr #[λy b=>(a1 y (w.okT y b) λc l=>(p c l).1.2 y b).symm,d.tt]
 .rcases Fc.mp b with h | b
  .subst h
   obtain ⟨s,u,L',e1,j,r,m⟩:=n.own hf
   rw[t] at e1
   cases e1
   exact w.ornone m
  .exact d.fx.frT y b hf a t
def fo (ys:List It3) (c:Addr):Prop:=∃ y∈ys,c∈y.L/\(y.f≠.z->y.v≠.ref c)
theorem Wf.kids (w:Wf K G H O Z T g) (a:∀ y∈ys,Itm T g y) (h:fo ys c):eF T g c/\(G.H0 c=none\/G.src c):=by
 obtain ⟨y,m,b,hn⟩:=h
 exact #[w.kid (a y m) b hn,(w.itm (a y m)).src c b]
structure Arg (K:FG) (H:Hp) (p:It3):Prop where
 rep:Rep K H p.d p.v p.L
 own:p.f≠.z->kh p.d=true/\∃ a L',p.v=.ref a/\p.L=a::L'/\a ∉ L'
theorem ItOk.arg (h:ItOk K G H x):Arg K H x:=⟨h.rep,λhf=>by
 obtain ⟨m,a,L',v1,v2,v3,_⟩:=h.own hf
 exact ⟨m,a,L',v1,v2,v3⟩⟩
end
inductive R3 where
 | pl (i:Nat) | val (d:D) (f:Fl)
abbrev M3 (α:Type):=Sto->Option (Except D α×Sto)
abbrev EM:=M3 R3
noncomputable def ag {α β:Type} (m:M3 α) (k:α->M3 β):M3 β:=λZ=>match m Z with
 | none=>none
 | some (.error e,Z')=>some (.error e,Z')
 | some (.ok a,Z')=>k a Z'
noncomputable def a9 {α:Type} (a:α):M3 α:=λZ=>some (.ok a,Z)
noncomputable def bm {α:Type} (o:Option α):M3 α:=λZ=>o.map λa=>(.ok a,Z)
noncomputable def der (r:R3):M3 D:=λZ=>match r with
 | .pl i=>((Z[i]?).join).map λp=>(.ok p.1,Z)
 | .val d _=>some (.ok d,Z)
inductive Ar (O:St):R3->V->List It3->Prop where
 | pl {i:Nat} {v:V}:O[i]?=some (some v)->Ar O (.pl i) v []
 | val (x:It3):Ar O (.val x.d x.f) x.v [x]
def Got (K:FG) (G:Gm) (O:St) (Z:Sto) (T:List It3) (r:R3) (v:V) (H:Hp):Prop:=∃ Ts g,Wf K G H O Z (Ts++T) g/\Ar O r v Ts
def tE (K:FG) (G0:Gm) (W0:D->Sto->Prop) (m:EM):TE:=λO H Q=>∃ G W,Le K G W G0 W0/\∃ Z T g r Z',Wf K G H O Z T g/\m Z=some (r,Z')/\match r with
 | .ok r=>∀ v H',Got K G O Z' T r v H'->Q v H'
 | .error e=>W e Z'
def tT (K:FG) (G0:Gm) (W0:D->Sto->Prop) (m:M3 Bool):TT:=λO H Q=>∃ G W,Le K G W G0 W0/\∃ Z T g r Z',Wf K G H O Z T g/\m Z=some (r,Z')/\match r with
 | .ok b=>∀ H' g',Wf K G H' O Z' T g'->Q b H'
 | .error e=>W e Z'
inductive Ars (O:St):List R3->List V->List It3->Prop where
 | nil:Ars O [] [] []
 | cons {r v Ts rs vs Us}:Ar O r v Ts->Ars O rs vs Us->Ars O (r::rs) (v::vs) (Us++Ts)
def tA (K:FG) (G0:Gm) (W0:D->Sto->Prop) (m:M3 (List R3)):TA:=λO H Q=>∃ G W,Le K G W G0 W0/\∃ Z T g r Z',Wf K G H O Z T g/\m Z=some (r,Z')/\match r with
 | .ok rs=>∀ vs H' Ts g',Wf K G H' O Z' (Ts++T) g'->Ars O rs vs Ts->Q vs H'
 | .error e=>W e Z'
inductive Flw where
 | nx | br | ct | rt (d:D) (f:Fl)
abbrev SM:=M3 Flw
def tS (K:FG) (G0:Gm) (W0:D->Sto->Prop) (m:SM):TS:=λE O H=>∃ G W,Le K G W G0 W0/\∃ Z T g r Z',Wf K G H O Z T g/\m Z=some (r,Z')/\match r with
 | .ok .nx=>∀ O' H' g',Wf K G H' O' Z' T g'->E.nx O' H'
 | .ok .br=>∀ O' H' g',Wf K G H' O' Z' T g'->E.bk O' H'
 | .ok .ct=>∀ O' H' g',Wf K G H' O' Z' T g'->E.ct O' H'
 | .ok (.rt d f)=>∀ x O' H' g',Wf K G H' O' Z' (x::T) g'->x.d=d->x.f=f->E.rt x.v H'
 | .error e=>W e Z'
section
variable {K:FG} {G G0:Gm} {W W0:D->Sto->Prop} {H H':Hp} {O:St} {Z Z':Sto} {T T':List It3} {g:Nat->Option It3} {x y z:It3} {α β:Type}
theorem aO (e:ag (der r) k Z=some (o,Z')):∃ d,der r Z=some (.ok d,Z)/\k d Z=some (o,Z'):=by
 cases r with
 | pl i =>
  have a:der (.pl i) Z=((Z[i]?).join).map λp=>(.ok p.1,Z):=rfl
  unfold ag at e
  rw[a] at e ⊢
  cases h:(Z[i]?).join with
  | none=>rw[h] at e;exact nsE e
  | some p=>rw[h] at e;exact #[p.1,rfl,e]
 | val d f=>exact #[d,rfl,e]
theorem cu (e:bm o Z=some (r,Z')):∃ a,o=some a/\r=.ok a/\Z'=Z:=by
 unfold bm at e
 cases o with
 | none=>exact nsE e
 | some a=>cases e;exact #[a,rfl,rfl,rfl]
theorem Wf.slot (w:Wf K G H O Z T g) {i:Nat} (e:(Z[i]?).join=some (d,f)):∃ y,g i=some y/\y.d=d/\y.f=f/\O[i]?=some (some y.v):=by
 have h:=w.sl i
 rw[e] at h
 cases q:g i with
 | none=>rw[q] at h;exact nsE h
 | some y =>
  rw[q] at h
  cases h
  exact #[y,rfl,rfl,rfl,w.sv i y q]
theorem Ar.item (w:Wf K G H O Z T g) (a:Ar O r v Ts) (k:∀ x∈Ts,x∈T) (e:der r Z=some (.ok d,Z)):∃ y,Itm T g y/\y.d=d/\y.v=v:=by
 cases a with
 | @pl i v h =>
  have j:der (.pl i) Z=((Z[i]?).join).map λp=>(.ok p.1,Z):=rfl
  rw[j] at e
  cases q:(Z[i]?).join with
  | none=>rw[q] at e;exact nsE e
  | some p =>
   rw[q] at e
   obtain ⟨y,e1,c,m,b⟩:=w.slot (d:=p.1) (f:=p.2) q
   have l:p.1=d:=by cases e;rfl
   rw[h] at b
   refine #[y,.inl #[i,e1],c.trans l,?_]
   cases b;rfl
 | val x=>cases e;exact #[x,.inr (k x (by simp)),rfl,rfl]
theorem Wf.done (w:Wf K G H O Z (Us++T) g) (a:∀ y∈ys,Itm (Us++T) g y) (n:New K H H' (fo ys) x):Got K G O Z T (.val x.d x.f) x.v H' :=
 #[[x],g,(w.push n λc h=>w.kids a h).sub (by simpa using List.Sublist.cons_cons x (Fm Us T)),.val x]
theorem tE.seq (le:Le K G W G0 W0) (w:Wf K G H O Z T g) (e:ag ma k Z=some (r,Z')) (he:∀ x,r=.error x->W x Z') (h:∀ ra Z1,k ra Z1=some (r,Z')->∀ v H1,Got K G O Z1 T ra v H1->P v H1):tE K G0 W0 ma O H P:=by
 unfold ag at e
 cases q:ma Z with
 | none=>rw[q] at e;exact nsE e
 | some p =>
  obtain ⟨o,Z1⟩:=p
  rw[q] at e
  cases o with
  | error x=>cases e;exact #[G,W,le,Z,T,g,.error x,Z',w,q,he x rfl]
  | ok ra=>exact #[G,W,le,Z,T,g,.ok ra,Z1,w,q,h ra Z1 e]
theorem tT.seq (le:Le K G W G0 W0) (w:Wf K G H O Z T g) (e:ag ma k Z=some (r,Z')) (he:∀ x,r=.error x->W x Z') (h:∀ b Z1,k b Z1=some (r,Z')->∀ H1 g1,Wf K G H1 O Z1 T g1->P b H1):tT K G0 W0 ma O H P:=by
 unfold ag at e
 cases q:ma Z with
 | none=>rw[q] at e;exact nsE e
 | some p =>
  obtain ⟨o,Z1⟩:=p
  rw[q] at e
  cases o with
  | error x=>cases e;exact #[G,W,le,Z,T,g,.error x,Z',w,q,he x rfl]
  | ok ra=>exact #[G,W,le,Z,T,g,.ok ra,Z1,w,q,h ra Z1 e]
theorem tA.seq (le:Le K G W G0 W0) (w:Wf K G H O Z T g) (e:ag ma k Z=some (r,Z')) (he:∀ x,r=.error x->W x Z') (h:∀ rs Z1,k rs Z1=some (r,Z')->∀ vs H1 Ts g1,Wf K G H1 O Z1 (Ts++T) g1->Ars O rs vs Ts->P vs H1):tA K G0 W0 ma O H P:=by
 unfold ag at e
 cases q:ma Z with
 | none=>rw[q] at e;exact nsE e
 | some p =>
  obtain ⟨o,Z1⟩:=p
  rw[q] at e
  cases o with
  | error x=>cases e;exact #[G,W,le,Z,T,g,.error x,Z',w,q,he x rfl]
  | ok ra=>exact #[G,W,le,Z,T,g,.ok ra,Z1,w,q,h ra Z1 e]
def EndE (K:FG) (G:Gm) (W:D->Sto->Prop) (O:St) (T:List It3) (Z':Sto) (Q:VK):Except D R3->Prop
 | .ok r=>∀ v H',Got K G O Z' T r v H'->Q v H'
 | .error e=>W e Z'
theorem EndE.err (h:EndE K G W O T Z' Q r):∀ x,r=.error x->W x Z':=by
 intro x e;subst e;exact h
theorem tE.open (h:tE K G0 W0 m O H Q):∃ G W,Le K G W G0 W0/\∃ Z T g r Z',Wf K G H O Z T g/\m Z=some (r,Z')/\EndE K G W O T Z' Q r:=by
 obtain ⟨G,W,le,Z,T,g,r,Z',w,e,q⟩:=h
 refine #[G,W,le,Z,T,g,r,Z',w,e,?_]
 cases r with
 | ok r=>exact q
 | error x=>exact q
theorem tE.use (h:tE K G0 W0 m O H Q) {P:Prop} (k:∀ G W,Le K G W G0 W0->∀ Z T g r Z',Wf K G H O Z T g->m Z=some (r,Z')->EndE K G W O T Z' Q r->P):P:=by
 obtain ⟨G,W,le,Z,T,g,r,Z',w,e,q⟩:=h.open
 exact k G W le Z T g r Z' w e q
theorem tE.mk (le:Le K G W G0 W0) (w:Wf K G H O Z T g) (e:m Z=some (r,Z')) (h:EndE K G W O T Z' Q r):tE K G0 W0 m O H Q:=by
 refine #[G,W,le,Z,T,g,r,Z',w,e,?_]
 cases r with
 | ok r=>exact h
 | error x=>exact h
def ac (i:Nat):EM:=λZ=>((Z[i]?).join).map λ_=>(.ok (.pl i),Z)
theorem wR {i:Nat} (h:tE K G0 W0 (ac i) O H Q):pS i O H Q:=by
 refine h.use λG W le Z T g r Z' w e q=>?_
 unfold ac at e
 cases h:(Z[i]?).join with
 | none=>rw[h] at e;exact nsE e
 | some p =>
  rw[h] at e
  cases e
  obtain ⟨y,_,_,_,a⟩:=w.slot (d:=p.1) (f:=p.2) h
  exact #[y.v,a,q y.v H #[[],g,w,.pl a]]
def mC (d:D):EM:=a9 (.val d .z)
theorem Wf.const (w:Wf K G H O Z T g) (r:Rep K H d v []):Got K G O Z T (.val d .z) v H :=
 Wf.done (Us:=[]) (ys:=[]) (x:=#[d,v,[],.z]) w (λ_ h=>(by cases h)) #[Same.refl _,r,λ_ h=>(by cases h),λh=>absurd rfl h]
theorem jS (r:∀ H,Rep K H d v []) (h:tE K G0 W0 (mC d) O H Q):tC v O H Q:=by
 refine h.use λG W le Z T g o Z' w e q=>?_
 cases e
 exact q v H (w.const (r H))
def ah (f:D->D->Option (D×Fl)) (ma mb:EM):EM:=ag ma λra=>ag mb λrb=>ag (der ra) λda=>ag (der rb) λdb=>bm ((f da db).map λp=>R3.val p.1 p.2)
def OpD (K:FG) (r:R2) (f:D->D->Option (D×Fl)):Prop:=∀ (a b:It3) (H:Hp) (Q:VK) (p:D×Fl),Arg K H a->Arg K H b->f a.d b.d=some p ->
 (∀ w H',New K H H' (fo [a,b]) w->w.d=p.1->w.f=p.2->Q w.v H')->r a.v b.v H Q
theorem qX (w:Wf K G H O Z (Us++T) g) (c:∀ y∈ys,Itm (Us++T) g y) (q:EndE K G W O T Z Q (.ok (.val d f))) :
  ∀ a H',New K H H' (fo ys) a->a.d=d->a.f=f->Q a.v H':=by
 intro a H' n e1 b
 subst e1 b
 exact q a.v H' (w.done c n)
theorem kF (v:OpD K r f) (h:tE K G0 W0 (ah f ma mb) O H Q):tOp r (tE K G0 W0 ma) (tE K G0 W0 mb) O H Q:=by
 refine h.use λG W le Z T g o Z' w e q=>?_
 refine tE.seq le w e q.err λra Z1 e1 F H1 #[Ts,g1,A,a1]=>?_
 refine tE.seq le A e1 q.err λrb Z2 u E H2 #[Us,g2,a,a2]=>?_
 obtain ⟨da,z,t⟩:=aO u
 obtain ⟨db,C,B⟩:=aO t
 obtain ⟨p,b,rfl,rfl⟩:=cu B
 obtain ⟨n,c,f1,f2⟩:=a1.item a (λx j=>Fb _ (E9 _ j)) z
 obtain ⟨m,i,D,f4⟩:=a2.item a (λx j=>E9 _ j) C
 subst f1 f2 D f4
 cases k:f n.d m.d with
 | none=>rw[k] at b;exact nsE b
 | some s =>
  rw[k] at b
  cases b
  rw[<- List.append_assoc] at a c i
  refine v n m H2 Q s (a.itm c).arg (a.itm i).arg k (qX a (λy l=>?_) q)
  rcases Fc.mp l with h | l
  .rw[h];exact c
  .rw[FJ.mp l];exact i
def mUn (f:D->Option (D×Fl)) (ma:EM):EM:=ag ma λra=>ag (der ra) λda=>bm ((f da).map λp=>R3.val p.1 p.2)
def UnD (K:FG) (r:V->Hp->VK->Prop) (f:D->Option (D×Fl)):Prop:=∀ (a:It3) (H:Hp) (Q:VK) (p:D×Fl),Arg K H a->f a.d=some p ->
 (∀ w H',New K H H' (fo [a]) w->w.d=p.1->w.f=p.2->Q w.v H')->r a.v H Q
theorem BY (m:UnD K r f) (h:tE K G0 W0 (mUn f ma) O H Q):tUn r (tE K G0 W0 ma) O H Q:=by
 refine h.use λG W le Z T g o Z' w e q=>?_
 refine tE.seq le w e q.err λra Z1 e1 u H1 #[Ts,g1,b,a1]=>?_
 obtain ⟨da,n,k⟩:=aO e1
 obtain ⟨p,a,rfl,rfl⟩:=cu k
 obtain ⟨j,i,f1,f2⟩:=a1.item b (λx l=>E9 _ l) n
 subst f1 f2
 cases c:f j.d with
 | none=>rw[c] at a;exact nsE a
 | some s =>
  rw[c] at a
  cases a
  exact m j H1 Q s (b.itm i).arg c (qX b (λy t=>by rw[FJ.mp t];exact i) q)
def aj:M3 (List R3):=a9 []
def aa (m:EM) (ms:M3 (List R3)):M3 (List R3):=ag m λr=>ag ms λrs=>a9 (r::rs)
def EndA (K:FG) (G:Gm) (W:D->Sto->Prop) (O:St) (T:List It3) (Z':Sto) (Q:List V->Hp->Prop):Except D (List R3)->Prop
 | .ok rs=>∀ vs H' Ts g',Wf K G H' O Z' (Ts++T) g'->Ars O rs vs Ts->Q vs H'
 | .error e=>W e Z'
theorem EndA.err (h:EndA K G W O T Z' Q r):∀ x,r=.error x->W x Z':=by
 intro x e;subst e;exact h
theorem tA.open (h:tA K G0 W0 m O H Q):∃ G W,Le K G W G0 W0/\∃ Z T g r Z',Wf K G H O Z T g/\m Z=some (r,Z')/\EndA K G W O T Z' Q r:=by
 obtain ⟨G,W,le,Z,T,g,r,Z',w,e,q⟩:=h
 refine #[G,W,le,Z,T,g,r,Z',w,e,?_]
 cases r with
 | ok r=>exact q
 | error x=>exact q
theorem tA.use (h:tA K G0 W0 m O H Q) {P:Prop} (k:∀ G W,Le K G W G0 W0->∀ Z T g r Z',Wf K G H O Z T g->m Z=some (r,Z')->EndA K G W O T Z' Q r->P):P:=by
 obtain ⟨G,W,le,Z,T,g,r,Z',w,e,q⟩:=h.open
 exact k G W le Z T g r Z' w e q
theorem CV (h:tA K G0 W0 aj O H Q):CL O H Q:=by
 refine h.use λG W le Z T g r Z' w e q=>?_
 cases e
 exact q [] H [] g w .nil
theorem zY (h:tA K G0 W0 (aa m ms) O H Q):wT (tE K G0 W0 m) (tA K G0 W0 ms) O H Q:=by
 refine h.use λG W le Z T g r Z' w e q=>?_
 refine tE.seq le w e q.err λra Z1 e1 a H1 #[Ts,g1,c,a1]=>?_
 refine tA.seq le c e1 q.err λrs Z2 b vs H2 Us g2 d a2=>?_
 cases b
 refine q (a::vs) H2 (Us++Ts) g2 ?_ (.cons a1 a2)
 rw[List.append_assoc]
 exact d
def fm:List R3->M3 (List D)
 | []=>a9 []
 | r::rs=>ag (der r) λd=>ag (fm rs) λds=>a9 (d::ds)
theorem uL:∀ {rs:List R3} {Z Z':Sto} {o:Except D (List D)},fm rs Z=some (o,Z')->∃ ds,o=.ok ds/\Z'=Z
 | [],Z,Z',o,e=>by cases e;exact #[[],rfl,rfl]
 | r::rs,Z,Z',o,e=>by
  obtain ⟨d,e1,a⟩:=aO (k:=λd=>ag (fm rs) λds=>a9 (d::ds)) e
  unfold ag at a
  cases q:fm rs Z with
  | none=>rw[q] at a;exact nsE a
  | some p =>
   obtain ⟨o',Z1⟩:=p
   obtain ⟨ds,rfl,rfl⟩:=uL q
   rw[q] at a
   cases a
   exact #[d::ds,rfl,rfl]
theorem cv (e:ag (fm rs) k Z=some (o,Z')):∃ ds,fm rs Z=some (.ok ds,Z)/\k ds Z=some (o,Z'):=by
 unfold ag at e
 cases q:fm rs Z with
 | none=>rw[q] at e;exact nsE e
 | some p =>
  obtain ⟨o',Z1⟩:=p
  obtain ⟨ds,rfl,rfl⟩:=uL q
  rw[q] at e
  exact #[ds,rfl,e]
theorem Ars.items:∀ {rs:List R3} {vs:List V} {Ts:List It3} {ds:List D} ,Wf K G H O Z T g->Ars O rs vs Ts->(∀ x∈Ts,x∈T)->fm rs Z=some (.ok ds,Z)->∃ ys:List It3,(∀ y∈ys,Itm T g y)/\ys.map (·.d)=ds/\ys.map (·.v)=vs
 | [],_,_,ds,w,.nil,_,e=>by cases e;exact #[[],λ_ h=>(by cases h),rfl,rfl]
 | r::rs,_,_,ds,w,.cons a as,hs,e=>by
  obtain ⟨d,e1,l⟩:=aO (k:=λd=>ag (fm rs) λds=>a9 (d::ds)) e
  obtain ⟨m,c,i⟩:=cv l
  cases i
  obtain ⟨y,f,f1,f2⟩:=a.item w (λx b=>hs x (Fb _ b)) e1
  obtain ⟨ys,j,n,f4⟩:=Ars.items w as (λx b=>hs x (E9 _ b)) c
  refine #[y::ys,λz hz=>?_,by simp[f1,n],by simp[f2,f4]]
  rcases Fc.mp hz with h | hz
  .rw[h];exact f
  .exact j z hz
def ay (f:List D->Option (D×Fl)) (ms:M3 (List R3)):EM:=ag ms λrs=>ag (fm rs) λds=>bm ((f ds).map λp=>R3.val p.1 p.2)
def iF (K:FG) (r:List V->Hp->VK->Prop) (f:List D->Option (D×Fl)):Prop:=∀ (ys:List It3) (H:Hp) (Q:VK) (p:D×Fl),(∀ y∈ys,Arg K H y)->f (ys.map (·.d))=some p ->
 (∀ w H',New K H H' (fo ys) w->w.d=p.1->w.f=p.2->Q w.v H')->r (ys.map (·.v)) H Q
theorem pV (l:iF K r f) (h:tE K G0 W0 (ay f ms) O H Q):tCB r (tA K G0 W0 ms) O H Q:=by
 refine h.use λG W le Z T g o Z' w e q=>?_
 refine tA.seq le w e q.err λrs Z1 e1 vs H1 Ts g1 b a1=>?_
 obtain ⟨ds,m,k⟩:=cv e1
 obtain ⟨p,a,rfl,rfl⟩:=cu k
 obtain ⟨ys,i,f1,f2⟩:=a1.items b (λx j=>E9 _ j) m
 subst f1 f2
 cases c:f (ys.map (·.d)) with
 | none=>rw[c] at a;exact nsE a
 | some s =>
  rw[c] at a
  cases a
  exact l ys H1 Q s (λy n=>(b.itm (i y n)).arg) c (qX b i q)
def asB:D->Option Bool
 | .bl b=>some b
 | _=>none
def ke (ma mb:EM):EM:=ag ma λra=>ag (der ra) λd=>ag (bm (asB d)) λb=>if b then mb else a9 (.val (.bl false) .z)
def Ek (ma:EM):EM:=ag ma λra=>ag (der ra) λd=>ag (bm (asB d)) λb=>a9 (.val (.bl (!b)) .z)
theorem kM (e:ag (bm o) k Z=some (r,Z')):∃ a,o=some a/\k a Z=some (r,Z'):=by
 unfold ag bm at e
 cases o with
 | none=>exact nsE e
 | some a=>exact #[a,rfl,e]
theorem zq (e:asB d=some b):d=.bl b:=by
 cases d <;> first | exact nsE e | cases e
 rfl
theorem Rep.bl_eq (r:Rep K H (.bl b) v L):v=.bl b/\L=[]:=by cases r;exact #[rfl,rfl]
theorem Ar.bool (w:Wf K G H O Z (Ts++T) g) (a:Ar O ra v Ts) (e:der ra Z=some (.ok d,Z)) (c:asB d=some b):v=.bl b:=by
 obtain ⟨y,f,f1,f2⟩:=a.item w (λx h=>E9 _ h) e
 have r:=(w.itm f).rep
 rw[f1,zq c] at r
 rw[<- f2]
 exact r.bl_eq.1
theorem CT (h:tE K G0 W0 (ke ma mb) O H Q):B5 (tE K G0 W0 ma) (tE K G0 W0 mb) O H Q:=by
 refine h.use λG W le Z T g o Z' w e q=>?_
 refine tE.seq le w e q.err λra Z1 e1 l H1 #[Ts,g1,c,a1]=>?_
 obtain ⟨d,j,i⟩:=aO e1
 obtain ⟨b,k,a⟩:=kM i
 refine #[b,a1.bool c j k,?_]
 have f:=c.sub (Fm Ts T)
 cases b with
 | true=>exact tE.mk le f a q
 | false=>cases a;exact q _ _ (f.const (.bl false))
theorem CP (h:tE K G0 W0 (Ek ma) O H Q):BV (tE K G0 W0 ma) O H Q:=by
 refine h.use λG W le Z T g o Z' w e q=>?_
 refine tE.seq le w e q.err λra Z1 e1 l H1 #[Ts,g1,a,a1]=>?_
 obtain ⟨d,i,f⟩:=aO e1
 obtain ⟨b,j,c⟩:=kM f
 refine #[b,a1.bool a i j,?_]
 have k:=a.sub (Fm Ts T)
 cases c;exact q _ _ (k.const (.bl (!b)))
def EndT (K:FG) (G:Gm) (W:D->Sto->Prop) (O:St) (T:List It3) (Z':Sto) (Q:Bool->Hp->Prop):Except D Bool->Prop
 | .ok b=>∀ H' g',Wf K G H' O Z' T g'->Q b H'
 | .error e=>W e Z'
theorem EndT.err (h:EndT K G W O T Z' Q r):∀ x,r=.error x->W x Z':=by
 intro x e;subst e;exact h
theorem tT.open (h:tT K G0 W0 m O H Q):∃ G W,Le K G W G0 W0/\∃ Z T g r Z',Wf K G H O Z T g/\m Z=some (r,Z')/\EndT K G W O T Z' Q r:=by
 obtain ⟨G,W,le,Z,T,g,r,Z',w,e,q⟩:=h
 refine #[G,W,le,Z,T,g,r,Z',w,e,?_]
 cases r with
 | ok r=>exact q
 | error x=>exact q
theorem tT.use (h:tT K G0 W0 m O H Q) {P:Prop} (k:∀ G W,Le K G W G0 W0->∀ Z T g r Z',Wf K G H O Z T g->m Z=some (r,Z')->EndT K G W O T Z' Q r->P):P:=by
 obtain ⟨G,W,le,Z,T,g,r,Z',w,e,q⟩:=h.open
 exact k G W le Z T g r Z' w e q
theorem tT.mk (le:Le K G W G0 W0) (w:Wf K G H O Z T g) (e:m Z=some (r,Z')) (h:EndT K G W O T Z' Q r):tT K G0 W0 m O H Q:=by
 refine #[G,W,le,Z,T,g,r,Z',w,e,?_]
 cases r with
 | ok r=>exact h
 | error x=>exact h
def cB (m:EM):M3 Bool:=ag m λr=>ag (der r) λd=>bm (asB d)
theorem CC (h:tT K G0 W0 (cB m) O H Q):tB (tE K G0 W0 m) O H Q:=by
 refine h.use λG W le Z T g o Z' w e q=>?_
 refine tE.seq le w e q.err λra Z1 e1 j H1 #[Ts,g1,a,a1]=>?_
 obtain ⟨d,f,c⟩:=aO e1
 obtain ⟨b,i,rfl,rfl⟩:=cu c
 exact #[b,a1.bool a f i,q _ _ (a.sub (Fm Ts T))]
def jx (a b:M3 Bool):M3 Bool:=ag a λc=>if c then b else a9 false
def cOr (a b:M3 Bool):M3 Bool:=ag a λc=>if c then a9 true else b
def jf (a:M3 Bool):M3 Bool:=ag a λc=>a9 (!c)
theorem CD (h:tT K G0 W0 (jx a b) O H Q):tAnd (tT K G0 W0 a) (tT K G0 W0 b) O H Q:=by
 refine h.use λG W le Z T g o Z' w e q=>?_
 refine tT.seq le w e q.err λc Z1 e1 H1 g1 d=>?_
 cases c with
 | true=>exact tT.mk le d e1 q
 | false=>cases e1;exact q _ _ d
theorem tT_or (h:tT K G0 W0 (cOr a b) O H Q):tOr (tT K G0 W0 a) (tT K G0 W0 b) O H Q:=by
 refine h.use λG W le Z T g o Z' w e q=>?_
 refine tT.seq le w e q.err λc Z1 e1 H1 g1 d=>?_
 cases c with
 | false=>exact tT.mk le d e1 q
 | true=>cases e1;exact q _ _ d
theorem CB (h:tT K G0 W0 (jf a) O H Q):tNot (tT K G0 W0 a) O H Q:=by
 refine h.use λG W le Z T g o Z' w e q=>?_
 refine tT.seq le w e q.err λc Z1 e1 H1 g1 b=>?_
 cases e1;exact q _ _ b
def mIf (c:M3 Bool) (ma mb:EM):EM:=ag c λb=>if b then ma else mb
theorem tE_if (h:tE K G0 W0 (mIf c ma mb) O H Q):tIf (tT K G0 W0 c) (tE K G0 W0 ma) (tE K G0 W0 mb) O H Q:=by
 refine h.use λG W le Z T g o Z' w e q=>?_
 refine tT.seq le w e q.err λc Z1 e1 H1 g1 a=>?_
 cases c with
 | true=>exact tE.mk le a e1 q
 | false=>exact tE.mk le a e1 q
end
def dY (x:It3):It3:={ x with f:=.z }
theorem dj:NoRoot (dY x) y:=λh=>absurd rfl h
def lowAt (i:Nat) (Z:Sto):Sto:=match (Z[i]?).join with
 | some (d,.u)=>Z.set i #v[d]
 | some (d,.l)=>Z.set i #v[d]
 | _=>Z
noncomputable def frz (is:List Nat) (Z:Sto):Sto:=is.foldl (λZ i=>lowAt i Z) Z
def frz3 (is:List Nat):M3 Unit:=λZ=>some (.ok (),frz is Z)
def pls:List R3->List Nat
 | []=>[]
 | .pl i::rs=>i::pls rs
 | .val _ _::rs=>pls rs
section
variable {K:FG} {G G0:Gm} {W W0:D->Sto->Prop} {H H':Hp} {O:St} {Z Z':Sto} {T T':List It3} {g:Nat->Option It3} {x y z:It3} {α β:Type}
theorem ItOk.low (h:ItOk K G H x):ItOk K G H (dY x):=#[h.rep,λq=>absurd rfl q,h.src]
theorem dq {i j:Nat} (hi:i < Z.length):((Z.set i o)[j]?).join=if j=i then o else (Z[j]?).join:=by grind
theorem il {i:Nat} (h:(Z[i]?).join=some p):i < Z.length:=by grind
theorem Wf.lowSlot (w:Wf K G H O Z T g) {i:Nat} (e:(Z[i]?).join=some (d,f)):Wf K G H O (Z.set i #v[d]) T (λj=>if j=i then (g i).map dY else g j):=by
 have hi:=il e
 obtain ⟨y,A,v,D,ev⟩:=w.slot e
 have val:∀ j x,(if j=i then (g i).map dY else g j)=some x->∃ x0,g j=some x0/\(x=x0\/x=dY x0)/\(j=i->x=dY x0):=λj x h=>by
  grind
 have t:∀ {a b:It3},NoRoot a b->∀ m l,(m=a\/m=dY a)->(l=b\/l=dY b)->NoRoot m l:=λh m l h1 h2=>by
  rcases h1 with rfl | rfl
  .rcases h2 with rfl | rfl
   .exact h
   .exact h
  .exact dj
 refine #[by rw[List.length_set];exact w.len,λj=>?_,λj x h=>?_,λj x h=>?_,w.okT,λj k a b n h1 h2=>?_,λj a h b p=>?_,w.tt,w.base,w.pro,#[w.fx.frT,λj x h C hf a B=>?_,w.fx.bin,w.fx.ob,λj x h hl=>?_]]
 .rw[dq hi]
  by_cases q:j=i
  .subst q
   rw[if_pos rfl,if_pos rfl,A]
   show some ((dY y).d,Fl.z)=_
   rw[<- v];rfl
  .rw[if_neg q,if_neg q];exact w.sl j
 .obtain ⟨x0,h0,c,_⟩:=val j x h
  have:=w.sv j x0 h0
  rcases c with rfl | rfl <;> exact this
 .obtain ⟨x0,h0,c,_⟩:=val j x h
  rcases c with rfl | rfl
  .exact w.okS j x h0
  .exact (w.okS j x0 h0).low
 .obtain ⟨r,h0,o,_⟩:=val j a h1
  obtain ⟨u,s,p,_⟩:=val k b h2
  exact t (w.ss j k r u n h0 s) a b o p
 .obtain ⟨r,h0,o,_⟩:=val j a h
  exact #[t (w.st j r h0 b p).1 a b o (.inl rfl),t (w.st j r h0 b p).2 b a (.inl rfl) o]
 .obtain ⟨x0,h0,c,_⟩:=val j x h
  rcases c with rfl | rfl
  .exact w.fx.frS j x h0 C hf a B
  .exact absurd rfl hf
 .obtain ⟨x0,h0,c,_⟩:=val j x h
  rcases c with rfl | rfl
  .exact w.fx.lvS j x h0 hl
  .cases hl
def Kin (x y:It3):Prop:=y.d=x.d/\y.v=x.v/\y.L=x.L/\(y.f=x.f\/y.f=.z)
theorem Kin.refl (x:It3):Kin x x:=#[rfl,rfl,rfl,.inl rfl]
theorem Kin.trans (a:Kin x y) (b:Kin y z):Kin x z:=⟨b.1.trans a.1,b.2.1.trans a.2.1,b.2.2.1.trans a.2.2.1,by
 rcases b.2.2.2 with h | h
 .rcases a.2.2.2 with h' | h'
  .exact .inl (h.trans h')
  .exact .inr (h.trans h')
 .exact .inr h⟩
theorem Wf.lowAt {i:Nat} (w:Wf K G H O Z T g):∃ g',Wf K G H O (lowAt i Z) T g'/\(∀ j y,g j=some y->∃ a,g' j=some a/\Kin y a/\(j=i->a.f=.z)):=by
 have keep:∀ d,(Z[i]?).join=#v[d]->∃ g',Wf K G H O Z T g'/\(∀ j y,g j=some y->∃ a,g' j=some a/\Kin y a/\(j=i->a.f=.z)):=λd e=>⟨g,w,λj y h=>⟨y,h,Kin.refl y,λq=>by
  subst q
  obtain ⟨a,h',_,hf,_⟩:=w.slot e
  rw[h] at h';cases h';exact hf⟩⟩
 have low:∀ d f,(Z[i]?).join=some (d,f)->∃ g',Wf K G H O (Z.set i #v[d]) T g'/\(∀ j y,g j=some y->∃ a,g' j=some a/\Kin y a/\(j=i->a.f=.z)):=λd f e=>⟨_,w.lowSlot e,λj y h=>by
  by_cases q:j=i
  .subst q;exact #[dY y,by rw[if_pos rfl,h];rfl,#[rfl,rfl,rfl,.inr rfl],λ_=>rfl]
  .exact ⟨y,by rw[if_neg q];exact h,Kin.refl y,λz=>absurd z q⟩⟩
 unfold L3.lowAt
 cases e:(Z[i]?).join with
 | none =>
  refine #[g,w,λj y h=>#[y,h,Kin.refl y,λq=>?_]]
  subst q
  have:=w.sl j
  rw[h,e] at this;cases this
 | some p =>
  obtain ⟨d,f⟩:=p
  cases f with
  | u=>exact low d _ e
  | l=>exact low d _ e
  | z=>exact keep d e
theorem Wf.frz:∀ {is:List Nat} {Z:Sto} {g:Nat->Option It3},Wf K G H O Z T g->∃ g',Wf K G H O (frz is Z) T g'/\(∀ j y,g j=some y->∃ a,g' j=some a/\Kin y a/\(j∈is->a.f=.z))
 | [],Z,g,w=>#[g,w,λj y h=>#[y,h,Kin.refl y,λq=>by cases q]]
 | i::is,Z,g,w=>by
  obtain ⟨g1,e,h1⟩:=w.lowAt (i:=i)
  obtain ⟨g2,n,h2⟩:=Wf.frz (is:=is) e
  refine #[g2,n,λj y h=>?_]
  obtain ⟨l,e1,c,m⟩:=h1 j y h
  obtain ⟨k,d,k2,b⟩:=h2 j l e1
  refine #[k,d,c.trans k2,λhm=>?_]
  rcases Fc.mp hm with q | q
  .rcases k2.2.2.2 with h | h
   .exact h.trans (m q)
   .exact h
  .exact b q
theorem Wf.lowT (w:Wf K G H O Z (Ts++T) g):Wf K G H O Z (Ts.map dY++T) g:=by
 have sp:∀ {a b:It3},Apart3 a b->Apart3 (dY a) (dY b):=λh=>#[dj,dj]
 refine #[w.len,w.sl,w.sv,w.okS,λx c=>?_,w.ss,λi x e y j=>?_,?_,w.base,w.pro,#[λx c hf a d=>?_,w.fx.frS,w.fx.bin,w.fx.ob,w.fx.lvS]]
 .rcases Ff.mp c with h | h
  .obtain ⟨x0,h0,rfl⟩:=Fo.mp h
   exact (w.okT x0 (E9 _ h0)).low
  .exact w.okT x (Fb _ h)
 .rcases Ff.mp j with h | h
  .obtain ⟨y0,h0,rfl⟩:=Fo.mp h
   exact #[(w.st i x e y0 (E9 _ h0)).1,dj]
  .exact w.st i x e y (Fb _ h)
 .have h:=List.pairwise_append.mp w.tt
  refine List.pairwise_append.mpr #[?_,h.2.1,λa f b k=>?_]
  .grind
  .obtain ⟨l,h0,rfl⟩:=Fo.mp f
   exact #[dj,(h.2.2 l h0 b k).2]
 .rcases Ff.mp c with h | h
  .obtain ⟨x0,h0,rfl⟩:=Fo.mp h
   exact absurd rfl hf
  .exact w.fx.frT x (Fb _ h) hf a d
theorem lR:∀ {rs:List R3} {i:Nat},R3.pl i∈rs->i∈pls rs
 | [],_,h=>by cases h
 | .pl j::rs,i,h=>by
  rcases Fc.mp h with e | h
  .cases e;exact E5
  .exact E6 _ (lR h)
 | .val _ _::rs,i,h=>by
  rcases Fc.mp h with e | h
  .cases e
  .exact lR (rs:=rs) h
theorem Ars.given:∀ {rs:List R3} {vs:List V} {Ts:List It3} {ds:List D} {S:List It3} {g':Nat->Option It3} {is:List Nat},Wf K G H O Z T g->(∀ j y,g j=some y->∃ b,g' j=some b/\Kin y b/\(j∈is->b.f=.z))->(∀ i,R3.pl i∈rs->i∈is) ->
  Ars O rs vs Ts->(∀ x∈Ts,x∈T)->(∀ x∈Ts,dY x∈S)->fm rs Z=some (.ok ds,Z)->∃ ys:List It3,(∀ y∈ys,Itm S g' y/\y.f=.z)/\ys.map (·.d)=ds/\ys.map (·.v)=vs
 | [],_,_,ds,S,g',is,w,hg,hi,.nil,_,_,e=>by cases e;exact #[[],λ_ h=>(by cases h),rfl,rfl]
 | r::rs,_,_,ds,S,g',is,w,hg,hi,.cons (v:=v0) a as,hs,hS,e=>by
  obtain ⟨d,e1,s⟩:=aO (k:=λd=>ag (fm rs) λds=>a9 (d::ds)) e
  obtain ⟨A,m,B⟩:=cv s
  cases B
  obtain ⟨ys,o,F,f4⟩:=Ars.given w hg (λi h=>hi i (E6 _ h)) as (λx c=>hs x (E9 _ c)) (λx c=>hS x (E9 _ c)) m
  have one:∃ y,(Itm S g' y/\y.f=.z)/\y.d=d/\y.v=v0:=by
   cases a with
   | @pl i v h =>
    have t:der (.pl i) Z=((Z[i]?).join).map λp=>(.ok p.1,Z):=rfl
    rw[t] at e1
    cases q:(Z[i]?).join with
    | none=>rw[q] at e1;exact nsE e1
    | some p =>
     rw[q] at e1
     obtain ⟨y,u,C,I,l⟩:=w.slot (d:=p.1) (f:=p.2) q
     obtain ⟨b,h1,h2,h3⟩:=hg i y u
     have E:p.1=d:=by cases e1;rfl
     rw[h] at l
     refine #[b,#[.inl #[i,h1],h3 (hi i E5)],h2.1.trans (C.trans E),?_]
     rw[h2.2.1];cases l;rfl
   | val x=>cases e1;exact #[dY x,#[.inr (hS x (by simp)),rfl],rfl,rfl]
  obtain ⟨y,n,f1,f2⟩:=one
  refine #[y::ys,λz hz=>?_,by simp[f1,F],by simp[f2,f4]]
  rcases Fc.mp hz with h | hz
  .rw[h];exact n
  .exact o z hz
def d6 (ys:List It3) (c:Addr):Prop:=∃ y∈ys,c∈y.L
def gives (rs:List R3):M3 (List D):=ag (fm rs) λds=>ag (frz3 (pls rs)) λ_=>a9 ds
theorem Ars.gives (w:Wf K G H O Z (Ts++T) g) (a:Ars O rs vs Ts) (e:ag (gives rs) k Z=some (r,Z')) :
  ∃ ds Z1 g1,k ds Z1=some (r,Z')/\Z1=frz (pls rs) Z/\Wf K G H O Z1 (Ts.map dY++T) g1/\(∀ j y,g j=some y->∃ c,g1 j=some c/\Kin y c)/\∃ ys:List It3,(∀ y∈ys,Itm (Ts.map dY++T) g1 y/\y.f=.z)/\ys.map (·.d)=ds/\ys.map (·.v)=vs:=by
 unfold L3.gives at e
 have m:ag (fm rs) (λds=>ag (frz3 (pls rs)) λ_=>k ds) Z=some (r,Z'):=by
  rw[<- e]
  unfold ag
  cases q:fm rs Z with
  | none=>rfl
  | some p =>
   obtain ⟨o,Z2⟩:=p
   cases o with
   | error x=>rfl
   | ok ds=>rfl
 obtain ⟨ds,n,e1⟩:=cv m
 obtain ⟨g1,s,h1⟩:=Wf.frz (is:=pls rs) w
 refine #[ds,L3.frz (pls rs) Z,g1,e1,rfl,s.lowT,λj y h=>let #[c,a,b,_]:=h1 j y h;#[c,a,b],?_]
 exact Ars.given w h1 (λi h=>lR h) a (λx l=>E9 _ l) (λx l=>E9 _ (Fo.mpr #[x,l,rfl])) n
theorem Wf.alls (w:Wf K G H O Z T g) (a:∀ y∈ys,Itm T g y/\y.f=.z) (h:d6 ys c):eF T g c/\(G.H0 c=none\/G.src c):=by
 obtain ⟨y,m,b⟩:=h
 exact #[w.kid (a y m).1 b λhf=>absurd (a y m).2 hf,(w.itm (a y m).1).src c b]
theorem Wf.doneA (w:Wf K G H O Z (Us++T) g) (a:∀ y∈ys,Itm (Us++T) g y/\y.f=.z) (n:New K H H' (d6 ys) x):Got K G O Z T (.val x.d x.f) x.v H' :=
 #[[x],g,(w.push n λc h=>w.alls a h).sub (by simpa using List.Sublist.cons_cons x (Fm Us T)),.val x]
theorem lQ:∀ {ys:List It3},(∀ y∈ys,Rep K H y.d y.v y.L)->Reps (Rep K H) (ys.map (·.d)) (ys.map (·.v)) (ys.map (·.L)).flatten
 | [],_=>.nil
 | y::ys,h=>.cons (h y E5) (lQ λz hz=>h z (E6 _ hz))
theorem gc (h:c∈(ys.map (·.L)).flatten):d6 ys c:=by
 obtain ⟨l,hl,b⟩:=List.mem_flatten.mp h
 obtain ⟨y,a,rfl⟩:=Fo.mp hl
 exact #[y,a,b]
noncomputable def Bi (mk:List D->D) (f:Fl) (ms:M3 (List R3)):EM:=ag ms λrs=>ag (gives rs) λds=>bm (if ds.length<=16777216 then some (.val (mk ds) f) else none)
abbrev ig:M3 (List R3)->EM:=Bi .tup .z
abbrev iH:M3 (List R3)->EM:=Bi .lst .u
theorem ce (h:H p=none):Same H (upd H p o):=λb u e=>by
 rw[aF (aV e h)];exact e
set_option tactic.hygienic true in
theorem CO (hz:(16777216:Nat)=sizeLine) (h:tE K G0 W0 (ig ms) O H Q):tTup (tA K G0 W0 ms) O H Q:=by
 refine h.use λG W le Z T g o Z' w e q=>?_
 refine tA.seq le w e q.err λrs Z1 e1 vs H1 Ts g1 l a1=>?_
 obtain ⟨ds,Z2,g2,k,_,j,_,ys,i,f1,f2⟩:=a1.gives l e1
 obtain ⟨v,a,rfl,rfl⟩:=cu k
 subst f1 f2
 split at a
 .rename_i hl
  cases a
  refine #[by rw[Fh] at hl ⊢;lia,λp f=>?_]
  refine q _ _ (Wf.doneA (x:=#[.tup (ys.map (·.d)),.ref p,(ys.map (·.L)).flatten,.z]) j i #[ce f,.tup bu ((lQ λy b=>(j.itm (i y b).1).rep).same (ce f)),λc m=>.inr (gc m),λhf=>absurd rfl hf])
 .exact nsE a
set_option tactic.hygienic true in
theorem CS (hz:(16777216:Nat)=sizeLine) (h:tE K G0 W0 (iH ms) O H Q):tLst (tA K G0 W0 ms) O H Q:=by
 refine h.use λG W le Z T g o Z' w e q=>?_
 refine tA.seq le w e q.err λrs Z1 e1 vs H1 Ts g1 n a1=>?_
 obtain ⟨ds,Z2,g2,m,_,k,_,ys,j,f1,f2⟩:=a1.gives n e1
 obtain ⟨v,f,rfl,rfl⟩:=cu m
 subst f1 f2
 split at f
 .rename_i hl
  cases f
  refine #[by rw[Fh] at hl ⊢;lia,λp b=>?_]
  have np:p ∉ (ys.map (·.L)).flatten:=λa=>by
   obtain ⟨y,hm,a⟩:=gc a
   obtain ⟨o,l⟩:=((k.itm (j y hm).1).rep.inH p a).ex
   rw[b] at l;exact nsE l
  refine q _ _ (Wf.doneA (x:=#[.lst (ys.map (·.d)),.ref p,p::(ys.map (·.L)).flatten,.u]) k j #[ce b,.lst bu ((lQ λy i=>(k.itm (j y i).1).rep).same (ce b)),λc a=>?_,λ_=>#[rfl,p,_,rfl,rfl,np,b]])
  rcases Fc.mp a with e | a
  .rw[e];exact .inl b
  .exact .inr (gc a)
 .exact nsE f
end
section
variable {K:FG} {G G0:Gm} {W W0:D->Sto->Prop} {H H':Hp} {O:St} {Z Z':Sto} {T T':List It3} {g:Nat->Option It3} {x y z:It3} {α β:Type}
def EndS (K:FG) (G:Gm) (W:D->Sto->Prop) (T:List It3) (Z':Sto) (E:Ends):Except D Flw->Prop
 | .ok .nx=>∀ O' H' g',Wf K G H' O' Z' T g'->E.nx O' H'
 | .ok .br=>∀ O' H' g',Wf K G H' O' Z' T g'->E.bk O' H'
 | .ok .ct=>∀ O' H' g',Wf K G H' O' Z' T g'->E.ct O' H'
 | .ok (.rt d f)=>∀ x O' H' g',Wf K G H' O' Z' (x::T) g'->x.d=d->x.f=f->E.rt x.v H'
 | .error e=>W e Z'
theorem EndS.err (h:EndS K G W T Z' E r):∀ x,r=.error x->W x Z':=by
 intro x e;subst e;exact h
theorem tS.open (h:tS K G0 W0 m E O H):∃ G W,Le K G W G0 W0/\∃ Z T g r Z',Wf K G H O Z T g/\m Z=some (r,Z')/\EndS K G W T Z' E r:=by
 obtain ⟨G,W,le,Z,T,g,r,Z',w,e,q⟩:=h
 refine #[G,W,le,Z,T,g,r,Z',w,e,?_]
 cases r with
 | ok r=>cases r <;> exact q
 | error x=>exact q
theorem tS.use (h:tS K G0 W0 m E O H) {P:Prop} (k:∀ G W,Le K G W G0 W0->∀ Z T g r Z',Wf K G H O Z T g->m Z=some (r,Z')->EndS K G W T Z' E r->P):P:=by
 obtain ⟨G,W,le,Z,T,g,r,Z',w,e,q⟩:=h.open
 exact k G W le Z T g r Z' w e q
theorem tS.mk (le:Le K G W G0 W0) (w:Wf K G H O Z T g) (e:m Z=some (r,Z')) (h:EndS K G W T Z' E r):tS K G0 W0 m E O H:=by
 refine #[G,W,le,Z,T,g,r,Z',w,e,?_]
 cases r with
 | ok r=>cases r <;> exact h
 | error x=>exact h
def cU:SM:=a9 .nx
noncomputable def aB (a b:SM):SM:=ag a λf=>match f with
 | .nx=>b
 | o=>a9 o
theorem CI (h:tS K G0 W0 cU E O H):BW E O H:=by
 refine h.use λG W le Z T g r Z' w e q=>?_
 cases e
 exact q _ _ _ w
theorem CG (h:tS K G0 W0 (aB a b) E O H):tSeq (tS K G0 W0 a) (tS K G0 W0 b) E O H:=by
 refine h.use λG W le Z T g r Z' w e q=>?_
 unfold aB ag at e
 cases p:a Z with
 | none=>rw[p] at e;exact nsE e
 | some p' =>
  obtain ⟨o,Z1⟩:=p'
  rw[p] at e
  cases o with
  | error x=>cases e;exact tS.mk le w p q
  | ok f =>
   cases f with
   | nx=>exact tS.mk le (r:=.ok .nx) w p λO' H' g' c=>tS.mk le c e q
   | br=>cases e;exact tS.mk le w p q
   | ct=>cases e;exact tS.mk le w p q
   | rt d f=>cases e;exact tS.mk le w p q
def dZ (m:EM):SM:=ag m λ_=>a9 .nx
theorem zO (h:tS K G0 W0 (dZ m) E O H):BZ (tE K G0 W0 m) E O H:=by
 refine h.use λG W le Z T g r Z' w e q=>?_
 refine tE.seq le w e q.err λra Z1 e1 v H1 #[Ts,g1,a,a1]=>?_
 cases e1
 exact q _ _ _ (a.sub (Fm Ts T))
def sIf (c:M3 Bool) (a b:SM):SM:=ag c λt=>if t then a else b
theorem tS_if (h:tS K G0 W0 (sIf c a b) E O H):tIfS (tT K G0 W0 c) (tS K G0 W0 a) (tS K G0 W0 b) E O H:=by
 refine h.use λG W le Z T g r Z' w e q=>?_
 refine tT.seq le w e q.err λt Z1 e1 H1 g1 d=>?_
 cases t with
 | true=>exact tS.mk le d e1 q
 | false=>exact tS.mk le d e1 q
def nol:Fl->Fl
 | .u=>.u
 | _=>.z
theorem Ee (f:Fl):nol f≠.l:=by cases f <;> intro h <;> cases h
theorem Ed (f:Fl):nol f=f\/nol f=.z:=by cases f <;> first | exact .inl rfl | exact .inr rfl
noncomputable def fX (r:R3):M3 (D×Fl):=match r with
 | .val d f=>a9 (d,nol f)
 | .pl i=>λZ=>((Z[i]?).join).map λp=>(.ok (p.1,.z),lowAt i Z)
theorem pR {i:Nat}:fX (.pl i) Z=((Z[i]?).join).map λp=>(.ok (p.1,.z),lowAt i Z):=rfl
theorem Ar.val_inv (a:Ar O (.val d f) v Ts):∃ x,Ts=[x]/\x.d=d/\x.f=f/\x.v=v:=by
 generalize h:R3.val d f=r at a
 cases a with
 | pl _=>cases h
 | val x=>cases h;exact #[x,rfl,rfl,rfl,rfl]
theorem Ar.take (w:Wf K G H O Z (Ts++T) g) (a:Ar O r v Ts) (e:ag (fX r) k Z=some (o,Z')) :
  ∃ p Z1 g1 x,k p Z1=some (o,Z')/\Wf K G H O Z1 (x::T) g1/\x.d=p.1/\(p.2=x.f\/p.2=.z)/\p.2≠.l/\x.v=v:=by
 cases a with
 | val x=>exact #[(x.d,nol x.f),Z,g,x,e,w,rfl,Ed _,Ee _,rfl]
 | @pl i v h =>
  unfold ag at e
  rw[pR] at e
  cases q:(Z[i]?).join with
  | none=>rw[q] at e;exact nsE e
  | some p =>
   rw[q] at e
   obtain ⟨y,F,E,J,A⟩:=w.slot (d:=p.1) (f:=p.2) q
   obtain ⟨g1,b,h1⟩:=w.lowAt (i:=i)
   obtain ⟨c,n,t,I⟩:=h1 i y F
   have hz:=I rfl
   refine #[(p.1,.z),_,g1,c,e,?_,t.1.trans E,.inr rfl,(by intro h;cases h),?_]
   .have s:∀ u:It3,NoRoot c u:=λu hf=>absurd hz hf
    refine #[b.len,b.sl,b.sv,b.okS,λu hu=>?_,b.ss,λj u m D hu=>?_,?_,b.base,b.pro,#[λu hu hf a C=>?_,b.fx.frS,b.fx.bin,b.fx.ob,b.fx.lvS]]
    .rcases Fc.mp hu with h | hu
     .rw[h];exact b.okS i c n
     .exact b.okT u hu
    .rcases Fc.mp hu with h | hu
     .rw[h]
      refine #[?_,s _]
      by_cases B:j=i
      .subst B
       rw[n] at m;cases m
       exact s _
      .exact b.ss j i u c B m n
     .exact b.st j u m D hu
    .exact List.pairwise_cons.mpr #[λu hu=>#[s _,(b.st i c n u hu).2],b.tt]
    .rcases Fc.mp hu with h | hu
     .rw[h] at hf;exact absurd hz hf
     .exact b.fx.frT u hu hf a C
   .rw[t.2.1]
    rw[h] at A;cases A;rfl
theorem Wf.store {i:Nat} (w:Wf K G H O Z (x::T) g) (hi:i < Z.length) (I:G.pr i=false) (hf:f=x.f\/f=.z) (C:f≠.l) :
  Wf K G H (O.set i (some x.v)) (Z.set i (some (x.d,f))) T (λj=>if j=i then some { x with f:=f } else g j):=by
 have t:i < O.length:=by rw[w.len];exact hi
 have s:=List.pairwise_cons.mp w.tt
 have B:=w.okT x E5
 have nx:∀ u:It3,NoRoot x u->NoRoot { x with f:=f } u:=λu h q=>by
  rcases hf with e | e
  .exact h (by rw[<- e];exact q)
  .exact absurd e q
 have val:∀ j u,(if j=i then some { x with f:=f } else g j)=some u->(j=i/\u={ x with f:=f })\/(j≠i/\g j=some u):=λj u h=>by
  by_cases q:j=i
  .rw[if_pos q] at h;cases h;exact .inl #[q,rfl]
  .rw[if_neg q] at h;exact .inr #[q,h]
 refine #[by rw[List.length_set,List.length_set];exact w.len,λj=>?_,λj u h=>?_,λj u h=>?_,λu hu=>w.okT u (E6 _ hu),λj k a b n h1 h2=>?_,λj a h b A=>?_,s.2,w.base,λj r=>?_,#[λu hu=>w.fx.frT u (E6 _ hu),λj u h y m a p=>?_,w.fx.bin,w.fx.ob,λj u h hl=>?_]]
 .rw[dq hi]
  by_cases q:j=i
  .rw[if_pos q,if_pos q];rfl
  .rw[if_neg q,if_neg q];exact w.sl j
 .rcases val j u h with ⟨rfl,rfl⟩ | ⟨n,h⟩
  .rw[List.getElem?_set_self t]
  .rw[List.getElem?_set_ne (λz=>n z.symm)];exact w.sv j u h
 .rcases val j u h with ⟨rfl,rfl⟩ | ⟨n,h⟩
  .refine #[B.rep,λq=>?_,B.src]
   rcases hf with e | e
   .subst e
    exact B.own q
   .exact absurd e q
  .exact w.okS j u h
 .rcases val j a h1 with ⟨J,p⟩ | ⟨L,o⟩
  .rcases val k b h2 with ⟨E,D⟩ | ⟨F,c⟩
   .exact absurd (J.trans E.symm) n
   .rw[p];exact nx b (w.st k b c x E5).2
  .rcases val k b h2 with ⟨E,D⟩ | ⟨F,c⟩
   .rw[D];exact (w.st j a o x E5).1
   .exact w.ss j k a b n o c
 .rcases val j a h with ⟨rfl,rfl⟩ | ⟨n,h⟩
  .exact #[nx b (s.1 b A).1,(s.1 b A).2]
  .exact w.st j a h b (E6 _ A)
 .have n:j≠i:=λz=>by subst z;rw[I] at r;cases r
  rw[List.getElem?_set_ne (λz=>n z.symm)];exact w.pro j r
 .rcases val j u h with ⟨_,rfl⟩ | ⟨n,h⟩
  .rcases hf with e | e
   .exact w.fx.frT x E5 (by rw[<- e];exact m) a p
   .exact absurd e m
  .exact w.fx.frS j u h y m a p
 .rcases val j u h with ⟨_,rfl⟩ | ⟨n,h⟩
  .exact absurd hl C
  .exact w.fx.lvS j u h hl
def aN (i:Nat) (m:EM):SM:=ag m λr=>ag (fX r) λp=>λZ=>if i < Z.length then some (.ok .nx,Z.set i (some p)) else none
set_option tactic.hygienic true in
theorem wQ {i:Nat} (b:G0.pr i=false) (h:tS K G0 W0 (aN i m) E O H):wU (tE K G0 W0 m) (uA i) E O H:=by
 refine h.use λG W le Z T g r Z' w e q=>?_
 refine tE.seq le w e q.err λra Z1 e1 v H1 #[Ts,g1,c,a1]=>?_
 obtain ⟨p,Z2,g2,x,a,j,f1,f2,f4,d⟩:=a1.take c e1
 split at a
 .rename_i hi
  cases a
  have:=j.store (f:=p.2) hi (by rw[le.pr];exact b) f2 f4
  rw[f1,d] at this
  exact q _ _ _ this
 .exact nsE a
def aT (np:Nat) (m:EM):SM:=ag m λr=>match r with
 | .val d f=>a9 (.rt d f)
 | .pl i=>λZ=>match (Z[i]?).join with
  | some (d,.u)=>if i < np then some (.ok (.rt d .z),lowAt i Z) else some (.ok (.rt d .u),Z.set i none)
  | some (d,_)=>some (.ok (.rt d .z),lowAt i Z)
  | none=>none
theorem Wf.move {i:Nat} (w:Wf K G H O Z T g) (f:G.pr i=false) (e:g i=some y):Wf K G H O (Z.set i none) (y::T) (λj=>if j=i then none else g j):=by
 have hi:i < Z.length:=by
  have:=w.sl i
  rw[e] at this
  exact il this.symm
 have val:∀ j u,(if j=i then none else g j)=some u->j≠i/\g j=some u:=λj u h=>by
  grind
 refine #[by rw[List.length_set];exact w.len,λj=>?_,λj u h=>w.sv j u (val j u h).2,λj u h=>w.okS j u (val j u h).2,λu hu=>?_,λj k a b n h1 h2=>w.ss j k a b n (val j a h1).2 (val k b h2).2,λj a h b c=>?_,?_,w.base,w.pro,#[λu hu hf a d=>?_,λj u h=>w.fx.frS j u (val j u h).2,w.fx.bin,w.fx.ob,λj u h=>w.fx.lvS j u (val j u h).2]]
 .rw[dq hi]
  by_cases q:j=i
  .rw[if_pos q,if_pos q];rfl
  .rw[if_neg q,if_neg q];exact w.sl j
 .rcases Fc.mp hu with h | hu
  .rw[h];exact w.okS i y e
  .exact w.okT u hu
 .obtain ⟨n,h⟩:=val j a h
  rcases Fc.mp c with h' | c
  .rw[h'];exact #[w.ss j i a y n h e,w.ss i j y a (Ne.symm n) e h]
  .exact w.st j a h b c
 .exact List.pairwise_cons.mpr #[λu hu=>w.st i y e u hu,w.tt]
 .rcases Fc.mp hu with h | hu
  .subst h;exact w.fx.frS i u e f hf a d
  .exact w.fx.frT u hu hf a d
theorem CH {np:Nat} (o:∀ i,np<=i->G0.pr i=false) (h:tS K G0 W0 (aT np m) E O H):tRet (tE K G0 W0 m) E O H:=by
 refine h.use λG W le Z T g r Z' w e q=>?_
 refine tE.seq le w e q.err λra Z1 e1 v H1 #[Ts,g1,j,a1]=>?_
 have low:∀ {i:Nat} {d:D} {f:Fl},(Z1[i]?).join=some (d,f)->some ((.ok (.rt d .z),lowAt i Z1):Except D Flw×Sto)=some (r,Z')->Ar O (.pl i) v Ts->E.rt v H1:=λ{i d f} b F a=>by
  cases F
  have C:ag (fX (.pl i)) (λp=>a9 (Flw.rt p.1 p.2)) Z1=some (.ok (.rt d .z),L3.lowAt i Z1):=by
   unfold ag
   rw[pR,b]
   rfl
  obtain ⟨p,Z2,g2,x,k,s,f1,f2,_,L⟩:=a.take j C
  have c:Flw.rt p.1 p.2=Flw.rt d .z/\Z2=L3.lowAt i Z1:=by
   unfold a9 at k
   injection k with k
   injection k with c n
   injection c with c
   exact #[c,n]
  obtain ⟨c,n⟩:=c
  injection c with e7 e8
  subst n
  rw[<- L]
  have B:=Wf.lowT (Ts:=[x]) s
  exact q (dY x) O H1 g2 B (f1.trans e7) rfl
 cases a1 with
 | val x=>cases e1;exact q x O H1 g1 j rfl rfl
 | @pl i v h =>
  dsimp only at e1
  cases b:(Z1[i]?).join with
  | none=>rw[b] at e1;exact nsE e1
  | some p =>
   obtain ⟨d,f⟩:=p
   rw[b] at e1
   cases f with
   | u =>
    dsimp only at e1
    split at e1
    .exact low b e1 (.pl h)
    .cases e1
     obtain ⟨y,I,J,A,t⟩:=j.slot b
     have s:=Wf.move j (by rw[le.pr];exact o i (by lia)) I
     have:=q y O H1 _ s J A
     rw[h] at t
     cases t
     exact this
   | l=>exact low b e1 (.pl h)
   | z=>exact low b e1 (.pl h)
def cw (c:M3 Bool) (b:SM):Nat->SM
 | 0=>λ_=>none
 | n+1=>ag c λt=>if t then ag b (λf=>match f with
   | .nx=>cw c b n
   | .ct=>cw c b n
   | .br=>a9 .nx
   | .rt d f=>a9 (.rt d f)) else a9 .nx
def iN (c:M3 Bool) (b:SM):SM:=λZ=>open Classical in if h:∃ n r,cw c b n Z=some r then some (Classical.choose (Classical.choose_spec h)) else none
theorem iJ:∀ {n:Nat} {Z:Sto} {r:Except D Flw×Sto},cw c b n Z=some r->cw c b (n+1) Z=some r
 | 0,Z,r,e=>by cases e
 | n+1,Z,r,e=>by
  unfold cw at e ⊢
  unfold ag at e ⊢
  cases h:c Z with
  | none=>rw[h] at e;exact nsE e
  | some p =>
   obtain ⟨o,Z1⟩:=p
   rw[h] at e
   cases o with
   | error x=>exact e
   | ok t =>
    cases t with
    | false=>exact e
    | true =>
     simp only[if_true] at e ⊢
     cases h2:b Z1 with
     | none=>rw[h2] at e;exact nsE e
     | some p2 =>
      obtain ⟨a,Z2⟩:=p2
      rw[h2] at e
      cases a with
      | error x=>exact e
      | ok f =>
       cases f with
       | nx=>exact iJ (n:=n) e
       | ct=>exact iJ (n:=n) e
       | br=>exact e
       | rt d f=>exact e
theorem kE {n m:Nat} (h:n<=m) (e:cw c b n Z=some r):cw c b m Z=some r:=by
 induction h with
 | refl=>exact e
 | step _ ih=>exact iJ ih
theorem p8 (e:iN c b Z=some r):∃ n,cw c b n Z=some r:=by
 unfold iN at e
 split at e
 .grind
 .exact nsE e
theorem wP (h:tS K G0 W0 (iN c b) E O H):wO (tT K G0 W0 c) (tS K G0 W0 b) E O H:=by
 refine h.use λG W le Z T g r Z' w e q=>?_
 obtain ⟨n,e⟩:=p8 e
 refine #[λm O H=>∃ Z g,Wf K G H O Z T g/\cw c b m Z=some (r,Z'),#[n,Z,g,w,e],?_]
 rintro m O1 H1 ⟨Z1,g1,k,e1⟩
 cases m with
 | zero=>exact nsE e1
 | succ m =>
  unfold cw at e1
  refine tT.seq le k e1 q.err λt Z2 a H2 g2 i=>?_
  cases t with
  | false=>cases a;exact q _ _ _ i
  | true =>
   refine #[λO H=>∃ Z g,Wf K G H O Z T g/\cw c b m Z=some (r,Z'),λO' H' h=>#[m,Nat.lt_succ_self m,h],?_]
   simp only[if_true] at a
   unfold ag at a
   cases p:b Z2 with
   | none=>rw[p] at a;exact nsE a
   | some p2 =>
    obtain ⟨o,Z3⟩:=p2
    rw[p] at a
    cases o with
    | error x=>cases a;exact tS.mk le i p q
    | ok f =>
     cases f with
     | nx=>exact tS.mk le (r:=.ok .nx) i p λO' H' g' j=>#[Z3,g',j,a]
     | ct=>exact tS.mk le (r:=.ok .ct) i p λO' H' g' j=>#[Z3,g',j,a]
     | br=>cases a;exact tS.mk le (r:=.ok .br) i p q
     | rt d f=>cases a;exact tS.mk le (r:=.ok (.rt d f)) i p q
end
abbrev Fn:=List (D×Fl)->Option (Except D (D×Fl)×List (D×Fl))
def prs (Z:Sto):List R3->Option (List (D×Fl))
 | []=>some []
 | .pl i::rs=>match (Z[i]?).join,prs Z rs with
  | some p,some ps=>some (p::ps)
  | _,_=>none
 | .val d f::rs=>match prs Z rs with
  | some ps=>some ((d,f)::ps)
  | _=>none
def qZ (rs:List R3):List Nat:=(pls rs).filter λi=>decide (2<=(pls rs).count i)
def back:List R3->List (D×Fl)->List (D×Fl)->Sto->Sto
 | .pl i::rs,p::ps,q::qs,Z=>back rs ps qs (if p.2=.z then Z else Z.set i (some (q.1,if q.2=.z then .z else p.2)))
 | .val _ _::rs,_::ps,_::qs,Z=>back rs ps qs Z
 | _,_,_,Z=>Z
section
variable {K:FG} {G G0:Gm} {W W0:D->Sto->Prop} {H H':Hp} {O:St} {Z Z':Sto} {T T':List It3} {g:Nat->Option It3} {x y z:It3} {α β:Type}
structure Back1 (K:FG) (H H':Hp) (ps:List It3) (p q:It3):Prop where
 z:p.f=.z->q=p
 v:q.v=p.v
 f:q.f=p.f\/q.f=.z
 arg:Arg K H' q
 src:∀ c∈q.L,H c=none\/d6 ps c
 there:p.f=.u->∀ b,p.v=.ref b->∃ o,H' b=some o
structure BehindX (K:FG) (H H':Hp) (ps qs:List It3):Prop where
 frame:∀ b o,H b=some o->(∀ p∈ps,p.f=.u->p.v≠.ref b)->H' b=some o
 back:Paired (Back1 K H H' ps) ps qs
 apart:qs.Pairwise Apart3
structure Behind (K:FG) (H H':Hp) (ps qs:List It3) (x:It3):Prop extends BehindX K H H' ps qs where
 rep:Rep K H' x.d x.v x.L
 own:x.f≠.z->kh x.d=true/\∃ a L',x.v=.ref a/\x.L=a::L'/\a ∉ L'/\H a=none
 src:∀ c∈x.L,H c=none\/d6 ps c
 apx:∀ q∈qs,Apart3 x q
theorem Ars.args:∀ {rs:List R3} {vs:List V} {Ts T:List It3} {c:List (D×Fl)},Ars O rs vs Ts->Wf K G H O Z (Ts++T) g->(∀ i,2<=(pls rs).count i->∀ y,g i=some y->y.f=.z)->prs Z rs=some c ->
  ∃ ps:List It3,ps.map (λp=>(p.d,p.f))=c/\ps.map (·.v)=vs/\ps.Pairwise Apart3/\(∀ p∈ps,(∃ i,R3.pl i∈rs/\g i=some p)\/p∈Ts)/\Paired (λr p=>match r with | .pl i=>g i=some p | .val _ _=>p∈Ts) rs ps
 | [],_,_,T,c,.nil,w,_,e=>by cases e;exact #[[],rfl,rfl,.nil,λ_ h=>(by cases h),.nil]
 | r::rs,_,_,T,c,.cons (v:=v0) (Ts:=T0) (Us:=U0) a as,w,hd,e=>by
  have E:Wf K G H O Z (U0++(T0++T)) g:=by rw[<- List.append_assoc];exact w
  have o:∀ i,2<=(pls rs).count i->∀ y,g i=some y->y.f=.z:=λi s=>hd i (by
   cases r with
   | pl j=>show 2<=(j::pls rs).count i;rw[List.count_cons];lia
   | val _ _=>exact s)
  cases a with
  | @pl i v h =>
   unfold prs at e
   cases q:(Z[i]?).join with
   | none=>rw[q] at e;exact nsE e
   | some p0 =>
    cases l:prs Z rs with
    | none=>rw[q,l] at e;exact nsE e
    | some pfs' =>
     rw[q,l] at e
     cases e
     obtain ⟨ps,f1,f2,B,f4,A⟩:=Ars.args as E o l
     obtain ⟨y,n,J,F,C⟩:=w.slot (d:=p0.1) (f:=p0.2) q
     have I:y.v=v0:=by rw[h] at C;cases C;rfl
     refine #[y::ps,by rw[Fv,f1,J,F],by rw[Fv,f2,I],List.pairwise_cons.mpr #[λp b=>?_,B],λp b=>?_,.cons n ?_]
     .rcases f4 p b with ⟨j,m,k⟩ | b
      .by_cases u:i=j
       .subst u
        have s:2<=(pls (R3.pl i::rs)).count i:=by
         show 2<=(i::pls rs).count i
         rw[List.count_cons_self]
         have:=List.count_pos_iff.mpr (lR m)
         lia
        have hz:=hd i s y n
        have t:=hd i s p k
        exact #[λq=>absurd hz q,λq=>absurd t q]
       .exact #[w.ss i j y p u n k,w.ss j i p y (Ne.symm u) k n]
      .exact w.st i y n p (E9 _ (E9 _ b))
     .rcases Fc.mp b with h' | b
      .rw[h'];exact .inl #[i,E5,n]
      .rcases f4 p b with ⟨j,m,k⟩ | b
       .exact .inl #[j,E6 _ m,k]
       .exact .inr (E9 _ b)
     .exact Paired.mapP A λr p h=>by
       cases r with
       | pl j=>exact h
       | val _ _=>exact E9 _ h
  | val x =>
   unfold prs at e
   cases l:prs Z rs with
   | none=>rw[l] at e;exact nsE e
   | some pfs' =>
    rw[l] at e
    cases e
    obtain ⟨ps,f1,f2,B,f4,A⟩:=Ars.args as E o l
    refine #[x::ps,by rw[Fv,f1],by rw[Fv,f2],List.pairwise_cons.mpr #[λp b=>?_,B],λp b=>?_,.cons (Fb _ E5) ?_]
    .rcases f4 p b with ⟨j,m,k⟩ | b
     .exact (w.st j p k x (E9 _ (Fb _ E5))).symm
     .have t1:=(List.pairwise_append.mp w.tt).1
      exact ((List.pairwise_append.mp t1).2.2 p b x E5).symm
    .rcases Fc.mp b with h' | b
     .rw[h'];exact .inr (Fb _ E5)
     .rcases f4 p b with ⟨j,m,k⟩ | b
      .exact .inl #[j,E6 _ m,k]
      .exact .inr (E9 _ b)
    .exact Paired.mapP A λr p h=>by
      cases r with
      | pl j=>exact h
      | val _ _=>exact E9 _ h
theorem ir:∀ {rs:List R3} {ps qs:List It3} {Z:Sto} {g:Nat->Option It3},(∀ j,(g j).map (λx=>(x.d,x.f))=(Z[j]?).join)->rs.length=ps.length->Paired (Back1 K H H' T) ps qs->(∀ i,R3.pl i∈rs->i < Z.length) ->
  ∃ g':Nat->Option It3,(∀ j,(g' j).map (λx=>(x.d,x.f))=((back rs (ps.map λp=>(p.d,p.f)) (qs.map λq=>(q.d,q.f)) Z)[j]?).join)/\(back rs (ps.map λp=>(p.d,p.f)) (qs.map λq=>(q.d,q.f)) Z).length=Z.length /\
   ∀ j:Nat,(g' j=g j/\∀ (k:Nat) (p:It3),rs[k]?=some (R3.pl j)->ps[k]?=some p->p.f=.z)\/∃ (k:Nat) (p q:It3),rs[k]?=some (R3.pl j)/\ps[k]?=some p/\qs[k]?=some q/\p.f≠.z/\g' j=some q
 | [],[],_,Z,g,hg,_,.nil,_=>#[g,hg,rfl,λj=>.inl #[rfl,λk p h=>by simp at h]]
 | [],_::_,_,_,_,_,h,_,_=>by cases h
 | _::_,[],_,_,_,_,h,_,_=>by cases h
 | .val d f::rs,p::ps,_,Z,g,hg,hl,.cons (b:=q) (l₂:=qs) b1 bs,hi=>by
  obtain ⟨g',h1,h2,h3⟩:=ir (rs:=rs) hg (by simpa using hl) bs λi h=>hi i (E6 _ h)
  refine #[g',h1,h2,λj=>?_]
  rcases h3 j with ⟨e,h⟩ | ⟨k,a,l,a1,a2,m,n⟩
  .refine .inl #[e,λk a e1 c=>?_]
   cases k with
   | zero=>simp at e1
   | succ k=>exact h k a (by simpa using e1) (by simpa using c)
  .exact .inr #[k+1,a,l,by simpa using a1,by simpa using a2,by simpa using m,n]
 | .pl i::rs,p::ps,_,Z,g,hg,hl,.cons (b:=q) (l₂:=qs) b1 bs,hi=>by
  have r:=hi i E5
  by_cases hz:p.f=.z
  .have s:back (.pl i::rs) ((p::ps).map λp=>(p.d,p.f)) ((q::qs).map λq=>(q.d,q.f)) Z=back rs (ps.map λp=>(p.d,p.f)) (qs.map λq=>(q.d,q.f)) Z:=by
    show back rs _ _ (if p.f=.z then Z else _)=_
    rw[if_pos hz]
   rw[s]
   obtain ⟨g',h1,h2,h3⟩:=ir (rs:=rs) hg (by simpa using hl) bs λi h=>hi i (E6 _ h)
   refine #[g',h1,h2,λj=>?_]
   rcases h3 j with ⟨e,h⟩ | ⟨k,a,l,a1,a2,m,n⟩
   .refine .inl #[e,λk a e1 c=>?_]
    cases k with
    | zero=>simp at c;rw[<- c];exact hz
    | succ k=>exact h k a (by simpa using e1) (by simpa using c)
   .exact .inr #[k+1,a,l,by simpa using a1,by simpa using a2,by simpa using m,n]
  .have s:back (.pl i::rs) ((p::ps).map λp=>(p.d,p.f)) ((q::qs).map λq=>(q.d,q.f)) Z=back rs (ps.map λp=>(p.d,p.f)) (qs.map λq=>(q.d,q.f)) (Z.set i (some (q.d,q.f))):=by
    show back rs _ _ (if p.f=.z then Z else Z.set i (some (q.d,if q.f=.z then .z else p.f)))=_
    rw[if_neg hz]
    have:(if q.f=.z then Fl.z else p.f)=q.f:=by
     by_cases h:q.f=.z
     .rw[if_pos h,h]
     .rw[if_neg h]
      rcases b1.f with h' | h'
      .exact h'.symm
      .exact absurd h' h
    rw[this]
   rw[s]
   obtain ⟨g',h1,h2,h3⟩:=ir (rs:=rs) (Z:=Z.set i (some (q.d,q.f))) (g:=λj=>if j=i then some q else g j) (λj=>by
    rw[dq r]
    by_cases e:j=i
    .rw[if_pos e,if_pos e];rfl
    .rw[if_neg e,if_neg e];exact hg j) (by simpa using hl) bs λi h=>by rw[List.length_set];exact hi i (E6 _ h)
   refine #[g',h1,by rw[h2,List.length_set],λj=>?_]
   rcases h3 j with ⟨e,h⟩ | ⟨k,a,l,a1,a2,m,n⟩
   .by_cases o:j=i
    .rw[if_pos o] at e
     exact .inr #[0,p,q,by simp[o],rfl,rfl,hz,e]
    .rw[if_neg o] at e
     refine .inl #[e,λk a e1 c=>?_]
     cases k with
     | zero=>simp at e1;exact absurd e1.symm o
     | succ k=>exact h k a (by simpa using e1) (by simpa using c)
   .exact .inr #[k+1,a,l,by simpa using a1,by simpa using a2,by simpa using m,n]
theorem oS:∀ {rs:List R3} {a:List (D×Fl)},prs Z rs=some a->rs.length=a.length
 | [],a,e=>by cases e;rfl
 | .pl i::rs,a,e=>by
  unfold prs at e
  cases q:(Z[i]?).join with
  | none=>rw[q] at e;exact nsE e
  | some p =>
   cases b:prs Z rs with
   | none=>rw[q,b] at e;exact nsE e
   | some ps=>rw[q,b] at e;cases e;rw[FE,FE,oS b]
 | .val d f::rs,a,e=>by
  unfold prs at e
  cases b:prs Z rs with
  | none=>rw[b] at e;exact nsE e
  | some ps=>rw[b] at e;cases e;rw[FE,FE,oS b]
theorem sk:∀ {rs:List R3} {a:List (D×Fl)},prs Z rs=some a->∀ i,R3.pl i∈rs->i < Z.length
 | [],a,e,i,h=>by cases h
 | .pl i::rs,a,e,j,h=>by
  unfold prs at e
  cases q:(Z[i]?).join with
  | none=>rw[q] at e;exact nsE e
  | some p =>
   cases b:prs Z rs with
   | none=>rw[q,b] at e;exact nsE e
   | some ps =>
    rcases Fc.mp h with h | h
    .cases h;exact il q
    .exact sk b j h
 | .val d f::rs,a,e,j,h=>by
  unfold prs at e
  cases b:prs Z rs with
  | none=>rw[b] at e;exact nsE e
  | some ps =>
   rcases Fc.mp h with h | h
   .cases h
   .exact sk b j h
theorem Paired.at:∀ {l:List α} {m:List β} {k:Nat} {a:α} {b:β},Paired F l m->l[k]?=some a->m[k]?=some b->F a b
 | _,_,_,_,_,.nil,h,_=>by simp at h
 | _,_,0,_,_,.cons r _,h,h'=>by simp at h h';subst h h';exact r
 | _,_,k+1,_,_,.cons _ t,h,h'=>Paired.at (k:=k) t (by simpa using h) (by simpa using h')
theorem Paired.exL:∀ {l:List α} {m:List β} {k:Nat} {a:α},Paired F l m->l[k]?=some a->∃ b,m[k]?=some b/\F a b
 | _,_,_,_,.nil,h=>by simp at h
 | _,_,0,_,.cons r _,h=>by simp at h;subst h;exact #[_,rfl,r]
 | _,_,k+1,_,.cons _ t,h=>let #[b,h1,h2]:=Paired.exL (k:=k) t (by simpa using h);#[b,by simpa using h1,h2]
theorem Paired.exR:∀ {l:List α} {m:List β} {k:Nat} {b:β},Paired F l m->m[k]?=some b->∃ a,l[k]?=some a/\F a b
 | _,_,_,_,.nil,h=>by simp at h
 | _,_,0,_,.cons r _,h=>by simp at h;subst h;exact #[_,rfl,r]
 | _,_,k+1,_,.cons _ t,h=>let #[b,h1,h2]:=Paired.exR (k:=k) t (by simpa using h);#[b,by simpa using h1,h2]
theorem dP {R:α->α->Prop} {l:List α} (p:l.Pairwise R) (f:∀ a b,R a b->R b a) {i j:Nat} {a b:α} (n:i≠j) (c:l[i]?=some a) (d:l[j]?=some b):R a b:=by
 obtain ⟨h1,e1⟩:=Fi.mp c
 obtain ⟨h2,e⟩:=Fi.mp d
 have q:=List.pairwise_iff_getElem.mp p
 grind
theorem Wf.after (w:Wf K G H O Z (Ts++T) g) (e:prs Z rs=some pfs) (f1:ps.map (λp=>(p.d,p.f))=pfs) (f4:∀ p∈ps,(∃ i,R3.pl i∈rs/\g i=some p)\/p∈Ts) (f5:Paired (λr p=>match r with | .pl i=>g i=some p | .val _ _=>p∈Ts) rs ps) (B:BehindX K H H' ps qs) :
  ∃ g',Wf K G H' O (L3.back rs pfs (qs.map λq=>(q.d,q.f)) Z) T g' /\
   ∀ x,Rep K H' x.d x.v x.L->(x.f≠.z->kh x.d=true/\∃ a L',x.v=.ref a/\x.L=a::L'/\a ∉ L'/\H a=none)->(∀ c∈x.L,H c=none\/d6 ps c)->(∀ q∈qs,Apart3 x q)->Wf K G H' O (L3.back rs pfs (qs.map λq=>(q.d,q.f)) Z) (x::T) g':=by
 subst f1
 have hl:rs.length=ps.length:=by have:=oS e;rwa [Fh] at this
 obtain ⟨g',h1,h2,h3⟩:=ir (K:=K) (H:=H) (H':=H') (T:=ps) (rs:=rs) (ps:=ps) (qs:=qs) w.sl hl B.back (sk e)
 have F:∀ p∈ps,Itm (Ts++T) g p:=λp l=>by
  rcases f4 p l with ⟨i,_,Q⟩ | h
  .exact .inl #[i,Q]
  .exact .inr (E9 _ h)
 have W:∀ b o,H b=some o->∃ o',H' b=some o':=λb o S=>by
  by_cases h:∀ p∈ps,p.f=.u->p.v≠.ref b
  .exact #[o,B.frame b o S h]
  .have h':∃ p,p∈ps/\p.f=.u/\p.v=.ref b:=by
    refine Classical.byContradiction λn=>h λp l hf J=>n #[p,l,hf,J]
   obtain ⟨p,l,hf,J⟩:=h'
   obtain ⟨k,hk,ek⟩:=List.mem_iff_getElem.mp l
   obtain ⟨q,e1,b1⟩:=Paired.exL B.back (show ps[k]?=some p by rw[Fd hk,ek])
   exact b1.there hf b J
 have ka:∀ j z,g j=some z->(∀ (k:Nat) (p:It3),rs[k]?=some (R3.pl j)->ps[k]?=some p->p.f=.z)->∀ p∈ps,Apart3 p z:=λj z ej hu p l=>by
  rcases f4 p l with ⟨i,hi,Q⟩ | h
  .by_cases ij:i=j
   .subst ij
    have ar:p=z:=FY (Q.symm.trans ej)
    subst ar
    have hz:p.f=.z:=by
     obtain ⟨k,hk,ek⟩:=List.mem_iff_getElem.mp hi
     have ρ:rs[k]?=some (R3.pl i):=by rw[Fd hk,ek]
     obtain ⟨C,e1,D⟩:=Paired.exL f5 ρ
     have D:g i=some C:=D
     rw[Q] at D
     cases D
     exact hu k p ρ e1
    exact #[λq=>absurd hz q,λq=>absurd hz q]
   .exact #[w.ss i j p z ij Q ej,w.ss j i z p (Ne.symm ij) ej Q]
  .exact (w.st j z ej p (E9 _ h)).symm
 have kt:∀ z∈T,∀ p∈ps,Apart3 p z:=λz hz p l=>by
  rcases f4 p l with ⟨i,hi,Q⟩ | h
  .exact w.st i p Q z (Fb _ hz)
  .exact (List.pairwise_append.mp w.tt).2.2 p h z hz
 have keep:∀ z,ItOk K G H z->(∀ p∈ps,Apart3 p z)->ItOk K G H' z:=λz P V=>by
  refine P.keep (M:=λb=>∃ p∈ps,p.f=.u/\p.v=.ref b) (λb o S n=>B.frame b o S λp l hf J=>n #[p,l,hf,J]) (λb #[p,l,hf,J]=>?_) (λb S #[p,l,hf,J]=>?_)
  .obtain ⟨_,a,L',e1,D,_⟩:=(w.itm (F p l)).own (by rw[hf];intro q;cases q)
   rw[J] at e1
   cases e1
   exact (w.itm (F p l)).rep.inH b (by rw[D];exact E5)
  .exact (V p l).1 (by rw[hf];intro q;cases q) b J S
 have ab:∀ k p q,ps[k]?=some p->qs[k]?=some q->ItOk K G H' q:=λk p q e1 D=>by
  have b:=Paired.at B.back e1 D
  refine #[b.arg.rep,λhf=>?_,λc R=>?_]
  .obtain ⟨m,a,L',v1,v2,v3⟩:=b.arg.own hf
   refine #[m,a,L',v1,v2,v3,λhu=>?_]
   have pf:p.f=.u:=by
    rcases b.f with h | h
    .rw[<- h];exact hu
    .rw[h] at hu;cases hu
   obtain ⟨_,a',a0,e3,_,_,e5⟩:=(w.itm (F p (Fj e1))).own (by rw[pf];intro q;cases q)
   rw[<- b.v,v1] at e3
   cases e3
   exact e5 pf
  .rcases b.src c R with h | ⟨C,A,h⟩
   .exact .inl (w.h0none h)
   .exact (w.itm (F C A)).src c h
 have kq:∀ z,ItOk K G H z->(∀ p∈ps,Apart3 p z)->∀ k p q,ps[k]?=some p->qs[k]?=some q->Apart3 z q:=λz P V k p q e1 D=>by
  have b:=Paired.at B.back e1 D
  refine #[λhf a ev hm=>?_,λhf a ev=>?_]
  .rcases b.src a hm with h | ⟨C,A,R⟩
   .obtain ⟨_,a',L',s,σ,_⟩:=P.own hf
    rw[ev] at s;cases s
    obtain ⟨o,I⟩:=(P.rep.inH a (by rw[σ];exact E5)).ex
    rw[h] at I;exact nsE I
   .exact (V C A).2 hf a ev R
  .have pf:p.f≠.z:=λX=>by
    have:=b.z X
    rw[this] at hf
    exact hf X
   exact (V p (Fj e1)).1 pf a (by rw[<- b.v];exact ev)
 have old:∀ j z,g' j=some z->(g j=some z/\∀ p∈ps,Apart3 p z)\/∃ k p,rs[k]?=some (R3.pl j)/\ps[k]?=some p/\qs[k]?=some z:=λj z E=>by
  rcases h3 j with ⟨e1,hu⟩ | ⟨k,p,q,a1,a2,y,_,a5⟩
  .rw[e1] at E
   exact .inl #[E,ka j z E hu]
  .rw[a5] at E
   cases E
   exact .inr #[k,p,a1,a2,y]
 have wf:Wf K G H' O (L3.back rs (ps.map λp=>(p.d,p.f)) (qs.map λq=>(q.d,q.f)) Z) T g':=by
  refine #[by rw[h2];exact w.len,h1,λj z E=>?_,λj z E=>?_,λz hz=>keep z (w.okT z (Fb _ hz)) (kt z hz),λi j a b n U eb=>?_,λj z E t N=>?_,(List.pairwise_append.mp w.tt).2.1,λb o e n=>?_,w.pro,#[λu hu=>w.fx.frT u (Fb _ hu),λj u h l hf a U=>?_,λb S=>?_,λb o h=>?_,λj u h hl=>?_]]
  .rcases old j z E with ⟨e1,_⟩ | ⟨k,p,a1,a2,y⟩
   .exact w.sv j z e1
   .have τ:g j=some p:=by
     obtain ⟨C,s,σ⟩:=Paired.exL f5 a1
     rw[a2] at s;cases s
     exact σ
    rw[(Paired.at B.back a2 y).v]
    exact w.sv j p τ
  .rcases old j z E with ⟨e1,ap⟩ | ⟨k,p,a1,a2,y⟩
   .exact keep z (w.okS j z e1) ap
   .exact ab k p z a2 y
  .rcases old i a U with ⟨e1,ap⟩ | ⟨k,p,a1,a2,y⟩
   .rcases old j b eb with ⟨D,_⟩ | ⟨k',C,b1,b2,b3⟩
    .exact w.ss i j a b n e1 D
    .exact (kq a (w.okS i a e1) ap k' C b b2 b3).1
   .rcases old j b eb with ⟨D,ap⟩ | ⟨k',C,b1,b2,b3⟩
    .exact (kq b (w.okS j b D) ap k p a a2 y).2
    .have kk:k≠k':=λz=>by
      subst z
      rw[a1] at b1
      cases b1
      exact n rfl
     exact (dP B.apart (λ_ _=>Apart3.symm) kk y b3).1
  .rcases old j z E with ⟨e1,ap⟩ | ⟨k,p,a1,a2,y⟩
   .exact w.st j z e1 t (Fb _ N)
   .exact (kq t (w.okT t (Fb _ N)) (kt t N) k p z a2 y).symm
  .refine B.frame b o (w.base b o e n) λp l hf J=>?_
   obtain ⟨_,a,L',e1,_,_,e3⟩:=(w.itm (F p l)).own (by rw[hf];intro q;cases q)
   rw[J] at e1
   cases e1
   rcases e3 hf with h | h
   .rw[e] at h;cases h
   .exact n h
  .rcases old j u h with ⟨e1,_⟩ | ⟨k,p,a1,a2,y⟩
   .exact w.fx.frS j u e1 l hf a U
   .have b:=Paired.at B.back a2 y
    have τ:g j=some p:=by
     obtain ⟨C,s,σ⟩:=Paired.exL f5 a1
     rw[a2] at s;cases s
     exact σ
    refine w.fx.frS j p τ l (λX=>?_) a (by rw[<- b.v];exact U)
    have:=b.z X
    rw[this] at hf
    exact hf X
  .obtain ⟨o,I⟩:=w.fx.bin b S
   exact W b o I
  .obtain ⟨o',I⟩:=w.fx.ob b o h
   exact W b o' I
  .rcases old j u h with ⟨e1,_⟩ | ⟨k,p,a1,a2,y⟩
   .exact w.fx.lvS j u e1 hl
   .have b:=Paired.at B.back a2 y
    have τ:g j=some p:=by
     obtain ⟨C,s,σ⟩:=Paired.exL f5 a1
     rw[a2] at s;cases s
     exact σ
    rw[b.v]
    refine w.fx.lvS j p τ ?_
    rcases b.f with h | h
    .rw[<- h];exact hl
    .rw[h] at hl;cases hl
 refine #[g',wf,λx rx ox sx ax=>?_]
 have kx:∀ z,ItOk K G H z->(∀ p∈ps,Apart3 p z)->Apart3 z x:=λz P V=>by
  refine #[λhf a ev hm=>?_,λhf a ev hm=>?_]
  .rcases sx a hm with h | ⟨C,A,R⟩
   .obtain ⟨_,a',L',s,σ,_⟩:=P.own hf
    rw[ev] at s;cases s
    obtain ⟨o,I⟩:=(P.rep.inH a (by rw[σ];exact E5)).ex
    rw[h] at I;exact nsE I
   .exact (V C A).2 hf a ev R
  .obtain ⟨_,a',L',s,_,_,q4⟩:=ox hf
   rw[ev] at s;cases s
   obtain ⟨o,I⟩:=(P.rep.inH a hm).ex
   rw[q4] at I;exact nsE I
 refine #[wf.len,wf.sl,wf.sv,wf.okS,λz hz=>?_,wf.ss,λj z E t N=>?_,?_,wf.base,wf.pro,#[λu hu hf a U=>?_,wf.fx.frS,wf.fx.bin,wf.fx.ob,wf.fx.lvS]]
 .rcases Fc.mp hz with h | hz
  .rw[h]
   refine #[rx,λhf=>?_,λc R=>?_]
   .obtain ⟨m,a,L',v1,v2,v3,v4⟩:=ox hf
    exact #[m,a,L',v1,v2,v3,λ_=>.inl (w.h0none v4)]
   .rcases sx c R with h | ⟨C,A,h⟩
    .exact .inl (w.h0none h)
    .exact (w.itm (F C A)).src c h
  .exact wf.okT z hz
 .rcases Fc.mp N with h | N
  .rw[h]
   rcases old j z E with ⟨e1,ap⟩ | ⟨k,p,a1,a2,y⟩
   .exact kx z (w.okS j z e1) ap
   .exact (ax z (Fj y)).symm
  .exact wf.st j z E t N
 .exact List.pairwise_cons.mpr #[λt N=>(kx t (w.okT t (Fb _ N)) (kt t N)).symm,wf.tt]
 .rcases Fc.mp hu with h | hu
  .subst h
   obtain ⟨_,a',L',s,_,_,q4⟩:=ox hf
   rw[U] at s;cases s
   exact w.ornone q4
  .exact wf.fx.frT u hu hf a U
set_option tactic.hygienic true in
theorem sL {i a:Nat} (h:(Z[i]?).join=none):((L3.lowAt a Z)[i]?).join=none:=by
 unfold L3.lowAt
 split
 .grind
 .rename_i d hd
  rw[dq (il hd)]
  by_cases b:i=a
  .subst b;rw[h] at hd;exact nsE hd
  .rw[if_neg b];exact h
 .exact h
theorem qV {i:Nat}:∀ {is:List Nat} {Z:Sto},(Z[i]?).join=none->((L3.frz is Z)[i]?).join=none
 | [],Z,h=>h
 | a::is,Z,h=>qV (is:=is) (Z:=L3.lowAt a Z) (sL h)
end
def ju (Z:Sto):Nat->List (D×Fl)->Option (List (D×Fl))
 | _,[]=>some []
 | i,(d,.z)::ps=>(ju Z (i+1) ps).map λr=>(d,.z)::r
 | i,(d,f)::ps=>match (Z[i]?).join,ju Z (i+1) ps with
  | some (d',f'),some r=>if f'=f\/f'=.z then some ((d',f')::r) else none
  | _,_=>none
def lw (n:Nat) (ps:List (D×Fl)):Sto:=ps.map some++List.replicate (n - ps.length) none
def fn0 (n:Nat) (b:SM):Fn:=λps=>match b (lw n ps) with
 | some (.ok .nx,Z')=>(ju Z' 0 ps).map λfs=>(.ok (.non,.z),fs)
 | some (.ok (.rt d f),Z')=>(ju Z' 0 ps).map λfs=>(.ok (d,f),fs)
 | some (.error e,Z')=>(ju Z' 0 ps).map λfs=>(.error e,fs)
 | _=>none
def vM (b:Bool) (p:D×Fl):D×Fl:=if b then (p.1,.z) else p
noncomputable def fnM (mask:List Bool) (n:Nat) (b:SM):Fn:=λps=>if ps.length=mask.length then fn0 n b (List.zipWith vM mask ps) else none
section
variable {K:FG} {G:Gm} {W:D->Sto->Prop} {H H':Hp} {O:St} {Z Z':Sto} {T T':List It3} {g:Nat->Option It3} {x y z:It3} {α β:Type}
def gOf (H:Hp) (pr:Nat->Bool) (O0:St) (ps:List It3):Gm:=#[H,λb=>∃ p∈ps,p.f=.u/\p.v=.ref b,pr,O0,H,d6 ps,λi=>(ps[i]?).map (·.v)]
theorem vZ {n:Nat} (hn:ps.length<=n) (i:Nat):((lw n ps)[i]?).join=ps[i]?:=by
 unfold lw
 grind
theorem nN {n:Nat} {vs:List V} {i:Nat} (h:vs[i]?=some v):(vs.map some++List.replicate n (none:Option V))[i]?=some (some v):=by grind
theorem wD {n:Nat} (hn:ps.length<=n) (g:∀ p∈ps,Arg K H p) (r:ps.Pairwise Apart3) (k:∀ (i:Nat) (p:It3),ps[i]?=some p->p.f≠.z->pr i=true) :
  Wf K (gOf H pr ((ps.map (·.v)).map some++List.replicate (n - (ps.map (·.v)).length) none) ps) H ((ps.map (·.v)).map some++List.replicate (n - (ps.map (·.v)).length) none) (lw n (ps.map λp=>(p.d,p.f))) [] (λi=>ps[i]?):=by
 refine #[?_,λi=>?_,λi x e=>?_,λi x e=>?_,λ_ h=>(by cases h),λi j a b n s l=>?_,λ_ _ _ _ h=>(by cases h),.nil,λb o e _=>e,λi _=>rfl,#[λ_ h=>(by cases h),λi x e hz hf=>?_,λb h=>?_,λb o e=>#[o,e],λi x e _=>(by show (ps[i]?).map (·.v)=_;rw[e];rfl)]]
 .unfold lw;simp
 .rw[vZ (by simpa using hn),Fp]
 .exact nN (by rw[Fp,e];rfl)
 .have hm:=Fj e
  refine #[(g x hm).rep,λhf=>?_,λc t=>.inr #[x,hm,t]]
  obtain ⟨m,a,L',v1,v2,v3⟩:=(g x hm).own hf
  exact #[m,a,L',v1,v2,v3,λhu=>.inr #[x,hm,hu,v1]]
 .exact (dP r (λ_ _=>Apart3.symm) n s l).1
 .have hz:pr i=false:=hz
  rw[k i x e hf] at hz;cases hz
 .obtain ⟨p,hm,hf,u⟩:=h
  obtain ⟨_,a,L',v1,v2,_⟩:=(g p hm).own (by rw[hf];intro q;cases q)
  rw[u] at v1;cases v1
  exact ((g p hm).rep.inH b (by rw[v2];exact E5)).ex
def FinsOk (Z:Sto) (i:Nat) (ps fs:List (D×Fl)):Prop:=fs.length=ps.length/\∀ (k:Nat) (p:D×Fl),ps[k]?=some p->∃ q,fs[k]?=some q/\(p.2=.z->q=p)/\(p.2≠.z->(Z[i+k]?).join=some q/\(q.2=p.2\/q.2=.z))
theorem FinsOk.cons {i:Nat} {e d:D×Fl} {ps fs:List (D×Fl)} (h:FinsOk Z (i+1) ps fs) (hz:e.2=.z->d=e) (hn:e.2≠.z->(Z[i]?).join=some d/\(d.2=e.2\/d.2=.z)):FinsOk Z i (e::ps) (d::fs):=by
 refine #[by rw[FE,FE,h.1],λk p f=>?_]
 cases k with
 | zero=>cases f;exact #[d,rfl,hz,hn]
 | succ k =>
  obtain ⟨q,a,b,c⟩:=h.2 k p f
  grind
theorem kQ:∀ {i:Nat} {ps:List (D×Fl)} {fs:List (D×Fl)},ju Z i ps=some fs->FinsOk Z i ps fs
 | i,[],fs,e=>by cases e;exact #[rfl,λk p h=>by cases h]
 | i,p0::ps,fs,e=>by
  obtain ⟨d,f⟩:=p0
  have key:f≠.z->(match (Z[i]?).join,ju Z (i+1) ps with
    | some (d',a),some r=>if a=f\/a=.z then some ((d',a)::r) else none
    | _,_=>none)=some fs->FinsOk Z i ((d,f)::ps) fs:=λhf e=>by
   cases h:(Z[i]?).join with
   | none=>rw[h] at e;exact nsE e
   | some p0 =>
    cases h2:ju Z (i+1) ps with
    | none=>rw[h,h2] at e;exact nsE e
    | some r =>
     rw[h,h2] at e
     obtain ⟨d',a⟩:=p0
     dsimp only at e
     rcases Decidable.em (a=f\/a=.z) with b | b
     .rw[if_pos b] at e
      cases e
      exact (kQ h2).cons (λz=>absurd z hf) λ_=>#[h,b]
     .rw[if_neg b] at e;exact nsE e
  cases f with
  | z =>
   obtain ⟨r,h,h'⟩:=E8.mp (show (ju Z (i+1) ps).map (λr=>(d,Fl.z)::r)=some fs from e)
   subst h'
   exact (kQ h).cons (λ_=>rfl) λn=>absurd rfl n
  | u=>exact key (by intro q;cases q) e
  | l=>exact key (by intro q;cases q) e
theorem ll {P:Nat->α->β->Prop}:∀ (l:List α) (i:Nat),(∀ (k:Nat) a,l[k]?=some a->∃ b,P (i+k) a b)->∃ m:List β,m.length=l.length/\∀ (k:Nat) a,l[k]?=some a->∃ b,m[k]?=some b/\P (i+k) a b
 | [],i,_=>#[[],rfl,λk a h=>by simp at h]
 | a::l,i,h=>by
  obtain ⟨b,f⟩:=h 0 a rfl
  obtain ⟨m,h1,h2⟩:=ll l (i+1) λk a e=>by
   have:=h (k+1) a (by simpa using e)
   rwa [show i+(k+1)=i+1+k by lia] at this
  refine #[b::m,by simp[h1],λk d e=>?_]
  cases k with
  | zero=>simp at e;subst e;exact #[b,rfl,f]
  | succ k =>
   obtain ⟨c,e1,g⟩:=h2 k d (by simpa using e)
   exact #[c,by simpa using e1,by rwa [show i+(k+1)=i+1+k by lia]]
theorem Paired.ofGet:∀ {l:List α} {m:List β},l.length=m.length->(∀ (k:Nat) a b,l[k]?=some a->m[k]?=some b->F a b)->Paired F l m
 | [],[],_,_=>.nil
 | [],_::_,h,_=>by cases h
 | _::_,[],h,_=>by cases h
 | a::l,b::m,h,f=>.cons (f 0 a b rfl rfl) (Paired.ofGet (by simpa using h) λk a b e1 c=>f (k+1) a b (by simpa using e1) (by simpa using c))
theorem rG {n:Nat} {pr:Nat->Bool} {O0:St} {ps:List It3} {fs:List (D×Fl)} (F:∀ p∈ps,Arg K H p) (I:ps.Pairwise Apart3) (R:∀ (i:Nat) (p:It3),ps[i]?=some p->p.f≠.z->pr i=true) (h0:∀ (i:Nat) (p:It3),ps[i]?=some p->O0[i]?=some (some p.v))
  (w:Wf K (gOf H pr O0 ps) H' O Z T g) (e:ju Z 0 (ps.map λp=>(p.d,p.f))=some fs) :
  ∃ qs,BehindX K H H' ps qs/\qs.map (λq=>(q.d,q.f))=fs/\(∀ (k:Nat) (p q:It3),ps[k]?=some p->qs[k]?=some q->(p.f=.z/\q=p)\/(p.f≠.z/\g k=some q)):=by
 obtain ⟨hl,hs⟩:=kQ e
 rw[Fh] at hl
 have frame:∀ b o,H b=some o->(∀ p∈ps,p.f=.u->p.v≠.ref b)->H' b=some o:=λb o t hn=>w.base b o t λ#[p,hm,hf,x]=>hn p hm hf x
 have there:∀ b o,H b=some o->∃ o',H' b=some o':=λb o t=>w.fx.ob b o t
 have G:∀ (k:Nat) (p:It3),ps[k]?=some p->p.f=.z->Rep K H' p.d p.v p.L:=λk p l hz=>by
  refine (F p (Fj l)).rep.keep (M:=λb=>∃ p∈ps,p.f=.u/\p.v=.ref b) (λb o t hn=>frame b o t λp I hf x=>hn #[p,I,hf,x]) (λb #[B,hm,hf,x]=>?_) λb t #[B,hm,hf,x]=>?_
  .obtain ⟨_,a,L',v1,v2,_⟩:=(F B hm).own (by rw[hf];intro q;cases q)
   rw[x] at v1;cases v1
   exact (F B hm).rep.inH b (by rw[v2];exact E5)
  .obtain ⟨j,S,J⟩:=List.mem_iff_getElem.mp hm
   have A:ps[j]?=some B:=by rw[Fd S,J]
   have jk:j≠k:=λz=>by subst z;rw[l] at A;cases A;rw[hz] at hf;cases hf
   exact (dP I (λ_ _=>Apart3.symm) jk A l).1 (by rw[hf];intro q;cases q) b x t
 have one:∀ (k:Nat) (p:It3),ps[k]?=some p->∃ q,(q.d,q.f)=(fs[k]?).getD (p.d,p.f)/\fs[k]?=some (q.d,q.f)/\Back1 K H H' ps p q/\((p.f=.z/\q=p)\/(p.f≠.z/\g k=some q)):=λk p l=>by
  have hm:=Fj l
  obtain ⟨W,f1,f2,f3⟩:=hs k (p.d,p.f) (by rw[Fp,l];rfl)
  by_cases hz:p.f=.z
  .have:=f2 hz
   subst this
   refine #[p,by rw[f1];rfl,f1,#[λ_=>rfl,rfl,.inl rfl,#[G k p l hz,λh=>absurd hz h],λc Q=>.inr #[p,hm,Q],λh=>?_],.inl #[hz,rfl]]
   rw[hz] at h;cases h
  .obtain ⟨h1,h2⟩:=f3 hz
   rw[FA] at h1
   obtain ⟨y,τ,ρ,N,y4⟩:=w.slot (d:=W.1) (f:=W.2) h1
   have x:y.v=p.v:=by
    have:=w.pro k (R k p l hz)
    rw[y4] at this
    have h0:some (some y.v)=some (some p.v):=this.trans (h0 k p l)
    injection h0 with h0
    injection h0
   have ok:=w.okS k y τ
   refine #[y,by rw[f1,ρ,N];rfl,by rw[f1,ρ,N],#[λh=>absurd h hz,x,by rw[N];exact h2,#[ok.rep,λhf=>?_],λc Q=>ok.src c Q,λhf b t=>?_],.inr #[hz,τ]]
   .obtain ⟨m,a,L',v1,v2,v3,_⟩:=ok.own hf
    exact #[m,a,L',v1,v2,v3]
   .obtain ⟨_,a,L',v1,v2,_⟩:=(F p hm).own hz
    rw[t] at v1;cases v1
    obtain ⟨o,ho⟩:=((F p hm).rep.inH b (by rw[v2];exact E5)).ex
    exact there b o ho
 obtain ⟨qs,hq,E⟩:=ll (P:=λk p q=>fs[k]?=some (q.d,q.f)/\Back1 K H H' ps p q/\((p.f=.z/\q=p)\/(p.f≠.z/\g k=some q))) ps 0 λk p l=>by
  obtain ⟨q,_,a,b,c⟩:=one k p l
  exact #[q,by simpa using #[a,b,c]]
 have get:∀ (k:Nat) (p q:It3),ps[k]?=some p->qs[k]?=some q->fs[k]?=some (q.d,q.f)/\Back1 K H H' ps p q/\((p.f=.z/\q=p)\/(p.f≠.z/\g k=some q)):=λk p q s eq=>by
  obtain ⟨q',e1,e2⟩:=E k p s
  rw[eq] at e1
  cases e1
  simpa using e2
 have par:∀ (k:Nat) (q:It3),qs[k]?=some q->∃ p,ps[k]?=some p:=λk q e=>by
  have V:=(Fi.mp e).1
  exact #[ps[k]'(by lia),by simp[show k < ps.length by lia]]
 refine #[qs,#[frame,Paired.ofGet hq.symm λk p q s eq=>(get k p q s eq).2.1,?_],?_,λk p q s eq=>(get k p q s eq).2.2]
 .rw[List.pairwise_iff_getElem]
  intro k j V S lt
  have l:qs[k]?=some qs[k]:=Fd V
  have J:qs[j]?=some qs[j]:=Fd S
  have side:∀ (k j:Nat) (q r:It3),k≠j->qs[k]?=some q->qs[j]?=some r->NoRoot q r:=λk j q r n eq X=>by
   obtain ⟨p,s⟩:=par k q eq
   obtain ⟨B,C⟩:=par j r X
   obtain ⟨_,b,c⟩:=get k p q s eq
   obtain ⟨_,b',c'⟩:=get j B r C X
   rcases c with ⟨hz,e⟩ | ⟨hz,e⟩
   .rw[e];exact λh=>absurd hz h
   .rcases c' with ⟨σ,U⟩ | ⟨σ,U⟩
    .rw[U]
     intro hf a ea
     exact (dP I (λ_ _=>Apart3.symm) n s C).1 hz a (by rw[<- b.v];exact ea)
    .exact w.ss k j q r n e U
  exact #[side k j _ _ (Ft lt) l J,side j k _ _ (Nat.ne_of_gt lt) J l]
 .refine List.ext_getElem? λk=>?_
  rw[Fp]
  cases eq:qs[k]? with
  | none =>
   have:qs.length<=k:=List.getElem?_eq_none_iff.mp eq
   rw[List.getElem?_eq_none (by lia)]
   rfl
  | some q =>
   obtain ⟨p,s⟩:=par k q eq
   rw[(get k p q s eq).1]
   rfl
theorem tu {n:Nat} {pr:Nat->Bool} {O0:St} {ps:List It3} {fs:List (D×Fl)} (r:∀ p∈ps,Arg K H p) (u:ps.Pairwise Apart3) (j:∀ (i:Nat) (p:It3),ps[i]?=some p->p.f≠.z->pr i=true) (h0:∀ (i:Nat) (p:It3),ps[i]?=some p->O0[i]?=some (some p.v))
  (w:Wf K (gOf H pr O0 ps) H' O Z (x::T) g) (e:ju Z 0 (ps.map λp=>(p.d,p.f))=some fs):∃ qs,Behind K H H' ps qs x/\qs.map (λq=>(q.d,q.f))=fs:=by
 obtain ⟨qs,B,f,hg⟩:=rG (n:=n) r u j h0 w e
 have ok:=w.okT x E5
 refine #[qs,#[B,ok.rep,λhf=>?_,λc y=>ok.src c y,λq C=>?_],f]
 .obtain ⟨m,a,L',v1,v2,v3,_⟩:=ok.own hf
  exact #[m,a,L',v1,v2,v3,w.fx.frT x E5 hf a v1]
 .obtain ⟨k,t,A⟩:=List.mem_iff_getElem.mp C
  have eq:qs[k]?=some q:=by rw[Fd t,A]
  obtain ⟨p,s,b⟩:=Paired.exR B.back eq
  rcases hg k p q s eq with ⟨hz,e⟩ | ⟨hz,e⟩
  .rw[e]
   refine #[λhf a E hm=>?_,λh=>absurd hz h]
   have h1:=w.fx.frT x E5 hf a E
   obtain ⟨o,l⟩:=((r p (Fj s)).rep.inH a hm).ex
   have h2:H a=none:=h1
   rw[h2] at l;exact nsE l
  .exact (w.st k q e x E5).symm
end
def dB:Fl->Fl
 | .u=>.l
 | f=>f
def bz (x:It3):It3:={ x with f:=dB x.f }
def iK:Fl->Fl
 | .l=>.u
 | f=>f
def zJ (x:It3):It3:={ x with f:=iK x.f }
def mI (h:Fl->Fl) (i:Nat) (Z:Sto):Sto:=match (Z[i]?).join with
 | some (d,f)=>Z.set i (some (d,h f))
 | none=>Z
def aL (h:Fl->Fl) (is:List Nat) (Z:Sto):Sto:=is.foldl (λZ i=>mI h i Z) Z
def us (Z:Sto) (is:List Nat):List Nat:=is.filter λi=>match (Z[i]?).join with
 | some (_,.u)=>true
 | _=>false
theorem lentF_z:dB f=.z ↔ f=.z:=by cases f <;> simp[dB]
theorem unlF_z:iK f=.z ↔ f=.z:=by cases f <;> simp[iK]
theorem uj (f:Fl):dB f≠.u:=by cases f <;> simp[dB]
theorem Ct (f:Fl):iK f≠.l:=by cases f <;> simp[iK]
section
variable {K:FG} {G G0:Gm} {W W0:D->Sto->Prop} {H H':Hp} {O:St} {Z Z':Sto} {T T':List It3} {g:Nat->Option It3} {x y z:It3} {α β:Type}
theorem sF {i j:Nat}:((mI h i Z)[j]?).join=if j=i then ((Z[j]?).join).map (λp=>(p.1,h p.2)) else (Z[j]?).join:=by
 unfold mI
 grind
theorem vH {i:Nat}:(mI h i Z).length=Z.length:=by
 unfold mI
 split
 .rw[List.length_set]
 .rfl
theorem iQ (a:∀ f,h (h f)=h f):∀ {is:List Nat} {Z:Sto} {j:Nat},((aL h is Z)[j]?).join=if j∈is then ((Z[j]?).join).map (λp=>(p.1,h p.2)) else (Z[j]?).join
 | [],Z,j=>by simp[aL]
 | i::is,Z,j=>by
  have e:aL h (i::is) Z=aL h is (mI h i Z):=rfl
  rw[e,iQ a,sF]
  by_cases q:j=i
  .subst q
   by_cases m:j∈is
   .rw[if_pos m,if_pos rfl,if_pos E5]
    cases (Z[j]?).join with
    | none=>rfl
    | some p=>simp[a]
   .rw[if_neg m,if_pos rfl,if_pos E5]
  .by_cases m:j∈is
   .rw[if_pos m,if_neg q,if_pos (E6 _ m)]
   .rw[if_neg m,if_neg q,if_neg (λz=>(Fc.mp z).elim q m)]
theorem jL:∀ {is:List Nat} {Z:Sto},(aL h is Z).length=Z.length
 | [],Z=>rfl
 | i::is,Z=>by
  have e:aL h (i::is) Z=aL h is (mI h i Z):=rfl
  rw[e,jL,vH]
def fj (G:Gm) (H:Hp) (g:Nat->Option It3) (is:List Nat):Gm :=
 #[H,λb=>∃ j y,j ∉ is/\g j=some y/\y.f=.u/\y.v=.ref b,G.pr,G.O0,G.orig,λc=>G.H0 c=none\/G.src c,λj=>if j∈is then (g j).map (·.v) else G.lv j]
structure Fk (x y:It3):Prop where
 d:y.d=x.d
 v:y.v=x.v
 L:y.L=x.L
 z:y.f=.z ↔ x.f=.z
theorem Fk.noRoot (a:Fk x x') (b:Fk y y') (h:NoRoot x y):NoRoot x' y':=λhf c e=>by
 rw[b.L]
 exact h (λq=>hf (a.z.mpr q)) c (by rw[<- a.v];exact e)
theorem Fk.apart (a:Fk x x') (b:Fk y y') (h:Apart3 x y):Apart3 x' y':=#[a.noRoot b h.1,b.noRoot a h.2]
theorem Fk.refl (x:It3):Fk x x:=#[rfl,rfl,rfl,Iff.rfl]
theorem lW (x:It3):Fk x (bz x):=#[rfl,rfl,rfl,lentF_z]
theorem EE (x:It3):Fk x (zJ x):=#[rfl,rfl,rfl,unlF_z]
theorem qG {o:Option It3} {h:Fl->Fl} (e:o.map (λx=>(x.d,x.f))=p):(o.map λx=>{ x with f:=h x.f }).map (λx:It3=>(x.d,x.f))=p.map λp=>(p.1,h p.2):=by
 subst e
 cases o <;> rfl
theorem Wf.enter (w:Wf K G H O Z T g) (is:List Nat):Wf K (fj G H g is) H O (aL dB is Z) (T.map bz) (λj=>if j∈is then (g j).map bz else g j):=by
 have val:∀ j u,(if j∈is then (g j).map bz else g j)=some u->∃ l,g j=some l/\Fk l u/\((j∈is/\u=bz l)\/(j ∉ is/\u=l)):=λj u h=>by
  by_cases q:j∈is
  .rw[if_pos q] at h
   obtain ⟨l,e1,s⟩:=E8.mp h
   subst s
   exact #[l,e1,lW l,.inl #[q,rfl]]
  .rw[if_neg q] at h
   exact #[u,h,Fk.refl u,.inr #[q,rfl]]
 refine #[by rw[jL];exact w.len,λj=>?_,λj u h=>?_,λj u h=>?_,λu hu=>?_,λi j a b n D p=>?_,λj a h b p=>?_,?_,λb o e _=>e,w.pro,#[λu hu hf a B=>?_,λj u h C hf a B=>?_,λb p=>?_,w.fx.ob,λj u h hl=>?_]]
 .rw[iQ (by intro f;cases f <;> rfl)]
  by_cases q:j∈is
  .rw[if_pos q,if_pos q];exact qG (w.sl j)
  .rw[if_neg q,if_neg q];exact w.sl j
 .obtain ⟨l,e,k,_⟩:=val j u h
  rw[k.v];exact w.sv j l e
 .obtain ⟨l,e,k,c⟩:=val j u h
  have ok:=w.okS j l e
  refine #[by rw[k.d,k.v,k.L];exact ok.rep,λhf=>?_,λc t=>.inr (ok.src c (by rw[<- k.L];exact t))]
  obtain ⟨m,a,L',v1,v2,v3,_⟩:=ok.own (λq=>hf (k.z.mpr q))
  refine #[by rw[k.d];exact m,a,L',by rw[k.v];exact v1,by rw[k.L];exact v2,v3,λhu=>?_]
  rcases c with ⟨_,rfl⟩ | ⟨F,rfl⟩
  .exact absurd hu (uj _)
  .exact .inr #[j,u,F,e,hu,v1]
 .obtain ⟨l,h0,rfl⟩:=Fo.mp hu
  have ok:=w.okT l h0
  refine #[ok.rep,λhf=>?_,λc t=>.inr (ok.src c t)]
  obtain ⟨m,a,L',v1,v2,v3,_⟩:=ok.own (λq=>hf (lentF_z.mpr q))
  exact #[m,a,L',v1,v2,v3,λhu=>absurd hu (uj _)]
 .obtain ⟨A,e1,x,_⟩:=val i a D
  obtain ⟨r,s,k2,_⟩:=val j b p
  exact x.noRoot k2 (w.ss i j A r n e1 s)
 .obtain ⟨A,e1,x,_⟩:=val j a h
  obtain ⟨r,h0,rfl⟩:=Fo.mp p
  exact x.apart (lW r) (w.st j A e1 r h0)
 .rw[List.pairwise_map]
  exact w.tt.imp λ{a b} h=>(lW a).apart (lW b) h
 .obtain ⟨l,h0,rfl⟩:=Fo.mp hu
  exact w.fx.frT l h0 (λq=>hf (lentF_z.mpr q)) a B
 .obtain ⟨l,e,k,_⟩:=val j u h
  exact w.fx.frS j l e C (λq=>hf (k.z.mpr q)) a (by rw[<- k.v];exact B)
 .obtain ⟨j,y,_,e,hf,E⟩:=p
  obtain ⟨_,a,L',v1,v2,_⟩:=(w.okS j y e).own (by rw[hf];intro q;cases q)
  rw[E] at v1;cases v1
  exact ((w.okS j y e).rep.inH b (by rw[v2];exact E5)).ex
 .obtain ⟨l,e,k,c⟩:=val j u h
  show (if j∈is then (g j).map (·.v) else G.lv j)=_
  rcases c with ⟨q,rfl⟩ | ⟨q,rfl⟩
  .rw[if_pos q,e];rfl
  .rw[if_neg q];exact w.fx.lvS j u e hl
theorem Wf.leave (w:Wf K G H O Z T g) (F:∀ i∈is,∀ y,g i=some y->y.f=.u) (hT:T'.Sublist T) (p:Wf K (fj G H g is) H' O' Z2 (R++T'.map bz) g2) :
  Wf K G H' O' (aL iK is Z2) (R++T') (λj=>if j∈is then (g2 j).map zJ else g2 j):=by
 have val:∀ j u,(if j∈is then (g2 j).map zJ else g2 j)=some u->∃ r,g2 j=some r/\Fk r u/\((j∈is/\u=zJ r)\/(j ∉ is/\u=r)):=λj u h=>by
  by_cases q:j∈is
  .rw[if_pos q] at h
   obtain ⟨r,e1,E⟩:=E8.mp h
   subst E
   exact #[r,e1,EE r,.inl #[q,rfl]]
  .rw[if_neg q] at h
   exact #[u,h,Fk.refl u,.inr #[q,rfl]]
 have may:∀ a,H a=none\/(∃ j y,j ∉ is/\g j=some y/\y.f=.u/\y.v=.ref a)->G.H0 a=none\/G.bw a:=λa h=>by
  rcases h with h | ⟨j,y,_,e,hf,W⟩
  .exact .inl (w.h0none h)
  .obtain ⟨_,ρ,L',v1,_,_,v4⟩:=(w.okS j y e).own (by rw[hf];intro q;cases q)
   rw[W] at v1;cases v1
   exact v4 hf
 have t:∀ c,H c=none\/(G.H0 c=none\/G.src c)->G.H0 c=none\/G.src c:=λc h=>by
  rcases h with h | h
  .exact .inl (w.h0none h)
  .exact h
 have M:∀ x∈T',x∈T:=λx S=>hT.subset S
 have D:∀ b o,H b=some o->∃ o',H' b=some o':=λb o s=>by
  by_cases q:∃ j y,j ∉ is/\g j=some y/\y.f=.u/\y.v=.ref b
  .exact p.fx.bin b q
  .exact #[o,p.base b o s q]
 refine #[by rw[jL];exact p.len,λj=>?_,λj u h=>?_,λj u h=>?_,λu hu=>?_,λi j a b n I s=>?_,λj a h b s=>?_,?_,λb o e n=>?_,p.pro,#[λu hu=>?_,λj u h V hf a τ=>?_,λb s=>?_,p.fx.ob,λj u h hl=>?_]]
 .rw[iQ (by intro f;cases f <;> rfl)]
  by_cases q:j∈is
  .rw[if_pos q,if_pos q];exact qG (p.sl j)
  .rw[if_neg q,if_neg q];exact p.sl j
 .obtain ⟨r,e,k,_⟩:=val j u h
  rw[k.v];exact p.sv j r e
 .obtain ⟨r,e,k,c⟩:=val j u h
  have ok:=p.okS j r e
  refine #[by rw[k.d,k.v,k.L];exact ok.rep,λhf=>?_,λc J=>t c (ok.src c (by rw[<- k.L];exact J))]
  obtain ⟨m,a,L',v1,v2,v3,v4⟩:=ok.own (λq=>hf (k.z.mpr q))
  refine #[by rw[k.d];exact m,a,L',by rw[k.v];exact v1,by rw[k.L];exact v2,v3,λhu=>?_]
  rcases c with ⟨q,rfl⟩ | ⟨nj,rfl⟩
  .cases A:r.f with
   | u=>exact may a (v4 A)
   | l =>
    have hl:=p.fx.lvS j r e A
    have hl:(if j∈is then (g j).map (·.v) else G.lv j)=some r.v:=hl
    rw[if_pos q] at hl
    obtain ⟨y,N,ev⟩:=E8.mp hl
    have σ:=F j q y N
    obtain ⟨_,ρ,Q,b1,_,_,P⟩:=(w.okS j y N).own (by rw[σ];intro q;cases q)
    rw[ev,v1] at b1;cases b1
    exact P σ
   | z=>exact absurd (unlF_z.mpr A) hf
  .exact may a (v4 hu)
 .rcases Ff.mp hu with hu | hu
  .have ok:=p.okT u (E9 _ hu)
   refine #[ok.rep,λhf=>?_,λc J=>t c (ok.src c J)]
   obtain ⟨m,a,L',v1,v2,v3,v4⟩:=ok.own hf
   exact #[m,a,L',v1,v2,v3,λh=>may a (v4 h)]
  .have ok:=w.okT u (M u hu)
   exact #[(p.okT (bz u) (Fb _ (Fo.mpr #[u,hu,rfl]))).rep,ok.own,ok.src]
 .obtain ⟨C,e1,B,_⟩:=val i a I
  obtain ⟨X,E,k2,_⟩:=val j b s
  exact B.noRoot k2 (p.ss i j C X n e1 E)
 .obtain ⟨C,e1,B,_⟩:=val j a h
  rcases Ff.mp s with s | s
  .exact B.apart (Fk.refl b) (p.st j C e1 b (E9 _ s))
  .have:=p.st j C e1 (bz b) (Fb _ (Fo.mpr #[b,s,rfl]))
   exact B.apart (y:=bz b) #[rfl,rfl,rfl,lentF_z.symm] this
 .have h:=List.pairwise_append.mp p.tt
  refine List.pairwise_append.mpr #[h.1,w.tt.sublist hT,λa I b s=>?_]
  exact (Fk.refl a).apart (y:=bz b) #[rfl,rfl,rfl,lentF_z.symm] (h.2.2 a I (bz b) (Fo.mpr #[b,s,rfl]))
 .have s:=w.base b o e n
  refine p.base b o s λq=>?_
  rcases may b (.inr q) with h | h
  .rw[e] at h;cases h
  .exact n h
 .rcases Ff.mp hu with hu | hu
  .exact p.fx.frT u (E9 _ hu)
  .exact w.fx.frT u (M u hu)
 .obtain ⟨r,e,k,_⟩:=val j u h
  exact p.fx.frS j r e V (λq=>hf (k.z.mpr q)) a (by rw[<- k.v];exact τ)
 .obtain ⟨o,U⟩:=w.fx.bin b s
  exact D b o U
 .obtain ⟨r,e,k,c⟩:=val j u h
  rcases c with ⟨q,rfl⟩ | ⟨q,rfl⟩
  .exact absurd hl (Ct _)
  .have:=p.fx.lvS j u e hl
   have this:(if j∈is then (g j).map (·.v) else G.lv j)=some u.v:=this
   rw[if_neg q] at this
   exact this
theorem Bk (w:Wf K G H O Z T g) (a:∀ i∈is,∀ y,g i=some y->y.f=.u):∀ (H':Hp) (O':St) (Z2:Sto) (b:List It3) (g2:Nat->Option It3),Wf K (fj G H g is) H' O' Z2 b g2->∃ g3,Wf K G H' O' (aL iK is Z2) [] g3 :=
 λH' O' Z2 b g2 c=>#[_,by simpa using Wf.leave (T':=[]) (R:=[]) w a (List.nil_sublist T) (by simpa using c.sub (List.nil_sublist b))]
end
section
variable {K:FG} {G G0:Gm} {W W0:D->Sto->Prop} {H H':Hp} {O:St} {Z Z':Sto} {T T':List It3} {g:Nat->Option It3} {x y z:It3} {α β:Type}
def Walk (K:FG) (J:It) (H1:Hp) (ys:List It3) (ds:List D):Prop:=∃ els:List It3,(∀ x∈els,x.f=.z/\Rep K H1 x.d x.v x.L/\∀ c∈x.L,fo ys c) /\
 ∀ (M:Addr->Prop) (H':Hp),(∀ b,M b->MutAt H1 b)->(∀ b o,H1 b=some o->¬ M b->H' b=some o)->(∀ y∈ys,∀ b∈y.L,¬ M b) ->
  (∀ (i:Nat) (d:D),ds[i]?=some d->J.go i H'/\∀ x a,J.yld i H' x a->∃ w,New K H' a (d6 els) w/\w.d=d/\w.f=.z/\w.v=x)/\J.stop ds.length H'
abbrev IM:=M3 (List R3×List D)
def EndI (K:FG) (G:Gm) (W:D->Sto->Prop) (O:St) (T:List It3) (Z':Sto) (R:It->Hp->Prop):Except D (List R3×List D)->Prop
 | .ok p=>∀ J H1 vs Ts g1 ys,Wf K G H1 O Z' (Ts++T) g1->Ars O p.1 vs Ts->(∀ y∈ys,(∃ i,i∈pls p.1/\g1 i=some y)\/y∈Ts)->Walk K J H1 ys p.2->R J H1
 | .error e=>W e Z'
def tI (K:FG) (G0:Gm) (W0:D->Sto->Prop) (m:IM):TI:=λO H R=>∃ G W,Le K G W G0 W0/\∃ Z T g r Z',Wf K G H O Z T g/\m Z=some (r,Z')/\EndI K G W O T Z' R r
theorem tI.seq (le:Le K G W G0 W0) (w:Wf K G H O Z T g) (e:ag m k Z=some (r,Z')) (he:∀ x,r=.error x->W x Z') (h:∀ p Z1,k p Z1=some (r,Z')->EndI K G W O T Z1 P (.ok p)):tI K G0 W0 m O H P:=by
 unfold ag at e
 cases q:m Z with
 | none=>rw[q] at e;exact nsE e
 | some p =>
  obtain ⟨o,Z1⟩:=p
  rw[q] at e
  cases o with
  | error x=>cases e;exact #[G,W,le,Z,T,g,.error x,Z',w,q,he x rfl]
  | ok ra=>exact #[G,W,le,Z,T,g,.ok ra,Z1,w,q,h ra Z1 e]
def Bnd (K:FG) (pr:Nat->Bool) (tg:TG) (bnd:D->Sto->Option Sto):Prop:=∀ (G:Gm) (H:Hp) (O:St) (Z Z1:Sto) (T:List It3) (g:Nat->Option It3) (w:It3) (Q:St->Hp->Prop),G.pr=pr->w.f=.z->Wf K G H O Z (w::T) g->bnd w.d Z=some Z1 ->
 (∀ O2 g2,Wf K G H O2 Z1 T g2->Q O2 H)->tg w.v O H Q
def ao (i:Nat) (d:D) (Z:Sto):Option Sto:=if i < Z.length then some (Z.set i #v[d]) else none
set_option tactic.hygienic true in
theorem gj {i:Nat} (b:pr i=false):Bnd K pr (uA i) (ao i):=λG H O Z Z1 T g w Q a hz wf e q=>by
 unfold ao at e
 split at e
 .rename_i hi
  cases e
  exact q _ _ (wf.store (f:=.z) hi (by rw[a];exact b) (.inr rfl) (by intro h;cases h))
 .exact nsE e
def zG (K:FG) (pr:Nat->Bool) (tg:TGs) (bnd:List D->Sto->Option Sto):Prop:=∀ (G:Gm) (H:Hp) (O:St) (Z Z1:Sto) (T:List It3) (g:Nat->Option It3) (ws:List It3) (Q:St->Hp->Prop),G.pr=pr->(∀ w∈ws,w.f=.z)->Wf K G H O Z (ws++T) g->bnd (ws.map (·.d)) Z=some Z1 ->
 (∀ O2 g2,Wf K G H O2 Z1 T g2->Q O2 H)->tg (ws.map (·.v)) O H Q
def rJ:List D->Sto->Option Sto
 | [],Z=>some Z
 | _,_=>none
def fK (b:D->Sto->Option Sto) (bs:List D->Sto->Option Sto):List D->Sto->Option Sto
 | [],_=>none
 | d::ds,Z=>match b d Z with
  | some Z1=>bs ds Z1
  | none=>none
theorem rE:zG K pr gNil rJ:=λG H O Z Z1 T g ws Q _ _ wf e q=>by
 cases ws with
 | nil=>cases e;exact #[rfl,q _ _ wf]
 | cons w ws=>exact nsE e
theorem k6 (h1:Bnd K pr tg b) (h2:zG K pr tgs bs):zG K pr (Cl tg tgs) (fK b bs):=λG H O Z Z1 T g ws Q a hz wf e q=>by
 cases ws with
 | nil=>exact nsE e
 | cons w ws =>
  have e:(match b w.d Z with | some Z1=>bs (ws.map (·.d)) Z1 | none=>none)=some Z1:=e
  cases c:b w.d Z with
  | none=>rw[c] at e;exact nsE e
  | some Z2 =>
   rw[c] at e
   exact #[w.v,ws.map (·.v),rfl,h1 G H O Z Z2 (ws++T) g w _ a (hz w E5) wf c λO2 g2 h=>h2 G H O2 Z2 Z1 T g2 ws Q a (λx f=>hz x (E6 _ f)) h e q]
def rH (n:Nat) (bs:List D->Sto->Option Sto):D->Sto->Option Sto
 | .tup ds,Z=>if ds.length=n then bs ds Z else none
 | _,_=>none
theorem Reps.split:∀ {ds:List D} {vs:List V} {L:List Addr},Reps (Rep K H) ds vs L->∃ ws:List It3,ws.map (·.d)=ds/\ws.map (·.v)=vs/\(∀ w∈ws,w.f=.z/\Rep K H w.d w.v w.L/\∀ c∈w.L,c∈L)
 | _,_,_,.nil=>#[[],rfl,rfl,λ_ h=>(by cases h)]
 | _,_,_,.cons (d:=d) (v:=v) (L:=L) r rs=>by
  obtain ⟨ws,h1,h2,h3⟩:=Reps.split rs
  refine #[#[d,v,L,.z]::ws,by simp[h1],by simp[h2],λw hw=>?_]
  rcases Fc.mp hw with h | h
  .subst h;exact #[rfl,r,λc a=>E9 _ a]
  .exact #[(h3 w h).1,(h3 w h).2.1,λc a=>Fb _ ((h3 w h).2.2 c a)]
theorem Wf.pushAll:∀ {ws:List It3} {T:List It3},Wf K G H O Z T g->(∀ w∈ws,w.f=.z/\Rep K H w.d w.v w.L/\∀ c∈w.L,eF T g c/\(G.H0 c=none\/G.src c))->Wf K G H O Z (ws++T) g
 | [],T,w,_=>w
 | x::ws,T,w,h=>by
  have i:=Wf.pushAll (ws:=ws) w λy a=>h y (E6 _ a)
  obtain ⟨hz,e,b⟩:=h x E5
  refine i.push (Ks:=λc=>c∈x.L) #[Same.refl _,e,λc h=>.inr h,λq=>absurd hz q] λc m=>#[#[(b c m).1.1,λy a hf=>?_],(b c m).2]
  rcases Ff.mp a with q | q
  .exact absurd (h y (E6 _ q)).1 hf
  .exact (b c m).1.2 y q hf
set_option tactic.hygienic true in
theorem uT {n:Nat} (h2:zG K pr tgs bs):Bnd K pr (gTup K n tgs) (rH n bs):=λG H O Z Z1 T g w Q j hz wf e q=>by
 have r:=(wf.okT w E5).rep
 obtain ⟨d,v,L,f⟩:=w
 cases r with
 | @tup xs a vs _ hs rs =>
  have e:(if xs.length=n then bs xs Z else none)=some Z1:=e
  split at e
  .rename_i hl
   obtain ⟨ws,h1,h3,h⟩:=Reps.split rs
   refine #[a,vs,rfl,SqT.of hs,?_,?_]
   .rw[<- h3,Fh,<- hl,<- h1,Fh]
   .have l:Wf K G H O Z (ws++(#[.tup xs,.ref a,L,f]::T)) g:=wf.pushAll λu hu=>#[(h u hu).1,(h u hu).2.1,λc k=>#[wf.kid (y:=#[.tup xs,.ref a,L,f]) (.inr E5) ((h u hu).2.2 c k) λhf=>absurd hz hf,(wf.okT _ E5).src c ((h u hu).2.2 c k)]]
    have m:Wf K G H O Z (ws++T) g:=l.sub ((List.Sublist.refl ws).append (List.sublist_cons_self _ _))
    rw[<- h3]
    exact h2 G H O Z Z1 T g ws Q j (λu hu=>(h u hu).1) m (by rw[h1];exact e) q
  .exact nsE e
 | non=>exact nsE e
 | bl b=>exact nsE e
 | int i=>exact nsE e
 | str s=>exact nsE e
 | lst _ _=>exact nsE e
 | lstF _ _=>exact nsE e
 | dK _ _ _=>exact nsE e
 | dT _ _ _=>exact nsE e
 | exc _ _=>exact nsE e
 | excV _ _ _ _ _ _ _ _=>exact nsE e
noncomputable def fV (bnd:D->Sto->Option Sto) (b:SM):List D->SM
 | []=>a9 .nx
 | d::ds=>λZ=>match bnd d Z with
  | none=>none
  | some Z1=>ag b (λf=>match f with
   | .nx=>fV bnd b ds
   | .ct=>fV bnd b ds
   | .br=>a9 .nx
   | .rt d f=>a9 (.rt d f)) Z1
noncomputable def dw (im:IM) (bnd:D->Sto->Option Sto) (b:SM):SM:=ag im λp=>λZ=>(fV bnd b p.2 (aL dB (us Z (pls p.1)) Z)).map λr=>(r.1,aL iK (us Z (pls p.1)) r.2)
theorem us_u (w:Wf K G H O Z T g):∀ i∈us Z is,∀ y,g i=some y->y.f=.u:=λi hi y a=>by
 have h:=(FL.mp hi).2
 have s:=w.sl i
 rw[a] at s
 have s:some (y.d,y.f)=(Z[i]?).join:=s
 rw[<- s] at h
 cases hf:y.f with
 | u=>rfl
 | l=>rw[hf] at h;cases h
 | z=>rw[hf] at h;cases h
theorem wE {i:Nat} (w:Wf K G H O Z T g) (hi:i∈is) (a:g i=some y) (hf:y.f=.u):i∈us Z is:=by
 refine FL.mpr #[hi,?_]
 have s:=w.sl i
 rw[a] at s
 have s:some (y.d,y.f)=(Z[i]?).join:=s
 rw[<- s,hf]
theorem CJ (U:Bnd K G0.pr tg bnd) (h:tS K G0 W0 (dw im bnd b) E O H):tFor (tI K G0 W0 im) tg (tS K G0 W0 b) E O H:=by
 refine h.use λG W le Z T g r Z' w e q=>?_
 refine tI.seq le w e q.err λp Z1 e1=>?_
 intro J H1 vs Ts g1 ys t a1 az hw
 have M:=us_u (is:=pls p.1) t
 have ab:∀ i y,i∈pls p.1->g1 i=some y->y.f=.u->i∈us Z1 (pls p.1):=λi y hi ey hf=>wE t hi ey hf
 generalize us Z1 (pls p.1)=is at e1 M ab
 have w2:=t.enter is
 obtain ⟨els,n,walk⟩:=hw
 have hM:∀ b,(∃ j y,j ∉ is/\g1 j=some y/\y.f=.u/\y.v=.ref b)->MutAt H1 b:=λb #[j,y,_,ey,hf,C]=>by
  obtain ⟨_,a,L',v1,v2,_⟩:=(t.okS j y ey).own (by rw[hf];intro q;cases q)
  rw[C] at v1;cases v1
  exact (t.okS j y ey).rep.inH b (by rw[v2];exact E5)
 have X:∀ y∈ys,∀ b∈y.L,¬ ∃ j y,j ∉ is/\g1 j=some y/\y.f=.u/\y.v=.ref b:=λy A b U #[j,y',nj,B,hf,C]=>by
  have hfz:y'.f≠.z:=by rw[hf];intro q;cases q
  rcases az y A with ⟨i,hi,ρ⟩ | A
  .by_cases ij:i=j
   .subst ij
    rw[ρ] at B;cases B
    exact nj (ab i y hi ρ hf)
   .exact t.ss j i y' y (Ne.symm ij) B ρ hfz b C U
  .exact (t.st j y' B y (E9 _ A)).1 hfz b C U
 have ar:∀ y∈ys,Itm (Ts++T) g1 y:=λy A=>by
  rcases az y A with ⟨i,_,ρ⟩ | h
  .exact .inl #[i,ρ]
  .exact .inr (E9 _ h)
 have kid:∀ x∈els,∀ c∈x.L,eF ((Ts++T).map bz) (λj=>if j∈is then (g1 j).map bz else g1 j) c/\(H1 c=none\/(G.H0 c=none\/G.src c)):=λx hx c τ=>by
  obtain ⟨nr,sr⟩:=t.kids ar ((n x hx).2.2 c τ)
  refine #[#[λi z V hf C=>?_,λz hz hf C=>?_],.inr sr]
  .have V:(if i∈is then (g1 i).map bz else g1 i)=some z:=V
   by_cases q:i∈is
   .rw[if_pos q] at V
    obtain ⟨z0,e0,e1⟩:=E8.mp V
    subst e1
    exact nr.1 i z0 e0 (λq=>hf (lentF_z.mpr q)) C
   .rw[if_neg q] at V
    exact nr.1 i z V hf C
  .obtain ⟨z0,h0,rfl⟩:=Fo.mp hz
   exact nr.2 z0 h0 (λq=>hf (lentF_z.mpr q)) C
 have w3:Wf K (fj G H1 g1 is) H1 O (aL dB is Z1) (els++(Ts++T).map bz) (λj=>if j∈is then (g1 j).map bz else g1 j):=w2.pushAll λx hx=>#[(n x hx).1,(n x hx).2.1,λc τ=>kid x hx c τ]
 cases e2:fV bnd b p.2 (aL dB is Z1) with
 | none=>rw[e2] at e1;exact nsE e1
 | some rr =>
  obtain ⟨r2,Z3⟩:=rr
  rw[e2] at e1
  have er:r2=r/\aL iK is Z3=Z':=by cases e1;exact #[rfl,rfl]
  obtain ⟨rfl,eρ⟩:=er
  have leave:∀ {O':St} {H':Hp} {Z2:Sto} {g2:Nat->Option It3} {R:List It3},Wf K (fj G H1 g1 is) H' O' Z2 (R++(els++(Ts++T).map bz)) g2->∃ g3,Wf K G H' O' (aL iK is Z2) (R++T) g3:=λ{O' H' Z2 g2 R} I =>
   ⟨_,Wf.leave (T:=Ts++T) (T':=T) (R:=R) t M (Fm Ts T) (I.sub ((List.Sublist.refl R).append (by
    rw[List.map_append]
    exact (Fm (Ts.map bz) (T.map bz)).trans (Fm els _))))⟩
  have a3:Le K (fj G H1 g1 is) (λe Z2=>W e (aL iK is Z2)) G W:=⟨rfl,λH' O' Z2 T2 g2 e I he=>by
   obtain ⟨g3,w5⟩:=Bk t M H' O' Z2 T2 g2 I
   exact ⟨_,[],g3,w5,he⟩⟩
  have s:Le K (fj G H1 g1 is) (λe Z2=>W e (aL iK is Z2)) G0 W0:=a3.trans le
  refine #[λk m O' H'=>k<=p.2.length/\m=p.2.length - k/\∃ Z2 g2,Wf K (fj G H1 g1 is) H' O' Z2 (els++(Ts++T).map bz) g2/\fV bnd b (p.2.drop k) Z2=some (r2,Z3),#[_,Nat.zero_le _,rfl,_,_,w3,e2],?_]
  rintro k m O' H' ⟨hk,rfl,Z2,g2,I,e4⟩
  obtain ⟨a0,N⟩:=walk _ H' hM (λb o U hn=>I.base b o U hn) X
  by_cases D:k < p.2.length
  .obtain ⟨d,hd⟩:∃ d,p.2[k]?=some d:=#[_,Fd D]
   have P:p.2.drop k=d::p.2.drop (k+1):=by
    rw[List.drop_eq_getElem_cons D]
    rw[Fd D] at hd
    cases hd;rfl
   rw[P] at e4
   obtain ⟨go,yld⟩:=a0 k d hd
   refine .inr #[go,λO5 H5=>∃ Z5 g5,Wf K (fj G H1 g1 is) H5 O5 Z5 (els++(Ts++T).map bz) g5/\fV bnd b (p.2.drop (k+1)) Z5=some (r2,Z3),λO5 H5 #[Z5,g5,w5,l]=>#[p.2.length - (k+1),by lia,D,rfl,Z5,g5,w5,l],λx S A=>?_]
   obtain ⟨u,nu,ud,uf,uv⟩:=yld x S A
   have w5:Wf K (fj G H1 g1 is) S O' Z2 (u::(els++(Ts++T).map bz)) g2:=I.push nu λc τ=>I.alls (ys:=els) (λy A=>#[.inr (E9 _ A),(n y A).1]) τ
   have l:(match bnd d Z2 with
    | none=>none
    | some Z1=>ag b (λf=>match f with
     | .nx=>fV bnd b (p.2.drop (k+1))
     | .ct=>fV bnd b (p.2.drop (k+1))
     | .br=>a9 .nx
     | .rt d f=>a9 (.rt d f)) Z1)=some (r2,Z3):=e4
   cases e6:bnd d Z2 with
   | none=>rw[e6] at l;exact nsE l
   | some Z6 =>
    rw[e6] at l
    dsimp only at l
    rw[<- uv]
    refine U (fj G H1 g1 is) S O' Z2 Z6 _ g2 u _ le.pr uf w5 (by rw[ud];exact e6) λO6 g6 w6=>?_
    unfold ag at l
    cases σ:b Z6 with
    | none=>rw[σ] at l;exact nsE l
    | some pr7 =>
     obtain ⟨o7,Z7⟩:=pr7
     rw[σ] at l
     cases o7 with
     | error er =>
      cases l
      refine tS.mk (r:=.error er) s w6 σ ?_
      show W er (aL iK is _)
      rw[eρ];exact q
     | ok f =>
      cases f with
      | nx=>exact tS.mk (r:=.ok .nx) s w6 σ λO8 H8 g8 Q=>#[Z7,g8,Q,l]
      | ct=>exact tS.mk (r:=.ok .ct) s w6 σ λO8 H8 g8 Q=>#[Z7,g8,Q,l]
      | br =>
       cases l
       refine tS.mk (r:=.ok .br) s w6 σ λO8 H8 g8 Q=>?_
       obtain ⟨g9,F⟩:=leave (R:=[]) Q
       rw[eρ] at F
       exact q _ _ _ F
      | rt d' f' =>
       cases l
       refine tS.mk (r:=.ok (.rt d' f')) s w6 σ λx8 O8 H8 g8 Q x1 x2=>?_
       obtain ⟨g9,F⟩:=leave (R:=[x8]) Q
       rw[eρ] at F
       exact q x8 _ _ _ F x1 x2
  .have ek:k=p.2.length:=by lia
   subst ek
   rw[List.drop_length] at e4
   cases e4
   obtain ⟨g9,F⟩:=leave (R:=[]) I
   rw[eρ] at F
   exact .inl #[N,q _ _ _ F]
end
def sU (ix:List (Option Nat)) (Z:Sto):Sto:=ix.map λo=>match o with
 | some i=>(Z[i]?).join
 | none=>none
def uncap:List (Option Nat)->Sto->Sto->Option Sto
 | [],_,Z=>some Z
 | none::ix,Y,Z=>uncap ix Y.tail Z
 | some i::ix,Y,Z=>match (Z[i]?).join,Y.head? with
  | some (_,f),some (some (d',f'))=>if f'=f\/f'=.z then uncap ix Y.tail (Z.set i (some (d',f'))) else none
  | _,_=>none
noncomputable def bf (bnd:D->Sto->Option Sto) (c:M3 Bool) (elt:EM):List D->M3 (List D)
 | []=>a9 []
 | d::ds=>λY=>match bnd d Y with
  | none=>none
  | some Y1=>ag c (λb=>if b then ag elt (λr=>ag (fX r) λp=>ag (bf bnd c elt ds) λl=>a9 (p.1::l)) else bf bnd c elt ds) Y1
def a7 (im:IM) (bnd:D->Sto->Option Sto) (c:M3 Bool) (elt:EM) (ix:List (Option Nat)):EM:=ag im λp=>λZ =>
 match bf bnd c elt p.2 (sU ix (aL dB (us Z (pls p.1)) Z)) with
 | some (.ok ds,Y)=>if p.2.length < 16777216 then (uncap ix Y (aL dB (us Z (pls p.1)) Z)).map λZ2=>(.ok (.val (.lst ds) .u),aL iK (us Z (pls p.1)) Z2) else none
 | _=>none
section
variable {K:FG} {G G0:Gm} {W W0:D->Sto->Prop} {H H':Hp} {O Y:St} {Z Z':Sto} {T T':List It3} {g:Nat->Option It3} {x y z:It3} {α β:Type} {ix:List (Option Nat)}
def Inj (ix:List (Option Nat)):Prop:=∀ (j k i:Nat),ix[j]?=some (some i)->ix[k]?=some (some i)->j=k
def Bt (ix:List (Option Nat)) (g:Nat->Option It3) (j:Nat):Option It3:=(ix[j]?).join.bind g
def sA (ix:List (Option Nat)) (n:Nat) (g:Nat->Option It3):List It3:=(List.range n).filterMap λi=>if some i∈ix then none else g i
def zh (G:Gm) (ix:List (Option Nat)) (O:St):Gm:=#[G.H0,G.bw,λj=>((ix[j]?).join).isSome,cap ix O,λ_=>none,G.src,λj=>(ix[j]?).join.bind G.lv]
theorem eJ {j:Nat} (h:Bt ix g j=some x):∃ i,ix[j]?=some (some i)/\g i=some x:=by
 unfold Bt at h
 cases e:ix[j]? with
 | none=>rw[e] at h;exact nsE h
 | some o =>
  rw[e] at h
  cases o with
  | none=>exact nsE h
  | some i=>exact #[i,rfl,h]
set_option tactic.hygienic true in
theorem mG {n:Nat} (h:x∈sA ix n g):∃ i,some i ∉ ix/\g i=some x:=by
 obtain ⟨i,_,e⟩:=List.mem_filterMap.mp h
 split at e
 .exact nsE e
 .rename_i hn;exact #[i,hn,e]
theorem xT {n i:Nat} (hi:i < n) (hn:some i ∉ ix) (e:g i=some x):x∈sA ix n g:=List.mem_filterMap.mpr #[i,List.mem_range.mpr hi,by rw[if_neg hn];exact e]
theorem Wf.cap (w:Wf K G H O Z T g) (p:Inj ix):Wf K (zh G ix O) H (cap ix O) (sU ix Z) (sA ix Z.length g++T) (Bt ix g):=by
 have ne:∀ {i j:Nat},ix[j]?=some (some i)->∀ k,some k ∉ ix->i≠k:=λe k l q=>l (by rw[<- q];exact Fj e)
 refine #[by unfold L2.cap sU;rw[Fh,Fh],λj=>?_,λj x h=>?_,λj x h=>?_,λx m=>?_,λj k x y n m s=>?_,λj x h y s=>?_,?_,w.base,λ_ _=>rfl,#[λ_ _ _ _ _=>rfl,λ_ _ _ _ _ _ _=>rfl,w.fx.bin,λb o e=>(by cases e),λj x h hl=>?_]]
 .unfold Bt sU
  rw[Fp]
  cases e:ix[j]? with
  | none=>rfl
  | some o =>
   cases o with
   | none=>rfl
   | some i=>exact w.sl i
 .obtain ⟨i,e1,c⟩:=eJ h
  unfold L2.cap
  rw[Fp,e1]
  show some ((O[i]?).getD none)=_
  rw[w.sv i x c];rfl
 .obtain ⟨i,_,c⟩:=eJ h
  have ok:=w.okS i x c
  exact #[ok.rep,ok.own,ok.src]
 .rcases Ff.mp m with h | h
  .obtain ⟨i,_,e⟩:=mG h
   have ok:=w.okS i x e
   exact #[ok.rep,ok.own,ok.src]
  .have ok:=w.okT x h
   exact #[ok.rep,ok.own,ok.src]
 .obtain ⟨i,e1,c⟩:=eJ m
  obtain ⟨u,v,z⟩:=eJ s
  exact w.ss i u x y (λq=>n (p j k i e1 (q ▸ v))) c z
 .obtain ⟨i,e1,c⟩:=eJ h
  rcases Ff.mp s with q | q
  .obtain ⟨k,l,e⟩:=mG q
   have:=ne e1 k l
   exact #[w.ss i k x y this c e,w.ss k i y x (Ne.symm this) e c]
  .exact w.st i x c y q
 .refine List.pairwise_append.mpr #[?_,w.tt,λa r b t=>?_]
  .unfold sA
   rw[List.pairwise_filterMap]
   refine List.pairwise_lt_range.imp λ{i k} lt a r b t=>?_
   have d:(if some i∈ix then none else g i)=some a:=r
   have f:(if some k∈ix then none else g k)=some b:=t
   split at d
   .cases d
   .split at f
    .cases f
    .exact #[w.ss i k a b (Ft lt) d f,w.ss k i b a (Nat.ne_of_gt lt) f d]
  .obtain ⟨k,l,e⟩:=mG r
   exact w.st k a e b t
 .obtain ⟨i,e1,c⟩:=eJ h
  show (ix[j]?).join.bind G.lv=_
  rw[e1]
  exact w.fx.lvS i x c hl
theorem Wf.perm (w:Wf K G H O Z T g) (p:T.Perm T'):Wf K G H O Z T' g :=
 #[w.len,w.sl,w.sv,w.okS,λx a=>w.okT x (p.mem_iff.mpr a),w.ss,λi x e y b=>w.st i x e y (p.mem_iff.mpr b),(p.pairwise_iff λh=>Apart3.symm h).mp w.tt,w.base,w.pro,w.fx.sub λx a=>p.mem_iff.mpr a]
set_option tactic.hygienic true in
theorem jE:∀ {ix:List (Option Nat)} {Y Z Z2:Sto},uncap ix Y Z=some Z2->Inj ix->Z2.length=Z.length/\(∀ i,some i ∉ ix->(Z2[i]?).join=(Z[i]?).join) /\
  ∀ (j i:Nat),ix[j]?=some (some i)->∃ p q,(Z[i]?).join=some p/\(Y[j]?).join=some q/\(Z2[i]?).join=some q/\(q.2=p.2\/q.2=.z)
 | [],Y,Z,Z2,e,_=>by cases e;exact #[rfl,λ_ _=>rfl,λj i h=>by simp at h]
 | none::ix,Y,Z,Z2,e,hij=>by
  unfold uncap at e
  obtain ⟨h1,h2,h3⟩:=jE e λj k i a b=>by
   have:=hij (j+1) (k+1) i (by simpa using a) (by simpa using b)
   lia
  refine #[h1,λi hi=>h2 i λq=>hi (E6 _ q),λj i h=>?_]
  cases j with
  | zero=>simp at h
  | succ j =>
   obtain ⟨p,q,a,b,c⟩:=h3 j i (by simpa using h)
   exact #[p,q,a,by rw[List.getElem?_tail] at b;exact b,c]
 | some i0::ix,Y,Z,Z2,e,hij=>by
  unfold uncap at e
  cases e1:(Z[i0]?).join with
  | none=>rw[e1] at e;exact nsE e
  | some p =>
   obtain ⟨d,f⟩:=p
   cases l:Y.head? with
   | none=>rw[e1,l] at e;exact nsE e
   | some o =>
    cases o with
    | none=>rw[e1,l] at e;exact nsE e
    | some q =>
     obtain ⟨d',s⟩:=q
     rw[e1,l] at e
     dsimp only at e
     split at e
     .rename_i hf
      have g:=il e1
      have n:some i0 ∉ ix:=λm=>by
       obtain ⟨k,u,t⟩:=List.mem_iff_getElem.mp m
       have:=hij 0 (k+1) i0 rfl (by simp[u,t])
       lia
      obtain ⟨h1,h2,h3⟩:=jE e λj k i a b=>by
       have:=hij (j+1) (k+1) i (by simpa using a) (by simpa using b)
       lia
      refine #[by rw[h1,List.length_set],λi hi=>?_,λj i h=>?_]
      .rw[h2 i λq=>hi (E6 _ q),dq g,if_neg (λq=>hi (by rw[q];exact E5))]
      .cases j with
       | zero =>
        simp at h
        subst h
        refine #[(d,f),(d',s),e1,?_,?_,hf]
        .rw[List.head?_eq_getElem?] at l;rw[l];rfl
        .rw[h2 i0 n,dq g,if_pos rfl]
       | succ j =>
        have r:ix[j]?=some (some i):=by simpa using h
        obtain ⟨p,q,a,b,c⟩:=h3 j i r
        have ii:i≠i0:=λz=>n (by rw[<- z];exact Fj r)
        rw[dq g,if_neg ii] at a
        exact #[p,q,a,by rw[List.getElem?_tail] at b;exact b,c]
     .exact nsE e
theorem Wf.uncap (w:Wf K G H O Z T g) (hH:∀ b o,H b=some o->G.H0 b=some o) (S:Inj ix) (e:L3.uncap ix τρ Z=some Z2) (hR:∀ x∈R,x.f=.z) (r:Wf K (zh G ix O) H' Y' τρ (R++(sA ix Z.length g++T)) gC) :
  ∃ g2,Wf K G H' O Z2 (R++T) g2:=by
 obtain ⟨hl,h2,h3⟩:=jE e S
 let inv (i:Nat):Option Nat:=(List.range ix.length).find? λj=>decide (ix[j]?=some (some i))
 have B:∀ i j,inv i=some j->ix[j]?=some (some i):=λi j h=>by simpa using List.find?_some h
 have A:∀ i,inv i=none->some i ∉ ix:=λi h m=>by
  obtain ⟨k,V,ek⟩:=List.mem_iff_getElem.mp m
  have:=List.find?_eq_none.mp h k (List.mem_range.mpr V)
  simp[V,ek] at this
 let g2 (i:Nat):Option It3:=match inv i with | some j=>gC j | none=>g i
 have val:∀ i u,g2 i=some u->(∃ j p q,ix[j]?=some (some i)/\gC j=some u/\(Z[i]?).join=some p/\(τρ[j]?).join=some q/\(q.2=p.2\/q.2=.z))\/(some i ∉ ix/\g i=some u):=λi u h=>by
  grind
 have out:∀ i u,some i ∉ ix->g i=some u->u∈sA ix Z.length g:=λi u hn e=>by
  have s:=w.sl i
  rw[e] at s
  exact xT (il s.symm) hn e
 have back:∀ i j u,ix[j]?=some (some i)->gC j=some u->O[i]?=some (some u.v):=λi j u t l=>by
  have a:=r.sv j u l
  have b:=r.pro j (by show ((ix[j]?).join).isSome=true;rw[t];rfl)
  rw[a] at b
  have b:some (some u.v)=(L2.cap ix O)[j]?:=b
  unfold L2.cap at b
  rw[Fp,t] at b
  have b:some (some u.v)=some ((O[i]?).getD none):=b
  cases q:O[i]? with
  | none=>rw[q] at b;cases b
  | some o=>rw[q] at b;cases b;rfl
 have J:∀ i j u p q,ix[j]?=some (some i)->gC j=some u->(Z[i]?).join=some p->(τρ[j]?).join=some q->(q.2=p.2\/q.2=.z)->∃ y,g i=some y/\y.v=u.v/\(u.f=y.f\/u.f=.z):=λi j u p q t l M eq hf=>by
  obtain ⟨y,L,N,F,ρ⟩:=w.slot (d:=p.1) (f:=p.2) M
  have b:=back i j u t l
  rw[ρ] at b
  have s:=r.sl j
  rw[l,eq] at s
  have s:some (u.d,u.f)=some q:=s
  refine #[y,L,by injection b with b;injection b,?_]
  rw[F,show u.f=q.2 by injection s with s;rw[<- s]]
  exact hf
 refine #[g2,#[by rw[hl];exact w.len,λi=>?_,λi u h=>?_,λi u h=>?_,λu hu=>?_,λi k a b n ha C=>?_,λi a h b C=>?_,r.tt.sublist ((List.Sublist.refl R).append (Fm _ T)),r.base,w.pro,#[λu hu hf=>?_,λi u h W hf a τ=>?_,r.fx.bin,λb o C=>?_,λi u h hl=>?_]]]
 .show (match inv i with | some j=>gC j | none=>g i).map _=_
  cases X:inv i with
  | none=>rw[h2 i (A i X)];exact w.sl i
  | some j =>
   obtain ⟨p,q,a,b,c,_⟩:=h3 j i (B i j X)
   rw[c,<- b];exact r.sl j
 .rcases val i u h with ⟨j,p,q,t,l,_⟩ | ⟨hn,e⟩
  .exact back i j u t l
  .exact w.sv i u e
 .rcases val i u h with ⟨j,p,q,t,l,_⟩ | ⟨hn,e⟩
  .have ok:=r.okS j u l
   exact #[ok.rep,ok.own,ok.src]
  .have ok:=r.okT u (Fb _ (E9 _ (out i u hn e)))
   exact #[ok.rep,ok.own,ok.src]
 .have ok:=r.okT u (by
   rcases Ff.mp hu with q | q
   .exact E9 _ q
   .exact Fb _ (Fb _ q))
  exact #[ok.rep,ok.own,ok.src]
 .rcases val i a ha with ⟨j,p,q,t,l,_⟩ | ⟨hn,e⟩
  .rcases val k b C with ⟨U,p',q',D,E,_⟩ | ⟨I,Q⟩
   .exact r.ss j U a b (λz=>n (by subst z;rw[t] at D;injection D with z;injection z)) l E
   .exact (r.st j a l b (Fb _ (E9 _ (out k b I Q)))).1
  .rcases val k b C with ⟨U,p',q',D,E,_⟩ | ⟨I,Q⟩
   .exact (r.st U b E a (Fb _ (E9 _ (out i a hn e)))).2
   .exact w.ss i k a b n e Q
 .have σ:b∈R++(sA ix Z.length g++T):=by
   rcases Ff.mp C with q | q
   .exact E9 _ q
   .exact Fb _ (Fb _ q)
  rcases val i a h with ⟨j,p,q,t,l,_⟩ | ⟨hn,e⟩
  .exact r.st j a l b σ
  .rcases Ff.mp C with q | q
   .exact ((List.pairwise_append.mp r.tt).2.2 b q a (E9 _ (out i a hn e))).symm
   .exact w.st i a e b q
 .rcases Ff.mp hu with q | q
  .exact absurd (hR u q) hf
  .exact w.fx.frT u q hf
 .rcases val i u h with ⟨j,p,q,t,l,M,eq,P⟩ | ⟨hn,e⟩
  .obtain ⟨y,L,N,F⟩:=J i j u p q t l M eq P
   refine w.fx.frS i y L W (λz=>hf ?_) a (by rw[N];exact τ)
   rcases F with h | h
   .rw[h];exact z
   .exact h
  .exact w.fx.frS i u e W hf a τ
 .obtain ⟨o',ho⟩:=w.fx.ob b o C
  have h0:=hH b o' ho
  by_cases q:G.bw b
  .exact r.fx.bin b q
  .exact #[o',r.base b o' h0 q]
 .rcases val i u h with ⟨j,p,q,t,l,M,eq,P⟩ | ⟨hn,e⟩
  .obtain ⟨y,L,N,F⟩:=J i j u p q t l M eq P
   rw[<- N]
   refine w.fx.lvS i y L ?_
   rcases F with h | h
   .rw[<- h];exact hl
   .rw[h] at hl;cases hl
  .exact w.fx.lvS i u e hl
theorem we {J:It} {H1:Hp} {ys els:List It3} {ds:List D} {bnd:D->Sto->Option Sto} {c:M3 Bool} {elt:EM} {tg:TG} {tc:TT} {te:TE} {Gc:Gm} {a:List It3} {g:List D} {τρ τρ':Sto} {gC:Nat->Option It3} {ρ:List V->Hp->Prop} {M:Addr->Prop}
  (hz:(16777216:Nat)=sizeLine) (G:∀ x∈els,x∈a/\x.f=.z)
  (τ:∀ H',(∀ b o,H1 b=some o->¬ Gc.bw b->H' b=some o)->(∀ (i:Nat) (d:D),ds[i]?=some d->J.go i H'/\∀ x j,J.yld i H' x j->∃ w,New K H' j (d6 els) w/\w.d=d/\w.f=.z/\w.v=x)/\J.stop ds.length H')
  (h0:Gc.H0=H1) (hb:Bnd K Gc.pr tg bnd) (S:∀ O H Q,tT K Gc (λ_ _=>False) c O H Q->tc O H Q) (ab:∀ O H Q,tE K Gc (λ_ _=>False) elt O H Q->te O H Q)
  (hlen:ds.length < 16777216) (w:Wf K Gc H1 Y τρ a gC) (e:bf bnd c elt ds τρ=some (.ok g,τρ'))
  (hZ:∀ (us:List It3) (Y':St) (H':Hp) (g':Nat->Option It3),(∀ x∈us,x.f=.z)->us.map (·.d)=g->Wf K Gc H' Y' τρ' (us++a) g'->ρ (us.map (·.v)) H'):rM J tg tc te ρ Y H1:=by
 refine #[λi m vs Y' H'=>i<=ds.length/\m=ds.length - i/\vs.length<=i/\∃ (us:List It3) (Z2:Sto) (g2:Nat->Option It3) (r:List D),(∀ x∈us,x.f=.z)/\us.map (·.v)=vs/\Wf K Gc H' Y' Z2 (us++a) g2/\bf bnd c elt (ds.drop i) Z2=some (.ok r,τρ')/\us.map (·.d)++r=g,#[_,Nat.zero_le _,rfl,Fq _,[],τρ,gC,g,λ_ h=>(by cases h),rfl,w,e,rfl],?_]
 rintro i m vs Y1 H2 ⟨hi,rfl,az,us,Z2,g2,r,q,t,σ,L,n⟩
 refine #[by lia,?_]
 obtain ⟨T,s⟩:=τ H2 λb o W hn=>σ.base b o (by rw[h0];exact W) hn
 by_cases k:i < ds.length
 .obtain ⟨d,hd⟩:∃ d,ds[i]?=some d:=#[_,Fd k]
  have A:ds.drop i=d::ds.drop (i+1):=by
   rw[List.drop_eq_getElem_cons k]
   rw[Fd k] at hd
   cases hd;rfl
  rw[A] at L
  obtain ⟨go,yld⟩:=T i d hd
  refine .inr ⟨go,λB Y5 X=>B.length<=i+1/\∃ (us:List It3) (Z5:Sto) (g5:Nat->Option It3) (r:List D),(∀ x∈us,x.f=.z)/\us.map (·.v)=B/\Wf K Gc X Y5 Z5 (us++a) g5/\bf bnd c elt (ds.drop (i+1)) Z5=some (.ok r,τρ')/\us.map (·.d)++r=g,
   λB Y5 X ⟨ar,h5⟩=>⟨ds.length - (i+1),by lia,k,rfl,ar,h5⟩,λx j F=>?_⟩
  obtain ⟨u,nu,ud,uf,uv⟩:=yld x j F
  have w3:Wf K Gc j Y1 Z2 (u::(us++a)) g2:=σ.push nu λc hc=>σ.alls (ys:=els) (λy F=>#[.inr (Fb _ (G y F).1),(G y F).2]) hc
  have I:(match bnd d Z2 with
   | none=>none
   | some Y1=>ag c (λb=>if b then ag elt (λr=>ag (fX r) λp=>ag (bf bnd c elt (ds.drop (i+1))) λl=>a9 (p.1::l)) else bf bnd c elt (ds.drop (i+1))) Y1)=some (.ok r,τρ'):=L
  cases R:bnd d Z2 with
  | none=>rw[R] at I;exact nsE I
  | some Z3 =>
   rw[R] at I
   dsimp only at I
   rw[<- uv]
   refine hb Gc j Y1 Z2 Z3 _ g2 u _ rfl uf w3 (by rw[ud];exact R) λY4 g4 w4=>?_
   refine S _ _ _ (tT.seq (Le.refl K Gc _) w4 I (λx U=>by cases U) λb Z5 N X g5 w5=>?_)
   cases b with
   | false =>
    simp only[FK,if_false] at N ⊢
    exact #[by lia,us,Z5,g5,r,q,t,w5,N,n]
   | true =>
    simp only[if_true] at N ⊢
    refine ab _ _ _ (tE.seq (Le.refl K Gc _) w5 N (λx U=>by cases U) λra Z6 e6 v H6 #[Ts,g6,w6,a6]=>?_)
    obtain ⟨p,Z7,g7,E,C,w7,f1,f2,_,f3⟩:=a6.take w6 e6
    have w8:=Wf.lowT (Ts:=[E]) w7
    unfold ag at C
    cases P:bf bnd c elt (ds.drop (i+1)) Z7 with
    | none=>rw[P] at C;exact nsE C
    | some pr =>
     obtain ⟨o,Z8⟩:=pr
     rw[P] at C
     cases o with
     | error x=>cases C
     | ok l =>
      cases C
      refine #[by rw[FD];simp;lia,us++[dY E],Z7,g7,l,λy F=>?_,by rw[List.map_append,t,<- f3];rfl,?_,P,?_]
      .rcases Ff.mp F with h | h
       .exact q y h
       .rw[FJ.mp h];rfl
      .exact w8.perm (by
        show ([dY E]++(us++a)).Perm (us++[dY E]++a)
        rw[<- List.append_assoc]
        exact (List.perm_append_comm).append_right a)
      .rw[List.map_append,List.append_assoc]
       show us.map (·.d)++((dY E).d::l)=g
       rw[show (dY E).d=p.1 from f1]
       exact n
 .have ei:i=ds.length:=by lia
  subst ei
  rw[List.drop_length] at L
  cases L
  rw[List.append_nil] at n
  subst t
  exact .inl #[s,hZ us Y1 H2 g2 q n σ]
end
section
variable {K:FG} {G G0:Gm} {W W0:D->Sto->Prop} {H H':Hp} {O Y:St} {Z Z':Sto} {T T':List It3} {g:Nat->Option It3} {x y z:It3} {α β:Type} {ix:List (Option Nat)}
def bq (ix:List (Option Nat)):Gm:=#[λ_=>none,λ_=>False,λj=>((ix[j]?).join).isSome,[],λ_=>none,λ_=>False,λ_=>none]
abbrev noX:D->Sto->Prop:=λ_ _=>False
theorem uo (h:G1.pr=(bq ix).pr) (le:Le K G W G1 noX):Le K G W (bq ix) noX:=⟨le.pr.trans h,λH O Z T g e w q=>by
 obtain ⟨_,_,_,_,f⟩:=le.ex H O Z T g e w q
 exact f.elim⟩
theorem zV (h:G1.pr=(bq ix).pr) (q:tE K G1 noX m O H Q):tE K (bq ix) noX m O H Q:=by
 obtain ⟨G,W,le,r⟩:=q
 exact #[G,W,uo h le,r]
theorem zN (h:G1.pr=(bq ix).pr) (q:tT K G1 noX m O H Q):tT K (bq ix) noX m O H Q:=by
 obtain ⟨G,W,le,r⟩:=q
 exact #[G,W,uo h le,r]
def b9:M3 Bool:=a9 true
theorem CA (h:tT K G0 W0 b9 O H Q):tYes O H Q:=by
 refine h.use λG W le Z T g o Z' w e q=>?_
 cases e
 exact q _ _ w
set_option tactic.hygienic true in
theorem kU:∀ {ds a:List D} {τρ τρ':Sto},bf bnd c elt ds τρ=some (.ok a,τρ')->a.length<=ds.length
 | [],a,τρ,τρ',e=>by cases e;exact Fq _
 | d::ds,a,τρ,τρ',e=>by
  unfold bf at e
  split at e
  .exact nsE e
  .rename_i Y1 _
   unfold ag at e
   split at e
   .exact nsE e
   .cases e
   .rename_i b Y2 _
    cases b with
    | false =>
     simp only[FK,if_false] at e
     have:=kU e
     simp;lia
    | true =>
     simp only[if_true] at e
     split at e
     .exact nsE e
     .cases e
     .split at e
      .exact nsE e
      .cases e
      .split at e
       .exact nsE e
       .cases e
       .rename_i l Y5 f
        cases e
        have:=kU f
        simp;lia
set_option tactic.hygienic true in
theorem rg (hz:(16777216:Nat)=sizeLine) (F:Inj ix) (V:Bnd K (bq ix).pr tg bnd) (le:Le K G W G0 W0) (w:Wf K G H O Z T g) (e:a7 im bnd c elt ix Z=some (o,Z')) (he:∀ x,o=.error x->W x Z') (hZ:∀ (us:List It3) (H':Hp) (g':Nat->Option It3) (Ts:List It3) (ds:List D),o=.ok (.val (.lst ds) .u)->(∀ x∈us,x.f=.z)->us.map (·.d)=ds->us.length<=16777216->Wf K G H' O Z' (us++T) g'->ρ (us.map (·.v)) H') :
  tI K G0 W0 im O H λJ H1=>rM J tg (tT K (bq ix) noX c) (tE K (bq ix) noX elt) ρ (cap ix O) H1:=by
 refine tI.seq le w e he λp Z1 e1=>?_
 intro J H1 vs Ts g1 ys n a1 P hw
 have B:=us_u (is:=pls p.1) n
 have E:∀ i y,i∈pls p.1->g1 i=some y->y.f=.u->i∈us Z1 (pls p.1):=λi y hi S hf=>wE n hi S hf
 generalize us Z1 (pls p.1)=is at e1 B E
 have w2:=n.enter is
 obtain ⟨els,k,walk⟩:=hw
 have hM:∀ b,(∃ j y,j ∉ is/\g1 j=some y/\y.f=.u/\y.v=.ref b)->MutAt H1 b:=λb #[j,y,_,S,hf,m]=>by
  obtain ⟨_,a,L',v1,v2,_⟩:=(n.okS j y S).own (by rw[hf];intro q;cases q)
  rw[m] at v1;cases v1
  exact (n.okS j y S).rep.inH b (by rw[v2];exact E5)
 have A:∀ y∈ys,∀ b∈y.L,¬ ∃ j y,j ∉ is/\g1 j=some y/\y.f=.u/\y.v=.ref b:=λy σ b V #[j,y',nj,l,hf,m]=>by
  have hfz:y'.f≠.z:=by rw[hf];intro q;cases q
  rcases P y σ with ⟨i,hi,C⟩ | σ
  .by_cases ij:i=j
   .subst ij
    rw[C] at l;cases l
    exact nj (E i y hi C hf)
   .exact n.ss j i y' y (Ne.symm ij) l C hfz b m V
  .exact (n.st j y' l y (E9 _ σ)).1 hfz b m V
 have N:∀ y∈ys,Itm (Ts++T) g1 y:=λy σ=>by
  rcases P y σ with ⟨i,_,C⟩ | h
  .exact .inl #[i,C]
  .exact .inr (E9 _ h)
 have kid:∀ x∈els,∀ c∈x.L,eF ((Ts++T).map bz) (λj=>if j∈is then (g1 j).map bz else g1 j) c/\(H1 c=none\/(G.H0 c=none\/G.src c)):=λx r c hc=>by
  obtain ⟨nr,sr⟩:=n.kids N ((k x r).2.2 c hc)
  refine #[#[λi z s hf m=>?_,λz hz hf m=>?_],.inr sr]
  .have s:(if i∈is then (g1 i).map bz else g1 i)=some z:=s
   by_cases q:i∈is
   .rw[if_pos q] at s
    obtain ⟨X,e0,e1⟩:=E8.mp s
    subst e1
    exact nr.1 i X e0 (λq=>hf (lentF_z.mpr q)) m
   .rw[if_neg q] at s
    exact nr.1 i z s hf m
  .obtain ⟨X,h0,rfl⟩:=Fo.mp hz
   exact nr.2 X h0 (λq=>hf (lentF_z.mpr q)) m
 have w3:Wf K (fj G H1 g1 is) H1 O (aL dB is Z1) (els++(Ts++T).map bz) (λj=>if j∈is then (g1 j).map bz else g1 j):=w2.pushAll λx r=>#[(k x r).1,(k x r).2.1,λc hc=>kid x r c hc]
 have w4:=w3.cap F
 cases U:bf bnd c elt p.2 (sU ix (aL dB is Z1)) with
 | none=>rw[U] at e1;exact nsE e1
 | some rr =>
  obtain ⟨o2,τρ⟩:=rr
  rw[U] at e1
  cases o2 with
  | error x=>exact nsE e1
  | ok ds =>
   dsimp only at e1
   split at e1
   .rename_i hlen
    cases τ:uncap ix τρ (aL dB is Z1) with
    | none=>rw[τ] at e1;exact nsE e1
    | some Z3 =>
     rw[τ] at e1
     have eo:o=.ok (.val (.lst ds) .u)/\Z'=aL iK is Z3:=by cases e1;exact #[rfl,rfl]
     obtain ⟨eo,eρ⟩:=eo
     refine we (K:=K) (Gc:=zh (fj G H1 g1 is) ix O) (els:=els) (M:=λ_=>False) (ys:=ys) hz (λx r=>#[Fb _ (E9 _ r),(k x r).1]) (λH' hk=>walk _ H' hM hk A) rfl V (λO' H Q q=>zN (G1:=zh (fj G H1 g1 is) ix O) rfl q) (λO' H Q q=>zV (G1:=zh (fj G H1 g1 is) ix O) rfl q) hlen w4 U λus Y' H' g' t I w5=>?_
     obtain ⟨g6,w6⟩:=Wf.uncap w3 (λb o h=>h) F τ t w5
     have w7:=Wf.leave (T:=Ts++T) (T':=T) (R:=us) n B (Fm Ts T) (w6.sub ((List.Sublist.refl us).append (by
      rw[List.map_append]
      exact (Fm (Ts.map bz) (T.map bz)).trans (Fm els _))))
     have hle:us.length<=16777216:=by
      have h1:us.length=ds.length:=by rw[<- I,Fh]
      have h2:=kU U
      lia
     rw[<- eρ] at w7
     exact hZ us H' _ Ts ds eo t I hle w7
   .exact nsE e1
theorem ot {us:List It3} (w:Wf K G H O Z (us++T) g) (j:∀ x∈us,x.f=.z) (b:H p=none) :
  Wf K G (upd H p (.lst (us.map (·.v)))) O Z (#[.lst (us.map (·.d)),.ref p,p::(us.map (·.L)).flatten,.u]::T) g:=by
 have hi:∀ y∈us,Itm (us++T) g y/\y.f=.z:=λy i=>#[.inr (E9 _ i),j y i]
 have np:p ∉ (us.map (·.L)).flatten:=λa=>by
  obtain ⟨y,hm,a⟩:=gc a
  obtain ⟨o,k⟩:=((w.itm (hi y hm).1).rep.inH p a).ex
  rw[b] at k;exact nsE k
 have n:New K H (upd H p (.lst (us.map (·.v)))) (d6 us) ⟨.lst (us.map (·.d)),.ref p,p::(us.map (·.L)).flatten,.u⟩:=⟨ce b,.lst bu ((lQ λy i=>(w.itm (hi y i).1).rep).same (ce b)),λc a=>by
  rcases Fc.mp a with e | a
  .rw[e];exact .inl b
  .exact .inr (gc a),λ_=>⟨rfl,p,_,rfl,rfl,np,b⟩⟩
 exact (w.push n λc h=>w.alls hi h).sub (List.Sublist.cons_cons _ (Fm us T))
theorem zX (hz:(16777216:Nat)=sizeLine) (f:Inj ix) (l:Bnd K (bq ix).pr tg bnd) (h:tE K G0 W0 (a7 im bnd c elt ix) O H Q) :
  B0 (tI K G0 W0 im) tg (tT K (bq ix) noX c) (tE K (bq ix) noX elt) ix O H Q:=by
 refine h.use λG W le Z T g o Z' w e q=>?_
 refine rg hz f l le w e q.err λus H' g' Ts ds i a b hl k=>?_
 subst i b
 intro p j
 have m:=ot k a j
 exact q (.ref p) _ #[[_],g',m,Ar.val (#[.lst (us.map (·.d)),.ref p,p::(us.map (·.L)).flatten,.u]:It3)]
set_option tactic.hygienic true in
theorem rV {i:Nat} (hz:(16777216:Nat)=sizeLine) (l:Inj ix) (v:Bnd K (bq ix).pr tg bnd) (s:G0.pr i=false) (h:tS K G0 W0 (aN i (a7 im bnd c elt ix)) E O H) :
  B7 i (tI K G0 W0 im) tg (tT K (bq ix) noX c) (tE K (bq ix) noX elt) ix E O H:=by
 refine h.use λG W le Z T g r Z' w e q=>?_
 unfold aN ag at e
 cases e1:a7 im bnd c elt ix Z with
 | none=>rw[e1] at e;exact nsE e
 | some pr =>
  obtain ⟨o,Z1⟩:=pr
  rw[e1] at e
  have a:∀ x,o=.error x->W x Z1:=λx n=>by subst n;cases e;exact q
  refine rg hz l v le w e1 a λus H' g' Ts ds m b j hl t=>?_
  subst m j
  intro p k
  have y:=ot t b k
  have e:(if i < Z1.length then some ((.ok .nx,Z1.set i (some (D.lst (us.map (·.d)),Fl.u))):Except D Flw×Sto) else none)=some (r,Z'):=e
  split at e
  .rename_i hi
   cases e
   exact q _ _ _ (y.store (f:=.u) hi (by rw[le.pr];exact s) (.inl rfl) (by intro h;cases h))
  .exact nsE e
end
section
variable {K:FG} {G G0:Gm} {W W0:D->Sto->Prop} {H H':Hp} {O:St} {Z Z':Sto} {T T':List It3} {g:Nat->Option It3} {x y z:It3} {α β:Type}
theorem Wf.mutate {i:Nat} (w:Wf K G H O Z T g) (B:g i=some y) (hu:y.f=.u) (ev:y.v=.ref a) (hm:kh d'=true) (rep:Rep K (upd H a o') d' (.ref a) (a::A)) (na:a ∉ A) (R:∀ c∈A,eF T g c/\(G.H0 c=none\/G.src c)):Wf K G (upd H a o') O (Z.set i (some (d',.u))) T (λj=>if j=i then some #[d',.ref a,a::A,.u] else g j):=by
 have hfz:y.f≠.z:=by rw[hu];intro q;cases q
 have N:=w.okS i y B
 obtain ⟨_,a',L',v1,v2,v3,v4⟩:=N.own hfz
 rw[ev] at v1;cases v1
 have hi:i < Z.length:=by
  have:=w.sl i
  rw[B] at this
  exact il this.symm
 have ma:MutAt H a:=N.rep.inH a (by rw[v2];exact E5)
 have val:∀ j u,(if j=i then some (#[d',.ref a,a::A,.u]:It3) else g j)=some u->(j=i/\u=#[d',.ref a,a::A,.u])\/(j≠i/\g j=some u):=λj u h=>by
  by_cases q:j=i
  .rw[if_pos q] at h;cases h;exact .inl #[q,rfl]
  .rw[if_neg q] at h;exact .inr #[q,h]
 have keep:∀ u,ItOk K G H u->a ∉ u.L->ItOk K G (upd H a o') u:=λu ou hn=>ou.keep (M:=λb=>b=a) (λb o r n=>by rw[aF n];exact r) (λb e=>by rw[e];exact ma) λb r e=>hn (by rw[<- e];exact r)
 have Q:∀ j u,j≠i->g j=some u->a ∉ u.L:=λj u n e=>w.ss i j y u (Ne.symm n) B e hfz a ev
 have U:∀ u∈T,a ∉ u.L:=λu m=>(w.st i y B u m).1 hfz a ev
 have C:∀ b o,H b=some o->∃ σ,upd H a o' b=some σ:=λb o r=>by
  by_cases q:b=a
  .rw[q,bu];exact #[_,rfl]
  .rw[aF q];exact #[o,r]
 refine #[by rw[List.length_set];exact w.len,λj=>?_,λj u h=>?_,λj u h=>?_,λu m=>keep u (w.okT u m) (U u m),λj k p q n J X=>?_,λj u h t D=>?_,w.tt,λb o e n=>?_,w.pro,#[w.fx.frT,λj u h J hf b V=>?_,λb r=>?_,λb o r=>?_,λj u h hl=>?_]]
 .rw[dq hi]
  by_cases q:j=i
  .rw[if_pos q,if_pos q];rfl
  .rw[if_neg q,if_neg q];exact w.sl j
 .rcases val j u h with ⟨rfl,rfl⟩ | ⟨n,h⟩
  .rw[w.sv j y B,ev]
  .exact w.sv j u h
 .rcases val j u h with ⟨rfl,rfl⟩ | ⟨n,h⟩
  .refine #[rep,λ_=>#[hm,a,A,rfl,rfl,na,λ_=>v4 hu],λc d=>?_]
   rcases Fc.mp d with e | d
   .rw[e];exact N.src a (by rw[v2];exact E5)
   .exact (R c d).2
  .exact keep u (w.okS j u h) (Q j u n h)
 .rcases val j p J with ⟨E,ep⟩ | ⟨n1,l⟩
  .rcases val k q X with ⟨τ,eq⟩ | ⟨W,x⟩
   .exact absurd (E.trans τ.symm) n
   .rw[ep]
    intro _ c s
    cases s
    exact Q k q W x
  .rcases val k q X with ⟨τ,eq⟩ | ⟨W,x⟩
   .rw[eq]
    intro hf c s d
    rcases Fc.mp d with e | d
    .obtain ⟨_,b,L2,I,P,_⟩:=(w.okS j p l).own hf
     rw[s] at I;cases I
     exact Q j p n1 l (by rw[<- e,P];exact E5)
    .exact (R c d).1.1 j p l hf s
   .exact w.ss j k p q n l x
 .rcases val j u h with ⟨E,F⟩ | ⟨n,h'⟩
  .rw[F]
   refine #[λ_ c s=>by cases s;exact U t D,λhf c s d=>?_]
   rcases Fc.mp d with e | d
   .obtain ⟨_,b,L2,I,P,_⟩:=(w.okT t D).own hf
    rw[s] at I;cases I
    exact U t D (by rw[<- e,P];exact E5)
   .exact (R c d).1.2 t D hf s
  .exact w.st j u h' t D
 .have:b≠a:=λz=>by
   subst z
   rcases v4 hu with h | h
   .rw[e] at h;cases h
   .exact n h
  rw[aF this];exact w.base b o e n
 .rcases val j u h with ⟨E,F⟩ | ⟨n,h'⟩
  .subst E
   rw[F] at V
   cases V
   exact w.fx.frS j y B J hfz a ev
  .exact w.fx.frS j u h' J hf b V
 .obtain ⟨o,S⟩:=w.fx.bin b r
  exact C b o S
 .obtain ⟨ρ,S⟩:=w.fx.ob b o r
  exact C b ρ S
 .rcases val j u h with ⟨E,F⟩ | ⟨n,h'⟩
  .rw[F] at hl;cases hl
  .exact w.fx.lvS j u h' hl
def MutD (K:FG) (r:V->List V->Hp->VK->Prop) (f:D->List D->Option (D×D)):Prop:=∀ (a:Addr) (d:D) (b:List Addr) (as:List It3) (H:Hp) (Q:VK) (p:D×D),Rep K H d (.ref a) (a::b)->kh d=true->a ∉ b->(∀ x∈as,Rep K H x.d x.v x.L)->(∀ x∈as,a ∉ x.L)->f d (as.map (·.d))=some p ->
 (∀ (o':HO) (e:List Addr) (w:It3),Rep K (upd H a o') p.1 (.ref a) (a::e)->kh p.1=true->(∀ c∈e,c∈b\/d6 as c)->w.f=.z->w.d=p.2->Rep K (upd H a o') w.d w.v w.L->(∀ c∈w.L,c∈b\/d6 as c)->Q w.v (upd H a o'))->r (.ref a) (as.map (·.v)) H Q
def chk (ok:D->Bool) (i:Nat):M3 Unit:=λZ=>match (Z[i]?).join with
 | some (d,_)=>if ok d then some (.ok (),Z) else none
 | none=>none
theorem l4 {i:Nat} (e:ag (ac i) k Z=some (r,Z')):∃ p,(Z[i]?).join=some p/\k (.pl i) Z=some (r,Z'):=by
 unfold ag ac at e
 cases q:(Z[i]?).join with
 | none=>rw[q] at e;exact nsE e
 | some p=>rw[q] at e;exact #[p,rfl,e]
theorem zf {i:Nat} (e:ag (chk ok i) k Z=some (r,Z')):(∀ p,(Z[i]?).join=some p->ok p.1=true)/\k () Z=some (r,Z'):=by
 unfold ag chk at e
 grind
def vK (ok:D->Bool) (f:D->List D->Option (D×D)) (i:Nat) (ms:M3 (List R3)):EM:=ag (ac i) λ_=>ag (chk ok i) λ_=>ag ms λrs=>ag (gives rs) λds=>λZ=>match (Z[i]?).join with
 | some (d,.u)=>match f d ds with
  | some p=>some (.ok (.val p.2 .z),Z.set i (some (p.1,.u)))
  | none=>none
 | _=>none
theorem Wf.changed {i:Nat} {as us:List It3} (W:MutD K r f) (w:Wf K G H O Z (us++T) g) (e:(Z[i]?).join=some (d,.u)) (σ:O[i]?=some (some v)) (C:∀ y∈as,Itm (us++T) g y/\y.f=.z) (τ:f d (as.map (·.d))=some p) (q:∀ v H',Got K G O (Z.set i (some (p.1,.u))) T (.val p.2 .z) v H'->Q v H'):r v (as.map (·.v)) H Q:=by
 obtain ⟨y,A,M,F,n⟩:=w.slot e
 rw[σ] at n
 injection n with n
 injection n with n
 have hfz:y.f≠.z:=by rw[F];intro q;cases q
 have E:=w.okS i y A
 obtain ⟨m,a,D,v1,v2,v3,_⟩:=E.own hfz
 have ra:=E.rep
 rw[v1,v2,M] at ra
 rw[M] at m
 rw[n,v1]
 have na:∀ x∈as,a ∉ x.L:=λx o b=>by
  have:=(w.kid (C x o).1 b λhf=>absurd (C x o).2 hf).1 i y A hfz
  exact this v1
 refine W a d D as H Q p ra m v3 (λx o=>(w.itm (C x o).1).rep) na τ λo' U u S R s1 I X V B=>?_
 have k:∀ c,(c∈D\/d6 as c)->eF (us++T) g c/\(G.H0 c=none\/G.src c):=λc b=>by
  rcases b with b | b
  .have t:c∈y.L:=by rw[v2];exact E6 _ b
   exact #[w.kid (.inl #[i,A]) t λ_ l=>by rw[v1] at l;cases l;exact v3 b,E.src c t]
  .exact w.alls C b
 have J:∀ c,(c∈D\/d6 as c)->c≠a:=λc b z=>(k c b).1.1 i y A hfz (by rw[z];exact v1)
 have N:=w.mutate (o':=o') A F v1 R S (λh=>J a (s1 a h) rfl) λc b=>k c (s1 c b)
 have P:=N.pushAll (ws:=[u]) λx o=>by
  rw[FJ.mp o]
  refine #[I,V,λc b=>?_]
  have s:=k c (B c b)
  refine #[#[λj z l hf hz=>?_,s.1.2],s.2]
  have l:(if j=i then some (#[p.1,.ref a,a::U,.u]:It3) else g j)=some z:=l
  by_cases q:j=i
  .rw[if_pos q] at l
   cases l
   cases hz
   exact J a (B a b) rfl
  .rw[if_neg q] at l
   exact s.1.1 j z l hf hz
 rw[<- X,<- I] at q
 exact q u.v _ #[[u],_,P.sub ((List.Sublist.refl [u]).append (Fm us T)),.val u]
theorem CQ {i:Nat} (x:MutD K r f) (hok:∀ d v L H,ok d=true->Rep K H d v L->tyV K Ty v H) (h:tE K G0 W0 (vK ok f i ms) O H Q):tBM K Ty r (pS i) (tA K G0 W0 ms) O H Q:=by
 refine h.use λG W le Z T g o Z' w e q=>?_
 obtain ⟨B,k,e⟩:=l4 e
 obtain ⟨n,e⟩:=zf e
 obtain ⟨m,f0⟩:=B
 obtain ⟨y,t,C,I,j⟩:=w.slot k
 refine #[y.v,j,hok m y.v y.L H (n _ k) (by rw[<- C];exact (w.okS i y t).rep),?_]
 refine tA.seq le w e q.err λrs Z1 e1 vs H1 Ts g1 s a1=>?_
 obtain ⟨ds,Z2,g2,a,_,F,_,ys,D,f1,f2⟩:=a1.gives s e1
 subst f1 f2
 cases b:(Z2[i]?).join with
 | none=>rw[b] at a;exact nsE a
 | some p3 =>
  obtain ⟨A,E⟩:=p3
  rw[b] at a
  cases E with
  | u =>
   dsimp only at a
   cases c:f A (ys.map (·.d)) with
   | none=>rw[c] at a;exact nsE a
   | some p =>
    rw[c] at a
    cases a
    exact F.changed x b j D c q
  | l=>exact nsE a
  | z=>exact nsE a
def mr (t:V->V->V->Hp->(Hp->Prop)->Prop):V->List V->Hp->VK->Prop:=λx vs H Q=>∃ k v,vs=[k,v]/\t x k v H λH'=>Q .non H'
def p9 (f:D->List D->Option (D×D)) (i:Nat) (mk b:EM):SM:=ag b λa=>ag (ac i) λ_=>ag mk λc=>ag (gives [c,a]) λds=>λZ=>match (Z[i]?).join with
 | some (d,.u)=>match f d ds with
  | some p=>some (.ok .nx,Z.set i (some (p.1,.u)))
  | none=>none
 | _=>none
theorem CF {i:Nat} (L:MutD K (mr t) f) (h:tS K G0 W0 (p9 f i mk mv) E O H):wU (tE K G0 W0 mv) (gSub (pS i) (tE K G0 W0 mk) t) E O H:=by
 refine h.use λG W le Z T g r Z' w e q=>?_
 refine tE.seq le w e q.err λD Z1 e1 v H1 #[Ts,g1,m,a1]=>?_
 obtain ⟨N,I,e1⟩:=l4 e1
 obtain ⟨X,f0⟩:=N
 obtain ⟨y,τ,y2,U,k⟩:=m.slot I
 refine #[y.v,k,?_]
 .refine tE.seq le m e1 q.err λσ Z2 s o H2 #[Us,g2,S,a2]=>?_
  have A:Ars O [σ,D] [o,v] (([]++Ts)++Us):=.cons a2 (.cons a1 .nil)
  have n:Wf K G H2 O Z2 ((([]++Ts)++Us)++T) g2:=S.perm (by
   rw[List.nil_append,<- List.append_assoc]
   exact (List.perm_append_comm).append_right T)
  obtain ⟨ds,Z3,g3,a,_,C,_,ys,P,f1,f2⟩:=A.gives n s
  subst f1
  cases b:(Z3[i]?).join with
  | none=>rw[b] at a;exact nsE a
  | some p3 =>
   obtain ⟨M,R⟩:=p3
   rw[b] at a
   cases R with
   | u =>
    dsimp only at a
    cases j:f M (ys.map (·.d)) with
    | none=>rw[j] at a;exact nsE a
    | some p =>
     rw[j] at a
     cases a
     have:=C.changed (Q:=λ_ H'=>E.nx O H') L b k P j λJ H' #[x,g5,B,V]=>q _ _ _ (B.sub (Fm x T))
     rw[f2] at this
     obtain ⟨ρ,J,c,F⟩:=this
     cases c
     exact F
   | l=>exact nsE a
   | z=>exact nsE a
end
structure RE (X:Cx) (G0:Gm) (W0:D->Sto->Prop) (e:Expr) (m:EM):Prop where
 h:PE X e (tE X.K G0 W0 m)
structure RT (X:Cx) (G0:Gm) (W0:D->Sto->Prop) (e:Expr) (m:M3 Bool):Prop where
 h:PT X e (tT X.K G0 W0 m)
structure RW (X:Cx) (G0:Gm) (W0:D->Sto->Prop) (e:Expr) (m:M3 Bool):Prop where
 h:PW X e (tT X.K G0 W0 m)
structure RA (X:Cx) (G0:Gm) (W0:D->Sto->Prop) (es:List Expr) (m:M3 (List R3)):Prop where
 h:PA X es (tA X.K G0 W0 m)
structure RS (X:Cx) (G0:Gm) (W0:D->Sto->Prop) (s:Stmt) (m:SM):Prop where
 h:PS X s (tS X.K G0 W0 m)
structure RSs (X:Cx) (G0:Gm) (W0:D->Sto->Prop) (s:List Stmt) (m:SM):Prop where
 h:PSs X s (tS X.K G0 W0 m)
structure RI (X:Cx) (G0:Gm) (W0:D->Sto->Prop) (tg iter:Expr) (m:IM):Prop where
 h:PI X tg iter (tI X.K G0 W0 m)
structure RG (X:Cx) (pr:Nat->Bool) (target:Expr) (bnd:D->Sto->Option Sto):Prop where
 h:∃ tg,PG X target tg/\Bnd X.K pr tg bnd
structure RGs (X:Cx) (pr:Nat->Bool) (targets:List Expr) (bnd:List D->Sto->Option Sto):Prop where
 h:∃ tg,PGs X targets tg/\zG X.K pr tg bnd
theorem PE.imp (h:PE X e t) (f:∀ O H Q,t' O H Q->t O H Q):PE X e t':=λpins s O H Q I q=>h pins s O H Q I (f O H Q q)
theorem PT.imp (h:PT X e t) (f:∀ O H Q,t' O H Q->t O H Q):PT X e t':=λpins s O H Q I q=>h pins s O H Q I (f O H Q q)
theorem PW.imp (h:PW X e t) (f:∀ O H Q,t' O H Q->t O H Q):PW X e t':=λa pins s O H Q I q=>h a pins s O H Q I (f O H Q q)
theorem PA.imp (h:PA X e t) (f:∀ O H Q,t' O H Q->t O H Q):PA X e t':=λpos pins s O H Q I q=>h pos pins s O H Q I (f O H Q q)
theorem PS.imp (h:PS X e t) (f:∀ D O H,t' D O H->t D O H):PS X e t':=λpins s O H D I q=>h pins s O H D I (f D O H q)
theorem PSs.imp (h:PSs X e t) (f:∀ D O H,t' D O H->t D O H):PSs X e t':=λpins s O H D I q=>h pins s O H D I (f D O H q)
theorem PI.imp (h:PI X tg e t) (f:∀ O H R,t' O H R->t O H R):PI X tg e t':=λpins s O H R I q=>h pins s O H R I (f O H R q)
theorem szl:(16777216:Nat)=sizeLine:=by rw[sizeLine_eq]
section
variable {X:Cx} {G0:Gm} {W0:D->Sto->Prop} {a b c e:Expr} {es:List Expr} {pos:Pos} {ma mb mc m:EM} {ms:M3 (List R3)} {t u:M3 Bool} {iP:List Expr}
theorem oP (i:Nat) (c:X.N[i]?=some x) (b:Vis X.env.scope x) (hd:(x == ("__debug__":Str))=false) (a:(x == ("__classdict__":Str))=false):RE X G0 W0 (.Name x pos) (ac i):=#[PE.imp (mE c b hd a) λ_ _ _ h=>wR h]
theorem Do:RE X G0 W0 (.Constant (.int i) j pos) (mC (.int i)):=#[PE.imp DL λ_ _ _ h=>jS (λ_=>.int i) h]
theorem re_bl:RE X G0 W0 (.Constant (.bool i) j pos) (mC (.bl i)):=#[PE.imp pe_bl λ_ _ _ h=>jS (λ_=>.bl i) h]
theorem Dm:RE X G0 W0 (.Constant .none j pos) (mC .non):=#[PE.imp DJ λ_ _ _ h=>jS (λ_=>.non) h]
theorem qf {i:Int} (hg:Gl X x) (hm:X.mg x=some (.int i tk)) (hd:(x == ("__debug__":Str))=false):RE X G0 W0 (.Name x pos) (mC (.int i)):=#[PE.imp (AQ (v:=V.int i) hg hm #[_,rfl] hd) λ_ _ _ h=>jS (λ_=>.int i) h]
theorem jK (c:OpR X (binaryOp op) r) (hd:OpD X.K r f) (e:RE X G0 W0 a ma) (d:RE X G0 W0 b mb):RE X G0 W0 (.BinOp a op b pos) (ah f ma mb):=#[PE.imp (pe_op c e.h d.h) λ_ _ _ h=>kF hd h]
theorem re_un (b:UnR X (unaryOp op) r) (hd:UnD X.K r f) (c:RE X G0 W0 a ma):RE X G0 W0 (.UnaryOp op a pos) (mUn f ma):=#[PE.imp (pe_un b c.h) λ_ _ _ h=>BY hd h]
theorem oQ (c:OpR X (compareOp op) r) (hd:OpD X.K r f) (e:RE X G0 W0 a ma) (d:RE X G0 W0 b mb) (hm:behindInMarks op b=false):RE X G0 W0 (.Compare a [op] [b] pos) (ah f ma mb):=#[PE.imp (AS c e.h d.h hm) λ_ _ _ h=>kF hd h]
theorem re_ix (d:IxR X r) (hd:OpD X.K r f) (g:RE X G0 W0 a ma) (e:RE X G0 W0 b mb) (c:uZ b):RE X G0 W0 (.Subscript a b pos) (ah f ma mb):=#[PE.imp (pe_ix d g.h e.h c) λ_ _ _ h=>kF hd h]
theorem Dp (d:RE X G0 W0 a ma) (c:RE X G0 W0 (.BoolOp .And (b::iP) pos) mb):RE X G0 W0 (.BoolOp .And (a::b::iP) pos) (ke ma mb):=#[PE.imp (DM d.h c.h) λ_ _ _ h=>CT h]
theorem Dk (h:RE X G0 W0 a ma):RE X G0 W0 (.BoolOp op [a] pos) ma:=#[DH h.h]
theorem Dl (b:RE X G0 W0 a ma):RE X G0 W0 (.UnaryOp .Not a pos) (Ek ma):=#[PE.imp (DI b.h) λ_ _ _ h=>CP h]
theorem re_if (d:RT X G0 W0 c t) (f:RE X G0 W0 a ma) (e:RE X G0 W0 b mb):RE X G0 W0 (.IfExp c a b pos) (mIf t ma mb):=#[PE.imp (xQ d.h f.h e.h) λ_ _ _ h=>tE_if h]
def ff (f a:D->D->Option (D×Fl)) (ma mb mc:EM):EM:=ag ma λra=>ag mb λrb=>ag (der ra) λda=>ag (der rb) λdb=>ag (bm ((f da db).bind λp=>asB p.1)) λk=>if k then ag mc λrc=>ag (der rb) λdb=>ag (der rc) λb=>bm ((a db b).map λp=>R3.val p.1 p.2) else a9 (.val (.bl false) .z)
theorem C9 (b:RE X G0 W0 a ma) (he:∀ whole,isTrue a X.env whole=(do let v <- whole;standAt a.pos;holding [v] (truthy v))):RT X G0 W0 a (cB ma):=#[PT.imp (Dx b.h he) λ_ _ _ h=>CC h]
theorem rt_w (h:RW X G0 W0 a t):RT X G0 W0 a t:=#[h.h.pt]
theorem z9 (b:RT X G0 W0 a t):RW X G0 W0 (.BoolOp .And [a] pos) t:=#[Ax b.h]
theorem C2 (b:RT X G0 W0 a t):RW X G0 W0 (.BoolOp .Or [a] pos) t:=#[Du b.h]
theorem C3 (d:RT X G0 W0 a t) (c:RW X G0 W0 (.BoolOp .And (b::iP) pos) u):RW X G0 W0 (.BoolOp .And (a::b::iP) pos) (jx t u):=#[PW.imp (Dv d.h c.h) λ_ _ _ h=>CD h]
theorem rw_or (d:RT X G0 W0 a t) (c:RW X G0 W0 (.BoolOp .Or (b::iP) pos) u):RW X G0 W0 (.BoolOp .Or (a::b::iP) pos) (cOr t u):=#[PW.imp (pw_or d.h c.h) λ_ _ _ h=>tT_or h]
theorem Da (b:RT X G0 W0 a t):RT X G0 W0 (.UnaryOp .Not a pos) (jf t):=#[PT.imp (Dy b.h) λ_ _ _ h=>CB h]
theorem Dr:RA X G0 W0 [] aj:=#[PA.imp xS λ_ _ _ h=>CV h]
theorem Av (c:RE X G0 W0 e m) (b:RA X G0 W0 es ms) (a:starEach (e::es) X.env=(false,eval e X.env)::starEach es X.env):RA X G0 W0 (e::es) (aa m ms):=#[PA.imp (oY c.h b.h a) λ_ _ _ h=>zY h]
theorem Dj (h:RA X G0 W0 es ms):RE X G0 W0 (.Tuple es x1 pos) (ig ms):=#[PE.imp (DG h.h) λ_ _ _ h=>CO szl h]
theorem Dn (h:RA X G0 W0 es ms):RE X G0 W0 (.List es pos) (iH ms):=#[PE.imp (DK h.h) λ_ _ _ h=>CS szl h]
theorem eM {id:String} (d:dU X (.builtin id) r) (hd:iF X.K r f) (hg:Gl X x) (hm:X.mg x=none) (g:bootBuiltins x=some (.builtin id)) (c:RA X G0 W0 (e::es) ms) (hn:x≠"__name__") (b:(x == ("__debug__":Str))=false) (he:starEach (e::es) X.env=(false,eval e X.env)::starEach es X.env) (a:(backTo pos (starEach es X.env)).any (·.1)=false):RE X G0 W0 (.Call (.Name x p) (e::es) [] pos) (ay f ms):=#[PE.imp (qp d hg hm g c.h hn b he a) λ_ _ _ h=>pV hd h]
theorem nW (d:dU X (.type T) r) (hd:iF X.K r f) (hg:Gl X x) (hm:X.mg x=none) (g:bootBuiltins x=some (.type T)) (c:RA X G0 W0 (e::es) ms) (hn:x≠"__name__") (b:(x == ("__debug__":Str))=false) (he:starEach (e::es) X.env=(false,eval e X.env)::starEach es X.env) (a:(backTo pos (starEach es X.env)).any (·.1)=false):RE X G0 W0 (.Call (.Name x p) (e::es) [] pos) (ay f ms):=#[PE.imp (vt d hg hm g c.h hn b he a) λ_ _ _ h=>pV hd h]
variable {st:Stmt} {sts:List Stmt} {sm sn:SM}
theorem Ah:RSs X G0 W0 [] cU:=#[PSs.imp AD λ_ _ _ h=>CI h]
theorem xo (h1:RS X G0 W0 st sm) (h2:RSs X G0 W0 sts sn):RSs X G0 W0 (st::sts) (aB sm sn):=#[PSs.imp (xF h1.h h2.h) λ_ _ _ h=>CG h]
theorem Ag (h1:RS X G0 W0 st sm):RSs X G0 W0 [st] sm:=#[AC h1.h]
theorem Ai (he:RE X G0 W0 e m) (a:swapsWith e none pos.line X.env=pure false):RS X G0 W0 (.Expr e pos) (dZ m):=#[PS.imp (AE he.h a) λ_ _ _ h=>zO h]
theorem Dc (np:Nat) (a:∀ i,np<=i->G0.pr i=false) (he:RE X G0 W0 e m):RS X G0 W0 (.Return (some e) pos) (aT np m):=#[PS.imp (DA he.h) λ_ _ _ h=>CH a h]
theorem rs_if (a:RT X G0 W0 c t) (d:RSs X G0 W0 x sm) (b:RSs X G0 W0 y sn):RS X G0 W0 (.If c x y pos) (sIf t sm sn):=#[PS.imp (ps_if a.h d.h b.h) λ_ _ _ h=>tS_if h]
theorem xq (i:Nat) (b:X.N.Nodup) (hi:X.N[i]?=some x) (d:Loc X.env.scope x) (he:RE X G0 W0 e m) (c:swapsWith e (some (.Name x pos')) pos.line X.env=pure false) (hf:X.fn x=true\/X.env.scope.names.lookup x=some .local) (a:G0.pr i=false):RS X G0 W0 (.Assign [.Name x pos'] e pos) (aN i m):=#[PS.imp (Dz b hi d he.h c hf) λ_ _ _ h=>wQ a h]
theorem xp (d:PassesOwn (model X.prog X.w) X.A X.env X.xe) (a:RT X G0 W0 c t) (b:RSs X G0 W0 body sm):RS X G0 W0 (.While c body [] pos) (iN t sm):=#[PS.imp (xG d a.h b.h) λ_ _ _ h=>wP h]
theorem Dd (a:PassesOwn (model X.prog X.w) X.A X.env X.xe) (c:X.calm=true) (hi:RI X G0 W0 tg iter im) (hg:RG X G0.pr tg bnd) (d:RSs X G0 W0 body sm) (b:∀ x,foldedSetIterable iter X.env x=pure x):RS X G0 W0 (.For tg iter body [] pos) (dw im bnd sm):=by
 obtain ⟨g,h1,h2⟩:=hg.h
 exact #[PS.imp (DB a c hi.h h1 d.h b) λ_ _ _ h=>CJ h2 h]
theorem tZ (i:Nat) (b:X.N.Nodup) (hi:X.N[i]?=some x) (c:Loc X.env.scope x) (hf:X.fn x=true\/X.env.scope.names.lookup x=some .local) (a:pr i=false):RG X pr (.Name x pos) (ao i):=#[_,jn b hi c hf,gj a]
theorem Aq:RGs X pr [] rJ:=#[_,ue,rE]
theorem xx (h1:RG X pr e bn) (h2:RGs X pr es bs) (a:(assignEach (e::es) X.env).map (·.2)=assign e X.env::(assignEach es X.env).map (·.2)):RGs X pr (e::es) (fK bn bs):=by
 obtain ⟨g,a1,a2⟩:=h1.h
 obtain ⟨b,b1,b2⟩:=h2.h
 exact #[_,mD a1 b1 a,k6 a2 b2]
theorem Dh {k n:Nat} (b:X.calm=true) (h:RGs X pr es bs) (hn:(assignEach es X.env).length=n) (a:(assignEach es X.env).findIdx? (·.1)=none):RG X pr (.Tuple es k pos) (rH n bs):=by
 obtain ⟨c,b1,b2⟩:=h.h
 exact #[_,xN b b1 hn a,uT b2]
theorem At (NY:List Str) (ix:List (Option Nat)) (g:X.calm=true) (hi:RI X G0 W0 tg iter im) (d:∀ s H C fp,PTs (aP X NY scope s H C fp) ifs (tT X.K (bq ix) noX cm)) (he:∀ s H C fp,RE (aP X NY scope s H C fp) (bq ix) noX elt em) (e:jb scope X.N X.env.scope NY ix=true) (c:Inj ix) (f:∀ x,foldedSetIterable iter X.env x=pure x) (b:∃ a,Bnd X.K (bq ix).pr a bnd/\∀ s H C fp,PG (aP X NY scope s H C fp) tg a):RE X G0 W0 (.ListComp elt [#[tg,iter,ifs,0]] scope pos) (a7 im bnd cm em ix):=by
 obtain ⟨a,b1,b2⟩:=b
 exact #[PE.imp (AR NY ix g hi.h b2 d (λs H C fp=>(he s H C fp).h) e f) λ_ _ _ h=>zX szl c b1 h]
end
noncomputable def am (F:Fn) (ms:M3 (List R3)):EM:=ag ms λrs=>λZ=>match prs (frz (qZ rs) Z) rs with
 | none=>none
 | some ps=>match F ps with
  | none=>none
  | some (.ok p,qs)=>if qs.length=ps.length then some (.ok (.val p.1 p.2),back rs ps qs (frz (qZ rs) Z)) else none
  | some (.error _,_)=>none
def vd (K:FG) (F:Fn):Sp:=λvs H Q _=>∃ (ps:List It3) (p:D×Fl) (fs:List (D×Fl)),vs=ps.map (·.v)/\(∀ p∈ps,Arg K H p)/\ps.Pairwise Apart3/\F (ps.map λp=>(p.d,p.f))=some (.ok p,fs) /\
 ∀ x qs H',Behind K H H' ps qs x->x.d=p.1->x.f=p.2->qs.map (λq=>(q.d,q.f))=fs->Q x.v H'
section
variable {K:FG} {G G0:Gm} {W W0:D->Sto->Prop} {H H':Hp} {O:St} {Z Z':Sto} {T T':List It3} {g:Nat->Option It3} {x y z:It3} {α β:Type}
theorem wS (h:tE K G0 W0 (am F ms) O H Q):tA K G0 W0 ms O H λvs H1=>vd K F vs H1 Q E0:=by
 refine h.use λG W le Z T g o Z' w e q=>?_
 refine tA.seq le w e q.err λrs Z1 e1 vs H1 Ts g1 s a1=>?_
 obtain ⟨g2,d,C⟩:=Wf.frz (is:=qZ rs) s
 cases j:prs (L3.frz (qZ rs) Z1) rs with
 | none=>rw[j] at e1;exact nsE e1
 | some pfs =>
  rw[j] at e1
  dsimp only at e1
  have hd:∀ i,2<=(pls rs).count i->∀ y,g2 i=some y->y.f=.z:=λi A y n=>by
   have hm:i∈qZ rs:=FL.mpr #[List.count_pos_iff.mp (by lia),by simpa using A]
   have s1:=d.sl i
   rw[n] at s1
   have N:∃ y0,g1 i=some y0:=by
    cases u:g1 i with
    | some y0=>exact #[y0,rfl]
    | none =>
     exfalso
     have s2:=s.sl i
     rw[u] at s2
     have:=qV (is:=qZ rs) s2.symm
     rw[this] at s1
     cases s1
   obtain ⟨y0,l⟩:=N
   obtain ⟨S,b,_,σ⟩:=C i y0 l
   rw[n] at b
   cases b
   exact σ hm
  obtain ⟨ps,f1,f2,P,f4,M⟩:=Ars.args a1 d hd j
  have hit:∀ p∈ps,Itm (Ts++T) g2 p:=λp k=>by
   rcases f4 p k with ⟨i,_,I⟩ | h
   .exact .inl #[i,I]
   .exact .inr (E9 _ h)
  have c:∀ p∈ps,Arg K H1 p:=λp k=>⟨(d.itm (hit p k)).rep,λhf=>by
   obtain ⟨m,a,L',v1,v2,v3,_⟩:=(d.itm (hit p k)).own hf
   exact ⟨m,a,L',v1,v2,v3⟩⟩
  subst f2
  cases b:F pfs with
  | none=>rw[b] at e1;exact nsE e1
  | some r =>
   obtain ⟨out,fs⟩:=r
   rw[b] at e1
   cases out with
   | ok p =>
    dsimp only at e1
    split at e1
    .cases e1
     refine #[ps,p,fs,rfl,c,P,by rw[f1];exact b,?_]
     intro x qs H' B J E L
     obtain ⟨g',R,D⟩:=Wf.after d j f1 f4 M B.toBehindX
     have t:=D x B.rep B.own B.src B.apx
     rw[L] at t
     rw[<- J,<- E] at q
     exact q x.v H' #[[x],g',t,.val x]
    .exact nsE e1
   | error er=>exact nsE e1
def fh (b:Bool) (p:It3):It3:=if b then dY p else p
theorem oh:∀ {mask:List Bool} {ps:List It3},(List.zipWith fh mask ps).map (λp=>(p.d,p.f))=List.zipWith vM mask (ps.map λp=>(p.d,p.f))
 | [],_=>rfl
 | _::_,[]=>rfl
 | b::mask,p::ps=>by
  simp only[List.zipWith_cons_cons,Fv,oh]
  cases b <;> rfl
theorem vL {i:Nat} (h:(List.zipWith fh mask ps)[i]?=some q):∃ b p,mask[i]?=some b/\ps[i]?=some p/\q=fh b p:=by grind
theorem qL {i:Nat} (hl:ps.length=mask.length) (h:ps[i]?=some p):∃ b,mask[i]?=some b/\(List.zipWith fh mask ps)[i]?=some (fh b p):=by
 have hi:i < mask.length:=by have:=(Fi.mp h).1;omega
 simp_all
theorem fg (b:Bool) (p:It3):(fh b p).d=p.d/\(fh b p).v=p.v/\(fh b p).L=p.L/\((fh b p).f=p.f\/(fh b p).f=.z):=by
 cases b
 .exact #[rfl,rfl,rfl,.inl rfl]
 .exact #[rfl,rfl,rfl,.inr rfl]
theorem NoRoot.low (h:NoRoot a b) (g:a'.v=a.v) (hf:a'.f=a.f\/a'.f=.z) (d:b'.L=b.L):NoRoot a' b':=λq c e=>by
 rw[d]
 rcases hf with f | f
 .exact h (by rw[<- f];exact q) c (by rw[<- g];exact e)
 .exact absurd f q
def prM (mask:List Bool) (i:Nat):Bool:=match mask[i]? with
 | some b=>!b
 | none=>false
theorem Bf {f:α->β} {l:List α} {i:Nat} {a:α} (h:l[i]?=some a):(l.map f)[i]?=some (f a):=by rw[Fp,h];rfl
set_option tactic.hygienic true in
theorem uB {n:Nat} (hn:mask.length<=n) (h:vd K (fnM mask n m) vs H Q E) :
  ∃ G:Gm,G.pr=prM mask/\tS K G noX m { nx:=λ_ H'=>Q .non H',rt:=Q } (vs.map some++List.replicate (n - vs.length) none) H:=by
 obtain ⟨ps,p,fs,rfl,ha,hp,l,q⟩:=h
 unfold fnM at l
 rw[Fh] at l
 split at l
 .rename_i hl
  rw[<- oh] at l
  generalize w:List.zipWith fh mask ps=g at l
  have T:g.length=ps.length:=by rw[<- w,List.length_zipWith];lia
  have R:g.map (·.v)=ps.map (·.v):=by
   refine List.ext_getElem? λi=>?_
   rw[Fp,Fp]
   cases e:ps[i]? with
   | none=>rw[List.getElem?_eq_none (by have:=List.getElem?_eq_none_iff.mp e;lia)]
   | some u =>
    obtain ⟨b,_,t⟩:=qL (mask:=mask) hl e
    rw[w] at t
    rw[t]
    show some (fh b u).v=some u.v
    rw[(fg b u).2.1]
  have up:∀ (i:Nat) (u:It3),g[i]?=some u->∃ b s,mask[i]?=some b/\ps[i]?=some s/\u=fh b s:=λi u e=>by rw[<- w] at e;exact vL e
  have A:∀ u∈g,∃ b s,s∈ps/\u=fh b s:=λu hu=>by
   obtain ⟨i,hi,e⟩:=List.mem_iff_getElem.mp hu
   obtain ⟨b,s,_,t,y⟩:=up i u (by rw[Fd hi,e])
   exact #[b,s,Fj t,y]
  have P:∀ u∈g,Arg K H u:=λu hu=>by
   obtain ⟨b,s,h0,rfl⟩:=A u hu
   obtain ⟨e1,t,y,V⟩:=fg b s
   refine #[by rw[e1,t,y];exact (ha s h0).rep,λhf=>?_]
   rw[e1,t,y]
   refine (ha s h0).own λz=>hf ?_
   rcases V with f | f
   .rw[f];exact z
   .exact f
  have I:g.Pairwise Apart3:=by
   rw[List.pairwise_iff_getElem]
   intro i j hi hj lt
   obtain ⟨b,s,_,t,y⟩:=up i _ (Fd hi)
   obtain ⟨F,τ,_,ar,ab⟩:=up j _ (Fd hj)
   have ap:=dP hp (λ_ _=>Apart3.symm) (Ft lt) t ar
   rw[y,ab]
   obtain ⟨_,a2,ρ,S⟩:=fg b s
   obtain ⟨_,b2,b3,b4⟩:=fg F τ
   exact #[ap.1.low a2 S b3,ap.2.low b2 b4 ρ]
  have M:∀ (i:Nat) (u:It3),g[i]?=some u->u.f≠.z->prM mask i=true:=λi u e hf=>by
   obtain ⟨b,s,e1,t,y⟩:=up i u e
   unfold prM
   rw[e1]
   cases b with
   | false=>rfl
   | true=>rw[y] at hf;exact absurd rfl hf
  have alls:∀ c,d6 g c->d6 ps c:=λc #[u,hu,J]=>by
   obtain ⟨b,s,h0,rfl⟩:=A u hu
   exact #[s,h0,by rw[<- (fg b s).2.2.1];exact J]
  have lift:∀ {H':Hp} {qs:List It3},BehindX K H H' g qs->BehindX K H H' ps qs:=λ{H' qs} B=>by
   refine #[λb o hb hn=>B.frame b o hb λu hu hf R=>?_,Paired.ofGet ?_ λk u v eu ev=>?_,B.apart]
   .obtain ⟨F,s,h0,rfl⟩:=A u hu
    obtain ⟨_,t,_,V⟩:=fg F s
    rcases V with f | f
    .exact hn s h0 (by rw[<- f];exact hf) (by rw[<- t];exact R)
    .rw[f] at hf;cases hf
   .rw[<- T];exact Paired.length B.back
   .obtain ⟨b,_,t⟩:=qL (mask:=mask) hl eu
    rw[w] at t
    have b1:=Paired.at B.back t ev
    obtain ⟨a1,a2,ρ,S⟩:=fg b u
    refine #[λhz=>?_,by rw[b1.v,a2],?_,b1.arg,λc J=>(b1.src c J).imp id (alls c),λhf F σ=>?_]
    .have:fh b u=u:=by
      cases b
      .rfl
      .obtain ⟨d,v,L,f⟩:=u
       have hz:f=.z:=hz
       subst hz;rfl
     rw[<- this]
     exact b1.z (by rw[this];exact hz)
    .rcases b1.f with h | h
     .rcases S with f | f
      .exact .inl (h.trans f)
      .exact .inr (h.trans f)
     .exact .inr h
    .rcases S with f | f
     .exact b1.there (by rw[f];exact hf) F (by rw[a2];exact σ)
     .-- lowered: as it was
      obtain ⟨_,a,L',v1,v2,_⟩:=(ha u (Fj eu)).own (by rw[hf];intro q;cases q)
      rw[σ] at v1;cases v1
      have X:=b1.z f
      have r:=b1.arg.rep
      rw[X,a1,a2,ρ] at r
      exact (r.inH F (by rw[v2];exact E5)).ex
  have U:g.length<=n:=by lia
  have wf:=wD (K:=K) (H:=H) (n:=n) (pr:=prM mask) U P I M
  rw[R] at wf
  refine #[gOf H (prM mask) ((ps.map (·.v)).map some++List.replicate (n - (ps.map (·.v)).length) none) g,rfl,?_]
  have h0:∀ (i:Nat) (u:It3),g[i]?=some u->((ps.map (·.v)).map some++List.replicate (n - (ps.map (·.v)).length) none)[i]?=some (some u.v):=λi u e=>nN (by rw[<- R];exact Bf e)
  unfold fn0 at l
  cases e:m (lw n (g.map λp=>(p.d,p.f))) with
  | none=>rw[e] at l;exact nsE l
  | some rr =>
   obtain ⟨r,Z2⟩:=rr
   rw[e] at l
   refine tS.mk (r:=r) (Le.refl K _ _) wf e ?_
   have fin:∀ {x:It3} {O':St} {H':Hp} {g':Nat->Option It3} {d:D} {f:Fl},Wf K (gOf H (prM mask) ((ps.map (·.v)).map some++List.replicate (n - (ps.map (·.v)).length) none) g) H' O' Z2 [x] g'->x.d=d->x.f=f ->
     ((ju Z2 0 (g.map λp=>(p.d,p.f))).map λfs=>((.ok (d,f),fs):Except D (D×Fl)×List (D×Fl)))=some (.ok p,fs)->Q x.v H':=λ{x O' H' g' d f} N xd xf l=>by
    cases C:ju Z2 0 (g.map λp=>(p.d,p.f)) with
    | none=>rw[C] at l;exact nsE l
    | some fs' =>
     rw[C] at l
     cases l
     obtain ⟨qs,B,X⟩:=tu (n:=n) P I M h0 N C
     have BX:=lift B.toBehindX
     exact q x qs H' #[BX,B.rep,B.own,λc J=>(B.src c J).imp id (alls c),B.apx] xd xf X
   cases r with
   | error er=>
    dsimp only at l
    cases C:ju Z2 0 (g.map λp=>(p.d,p.f)) with
    | none=>rw[C] at l;exact nsE l
    | some fs'=>rw[C] at l;cases l
   | ok fl =>
    cases fl with
    | nx =>
     intro O' H' g' N
     obtain ⟨Ts,g2,w2,a2⟩:=N.const .non
     obtain ⟨x,rfl,W,x2,x3⟩:=a2.val_inv
     have:=fin w2 W x2 l
     rw[x3] at this
     exact this
    | br=>exact nsE l
    | ct=>exact nsE l
    | rt d f =>
     intro x O' H' g' N W x2
     exact fin N W x2 l
 .exact nsE l
end
abbrev aA (P:Program) (w:World) (K:FG) (mg:Str->Option Value) (base:Heap) (x:Str) (k:Nat) (ps:List Str) (F:Fn):Prop:=Callee P w K mg base x k ps (vd K F)
theorem aE {k:Nat} {nn:Nat} (D:Def K mg x st) (S:FnScope N ps (ai st)) (c:mask.length=ps.length) (b:N.length=nn) (e:∀ (kV doc pm:Value) (an:Option Addr) (a ct:Value) (us:List Value),us.length=ps.length->bindArgs (PySem.W.fnOf x x (aY st) (aS st) (ai st) .none kV doc pm an a ct) #[us,[]]=pure (ps.zip us)) (body:∀ (a:Value) (A:Around) (outer:List Env) (s:Shared) (H:Hp) (E:XK) (f:Addr) (G:Gm),Room k (A.deeper (PyProof.Rows.envOfC x (ai st) s.heap.objs.size f a))->G.pr=prM mask->RSs (q9 CX0 P w K mg base N x (ai st) f a A outer s H E).nox G noX (aS st) m) :
  aA P w K mg base x (k+1) ps (fnM mask nn m):=by
 refine D.callee e λf fd F=>F.ok S (λvs H Q E h=>?_) λa A outer s H vs Q E j h=>?_
 .obtain ⟨d,p,fs,rfl,_,_,l,_⟩:=h
  unfold fnM at l
  grind
 .have hle:mask.length<=nn:=by
   rw[c,<- b]
   have:=congrArg List.length S.pre
   rw[FF] at this
   omega
  obtain ⟨G,g,i⟩:=uB hle h
  subst b
  exact #[_,(body a A outer s H E f G j g).h,i]
theorem Au {k:Nat} (c:aA X.prog X.w X.K X.mg X.base x k ps F) (d:Room k X.A) (f:RA X G0 W0 (e::es) ms) (hg:Gl X x) (b:(x == ("__debug__":Str))=false) (he:starEach (e::es) X.env=(false,eval e X.env)::starEach es X.env) (a:(backTo pos (starEach es X.env)).any (·.1)=false):RE X G0 W0 (.Call (.Name x p) (e::es) [] pos) (am F ms) :=
 #[PE.imp (pe_fn c d f.h hg b he a) λ_ _ _ h=>wS h]
def orD (f g:D->D->Option (D×Fl)) (a b:D):Option (D×Fl):=match f a b with
 | some p=>some p
 | none=>g a b
section
variable {K:FG} {H:Hp} {Ks:Addr->Prop} {d:D} {v:V} {L:List Addr} {X:Cx}
theorem eg (r:Rep K H d v []):New K H H Ks #[d,v,[],.z]:=#[Same.refl _,r,λ_ h=>(by cases h),λh=>absurd rfl h]
theorem qA (r:Rep K H d v L) (h:∀ c∈L,Ks c):New K H H Ks #[d,v,L,.z]:=#[Same.refl _,r,λc a=>.inr (h c a),λh=>absurd rfl h]
theorem A9 (a:H p=none) (r:Reps (Rep K H) ds vs L) (h:∀ c∈L,Ks c):New K H (upd H p (.lst vs)) Ks #[.lst ds,.ref p,p::L,.u]:=by
 have np:p ∉ L:=λd=>by obtain ⟨o,b⟩:=(r.inH p d).ex;rw[a] at b;exact nsE b
 refine #[ce a,.lst bu (r.same (ce a)),λc d=>?_,λ_=>#[rfl,p,L,rfl,rfl,np,a]]
 grind
theorem xY (a:H p=none) (r:Reps (Rep K H) ds vs L) (h:∀ c∈L,Ks c):New K H (upd H p (.tup vs)) Ks #[.tup ds,.ref p,L,.z] :=
 #[ce a,.tup bu (r.same (ce a)),λc b=>.inr (h c b),λh=>absurd rfl h]
theorem lF (a:y∈ys) (h:Arg K H y) (hm:kh y.d=false):∀ c∈y.L,fo ys c:=λc b=>⟨y,a,b,λhf=>by
 have:=(h.own hf).1
 rw[hm] at this;cases this⟩
theorem o6 (g:y∈ys) (h:Arg K H y) (d:y.v=.ref a) (b:y.L=a::L):∀ c∈L,fo ys c:=λc f=>⟨y,g,by rw[b];exact E6 _ f,λhf e=>by
 obtain ⟨_,i,L',v1,v2,v3⟩:=h.own hf
 rw[d] at v1;cases v1
 rw[b] at v2;cases v2
 rw[d] at e;cases e
 exact v3 f⟩
theorem OpD.or (h:OpD K r f) (h':OpD K r' g):OpD K (λx y H Q=>r x y H Q\/r' x y H Q) (orD f g):=λa b H Q p ra rb e q=>by
 unfold orD at e
 cases c:f a.d b.d with
 | some p'=>rw[c] at e;cases e;exact .inl (h a b H Q _ ra rb c q)
 | none=>rw[c] at e;exact .inr (h' a b H Q p ra rb e q)
def dF (C:Int->Int->Bool) (g:Int->Int->D):D->D->Option (D×Fl)
 | .int i,.int j=>if C i j then #v[g i j] else none
 | _,_=>none
set_option tactic.hygienic true in
theorem ki (c:∀ i j,Cb i j=true->C i j) (hg:∀ i j H,Rep K H (gd i j) (g i j) []):OpD K (rI C g) (dF Cb gd):=λa b H Q p ra rb e q=>by
 obtain ⟨da,o,l,k⟩:=a
 obtain ⟨db,n,f,h⟩:=b
 obtain ⟨ra,m⟩:=ra
 obtain ⟨rb,ob⟩:=rb
 dsimp only at ra rb
 cases da <;> try (exact nsE e)
 rename_i i
 obtain ⟨rfl,rfl⟩:=ra.view
 cases db <;> try (exact nsE e)
 rename_i j
 obtain ⟨rfl,rfl⟩:=rb.view
 have e:(if Cb i j then some (gd i j,Fl.z) else none)=some p:=e
 split at e
 .rename_i d
  cases e
  exact #[i,j,rfl,rfl,c i j d,q #[gd i j,g i j,[],.z] H (eg (hg i j H)) rfl rfl]
 .exact nsE e
theorem rI_of:rI0 g=rI (λ_ _=>True) g:=by
 funext x y H Q
 unfold rI0 rI
 grind
theorem i7 (hg:∀ i j H,Rep K H (gd i j) (g i j) []):OpD K (rI0 g) (dF (λ_ _=>true) gd):=by
 rw[rI_of]
 exact ki (λ_ _ _=>trivial) hg
abbrev rN:Int->Int->Bool:=λ_ _=>true
abbrev zx:=dF rN λi j=>.int (i+j)
abbrev cy:=dF rN λi j=>.int (i - j)
abbrev dD:=dF (λi j=>decide ((-(2 ^ 64) < i/\i < 2 ^ 64)\/(-(2 ^ 64) < j/\j < 2 ^ 64))) λi j=>.int (i * j)
abbrev o1:=dF (λ_ j=>decide (0 < j)) λi j=>.int (i % j)
abbrev xL:=dF (λi j=>decide (0<=j/\j<=1000000/\i.natAbs < 2 ^ 64)) λi j=>.int (i ^ j.toNat)
abbrev ltI:=dF rN λi j=>.bl (decide (i < j))
abbrev leI:=dF rN λi j=>.bl (decide (i<=j))
abbrev gtI:=dF rN λi j=>.bl (decide (j < i))
theorem od_addI:OpD K (rI0 λi j=>.int (i+j)) zx:=i7 λi j _=>.int _
theorem AY:OpD K (rI0 λi j=>.int (i - j)) cy:=i7 λi j _=>.int _
theorem A1:OpD K (rI CMul λi j=>.int (i * j)) dD:=ki (λi j h=>by simpa[CMul,wB,zE] using h) λi j _=>.int _
theorem A2:OpD K (rI (λ_ j=>0 < j) λi j=>.int (i % j)) o1:=ki (λi j h=>by simpa[CMul,wB,zE] using h) λi j _=>.int _
theorem AZ:OpD K (rI zE λi j=>.int (i ^ j.toNat)) xL:=ki (λi j h=>by simpa[CMul,wB,zE] using h) λi j _=>.int _
theorem qu:OpD K (rI0 λi j=>.bl (decide (i < j))) ltI:=i7 λi j _=>.bl _
theorem qv:OpD K (rI0 λi j=>.bl (decide (i<=j))) leI:=i7 λi j _=>.bl _
theorem Cc:OpD K (rI0 λi j=>.bl (decide (j < i))) gtI:=i7 λi j _=>.bl _
def BH:D->D->Option (D×Fl)
 | .tup xs,.tup ys=>if xs.length+ys.length<=16777216 then #v[.tup (xs++ys)] else none
 | _,_=>none
def BK:D->D->Option (D×Fl)
 | .lst xs,.lst ys=>if xs.length+ys.length<=16777216 then some (.lst (xs++ys),.u) else none
 | _,_=>none
def BI:D->D->Option (D×Fl)
 | .str xs,.str ys=>if xs.length+ys.length<=16777216 then #v[.str (xs++ys)] else none
 | _,_=>none
theorem Reps.len (r:Reps (Rep K H) ds vs L):ds.length=vs.length:=by
 induction r with
 | nil=>rfl
 | cons _ _ ih=>simp[ih]
theorem Reps.append (r:Reps (Rep K H) ds vs L) (b:Reps (Rep K H) ds' vs' L'):Reps (Rep K H) (ds++ds') (vs++vs') (L++L'):=by
 induction r with
 | nil=>exact b
 | cons a _ ih=>rw[List.append_assoc];exact .cons a ih
theorem Reps.nil_iff (r:Reps (Rep K H) ds vs L):ds=[] ↔ vs=[]:=by cases r <;> simp
def oR (K:FG):R2:=λx y H Q=>∃ a b ys,x=.ref a/\y=.ref b/\SqT K H a []/\SqT K H b ys/\Q (.ref b) H
theorem xW:OpR X (binaryOp .Add) (oR X.K):=by
 intro pins s O H x y v u Q I z A h
 obtain ⟨a,b,ys,rfl,rfl,p,r,q⟩:=h
 cases z
 cases A
 obtain ⟨its,t,m,_⟩:=I.tuple p
 obtain ⟨l,B,p2,_⟩:=I.tuple r
 have e:its=[]:=t.nil_iff.mpr rfl
 subst e
 obtain ⟨⟨cls,w,data,sl⟩,i,j,n,hd⟩:=id m
 obtain ⟨⟨k,g,data2,f⟩,d,c,o,hd2⟩:=id p2
 simp only at j hd c hd2
 subst j hd c hd2
 exact concat_meets #[_,i,rfl] #[_,d,rfl] noFill_tuple_add seq_tuple_add PySem.F.slot_tuple_add PySem.F.entry_tuple_add (PySem.F.args_tuple_add_2 _ _)
   (PyProof.Rows.tuple_addW0 a b _ _ n o w g sl f (by simp)) #[i,d,#[.ref b,H,I,rfl,q]]
set_option tactic.hygienic true in
theorem od_catT:OpD K (λx y H Q=>ua K x y H Q\/oR K x y H Q) BH:=λa b H Q p ra rb e q=>by
 obtain ⟨da,A,l,r⟩:=a
 obtain ⟨db,w,k,t⟩:=b
 obtain ⟨ra,s⟩:=ra
 obtain ⟨rb,ob⟩:=rb
 dsimp only at ra rb
 cases da <;> try (exact nsE e)
 rename_i xs
 obtain ⟨j,vs,rfl,g,rs⟩:=ra.view
 cases db <;> try (exact nsE e)
 rename_i ys
 obtain ⟨f,ws,rfl,i,d⟩:=rb.view
 have e:(if xs.length+ys.length<=16777216 then some (D.tup (xs++ys),Fl.z) else none)=some p:=e
 split at e
 .rename_i hl
  cases e
  by_cases m:vs=[]
  .have n:=rs.nil_iff.mpr m
   subst m n
   refine .inr #[j,f,ws,rfl,rfl,SqT.of g,SqT.of i,?_]
   exact q #[.tup ys,.ref f,k,.z] H (qA (.tup i d) (lF (y:=#[.tup ys,.ref f,k,t]) (E6 _ (FJ.mpr rfl)) #[.tup i d,ob] rfl)) rfl rfl
  .refine .inl #[j,f,vs,ws,rfl,rfl,SqT.of g,SqT.of i,m,by rw[<- rs.len,<- d.len,<- szl];exact hl,λhw=>?_,λhw p u=>?_]
   .have o:=d.nil_iff.mpr hw
    subst o
    refine q #[.tup (xs++[]),.ref j,l,.z] H (qA (by rw[List.append_nil];exact .tup g rs) (lF (y:=#[.tup xs,.ref j,l,r]) E5 #[.tup g rs,s] rfl)) rfl rfl
   .refine q #[.tup (xs++ys),.ref p,l++k,.z] _ (xY u (rs.append d) λc v=>?_) rfl rfl
    rcases Ff.mp v with h | h
    .exact lF (y:=#[.tup xs,.ref j,l,r]) E5 #[.tup g rs,s] rfl c h
    .exact lF (y:=#[.tup ys,.ref f,k,t]) (E6 _ (FJ.mpr rfl)) #[.tup i d,ob] rfl c h
 .exact nsE e
set_option tactic.hygienic true in
theorem A7:OpD K Aw BK:=λa b H Q p ra rb e q=>by
 obtain ⟨da,v,j,n⟩:=a
 obtain ⟨db,t,f,m⟩:=b
 obtain ⟨ra,r⟩:=ra
 obtain ⟨rb,ob⟩:=rb
 dsimp only at ra rb
 cases da <;> try (exact nsE e)
 rename_i xs
 obtain ⟨i,vs,j,rfl,rfl,k,rs⟩:=ra.view
 cases db <;> try (exact nsE e)
 rename_i ys
 obtain ⟨g,ws,f,rfl,rfl,l,d⟩:=rb.view
 have e:(if xs.length+ys.length<=16777216 then some (D.lst (xs++ys),Fl.u) else none)=some p:=e
 split at e
 .rename_i hl
  cases e
  refine #[i,g,vs,ws,rfl,rfl,k,l,by rw[<- rs.len,<- d.len,<- szl];exact hl,λp o=>?_]
  refine q #[.lst (xs++ys),.ref p,p::(j++f),.u] _ (A9 o (rs.append d) λc s=>?_) rfl rfl
  rcases Ff.mp s with h | h
  .exact o6 (y:=#[.lst xs,.ref i,i::j,n]) E5 #[.lst k rs,r] rfl rfl c h
  .exact o6 (y:=#[.lst ys,.ref g,g::f,m]) (E6 _ (FJ.mpr rfl)) #[.lst l d,ob] rfl rfl c h
 .exact nsE e
set_option tactic.hygienic true in
theorem od_catS:OpD K (λx y H Q=>∃ i j,x=.str i/\y=.str j/\i.length+j.length<=sizeLine/\Q (.str (i++j)) H) BI:=λa b H Q p ra rb e q=>by
 obtain ⟨da,l,g,f⟩:=a
 obtain ⟨db,k,c,d⟩:=b
 obtain ⟨ra,h⟩:=ra
 obtain ⟨rb,ob⟩:=rb
 dsimp only at ra rb
 cases da <;> try (exact nsE e)
 rename_i i
 obtain ⟨rfl,rfl⟩:=ra.view
 cases db <;> try (exact nsE e)
 rename_i j
 obtain ⟨rfl,rfl⟩:=rb.view
 have e:(if i.length+j.length<=16777216 then some (D.str (i++j),Fl.z) else none)=some p:=e
 split at e
 .rename_i hl
  cases e
  exact #[i,j,rfl,rfl,by rw[<- szl];exact hl,q #[.str (i++j),.str (i++j),[],.z] H (eg (.str _)) rfl rfl]
 .exact nsE e
abbrev ba:=orD zx (orD BI (orD BH BK))
theorem Ec:OpD K (λx y H Q=>rI0 (λi j=>.int (i+j)) x y H Q\/((∃ i j,x=.str i/\y=.str j/\i.length+j.length<=sizeLine/\Q (.str (i++j)) H)\/((ua K x y H Q\/oR K x y H Q)\/Aw x y H Q))) ba:=od_addI.or (od_catS.or (od_catT.or A7))
theorem AW:OpR X (binaryOp .Add) (λx y H Q=>rI0 (λi j=>.int (i+j)) x y H Q\/((∃ i j,x=.str i/\y=.str j/\i.length+j.length<=sizeLine/\Q (.str (i++j)) H)\/((ua X.K x y H Q\/oR X.K x y H Q)\/Aw x y H Q))):=op_add.or (op_add_str.or ((op_catT.or xW).or DW))
def eqS:D->D->Option Bool
 | .non,.non=>some true | .non,.int _=>some false | .int _,.non=>some false | .non,.bl _=>some false | .bl _,.non=>some false | .non,.str _=>some false | .str _,.non=>some false
 | .int i,.int j=>some (decide (i=j)) | .bl i,.bl j=>some (decide (i=j)) | .str i,.str j=>some (decide (i=j))
 | .int _,.str _=>some false | .str _,.int _=>some false | .bl _,.str _=>some false | .str _,.bl _=>some false
 | _,_=>none
theorem yY (ra:Rep K H a u L) (rb:Rep K H b v L') (e:eqS a b=some k):C0 u v=true/\k=decide (u=v):=by
 cases a <;> cases b <;> first | exact nsE e | (obtain ⟨rfl,rfl⟩:=ra.view;obtain ⟨rfl,rfl⟩:=rb.view;cases e;exact #[rfl,by simp])
def uu:D->Bool
 | .non=>true
 | _=>false
def isN:D->D->Option (D×Fl)
 | a,.non=>#v[.bl (uu a)]
 | _,_=>none
def vA:D->D->Option (D×Fl)
 | a,.non=>#v[.bl (!uu a)]
 | _,_=>none
theorem Rep.non_iff (ra:Rep K H a u L):uu a=decide (u=.non):=by cases ra <;> simp[uu]
theorem Eb:OpD K (λx y H Q=>y=.non/\Q (.bl (decide (x=.non))) H) isN:=λa b H Q p ra rb e q=>by
 obtain ⟨db,d,c,f⟩:=b
 obtain ⟨rb,ob⟩:=rb
 dsimp only at rb
 cases db <;> try (exact nsE e)
 obtain ⟨rfl,rfl⟩:=rb.view
 unfold isN at e
 cases e
 refine #[rfl,?_]
 rw[<- ra.rep.non_iff]
 exact q #[_,_,[],.z] H (eg (.bl _)) rfl rfl
theorem A0:OpD K (λx y H Q=>y=.non/\Q (.bl (!decide (x=.non))) H) vA:=λa b H Q p ra rb e q=>by
 obtain ⟨db,d,c,f⟩:=b
 obtain ⟨rb,ob⟩:=rb
 dsimp only at rb
 cases db <;> try (exact nsE e)
 obtain ⟨rfl,rfl⟩:=rb.view
 unfold vA at e
 cases e
 refine #[rfl,?_]
 rw[<- ra.rep.non_iff]
 exact q #[_,_,[],.z] H (eg (.bl _)) rfl rfl
def qB:D->Option (D×Fl)
 | .int i=>#v[.int (-i)]
 | _=>none
theorem Cv:UnD K (rU λi=>.int (-i)) qB:=λa H Q p ra e q=>by
 obtain ⟨da,f,c,b⟩:=a
 obtain ⟨ra,d⟩:=ra
 dsimp only at ra
 cases da <;> try (exact nsE e)
 obtain ⟨rfl,rfl⟩:=ra.view
 cases e
 exact #[_,rfl,q #[_,_,[],.z] H (eg (.int _)) rfl rfl]
theorem Reps.at:∀ {ds:List D} {vs:List V} {L:List Addr} {i:Nat} {d:D},Reps (Rep K H) ds vs L->ds[i]?=some d->∃ v L',vs[i]?=some v/\Rep K H d v L'/\∀ c∈L',c∈L
 | _,_,_,_,_,.nil,h=>by simp at h
 | _,_,_,0,_,.cons r _,h=>by simp at h;subst h;exact #[_,_,rfl,r,λc a=>E9 _ a]
 | _,_,_,i+1,_,.cons _ t,h=>by
  obtain ⟨v,L',h1,h2,h3⟩:=Reps.at (i:=i) t (by simpa using h)
  exact #[v,L',by simpa using h1,h2,λc a=>Fb _ (h3 c a)]
theorem Reps.atI {i:Int} (r:Reps (Rep K H) ds vs L) (h:atI ds i=some d):∃ v L',atI vs i=some v/\Rep K H d v L'/\∀ c∈L',c∈L:=by
 unfold L2.atI at h ⊢
 rw[<- r.len]
 cases e:ixN ds.length i with
 | none=>rw[e] at h;exact nsE h
 | some j=>rw[e] at h;exact r.at h
def ixD:D->D->Option (D×Fl)
 | .lst xs,.int i=>(atI xs i).map λd=>(d,.z)
 | .fls xs,.int i=>(atI xs i).map λd=>(d,.z)
 | .tup xs,.int i=>(atI xs i).map λd=>(d,.z)
 | _,_=>none
set_option tactic.hygienic true in
theorem od_ix:OpD K (λx y H Q=>si K x y H Q\/xB K x y H Q) ixD:=λa b H Q p ra rb e q=>by
 obtain ⟨da,s,k,l⟩:=a
 obtain ⟨db,n,o,r⟩:=b
 obtain ⟨rb,ob⟩:=rb
 have g:=ra
 obtain ⟨ra,m⟩:=ra
 dsimp only at ra rb
 cases da <;> try (exact nsE e)
 all_goals (cases db <;> try (exact nsE e))
 all_goals (rename_i xs i;obtain ⟨rfl,rfl⟩:=rb.view)
 .obtain ⟨f,vs,rfl,h,rs⟩:=ra.view
  obtain ⟨d,h1,h2⟩:=E8.mp (show (atI xs i).map (λd=>(d,Fl.z))=some p from e)
  subst h2
  obtain ⟨v,L',g1,g2,g3⟩:=rs.atI h1
  refine .inr #[f,vs,i,v,rfl,rfl,SqT.of h,g1,q #[d,v,L',.z] H (qA g2 λc j=>?_) rfl rfl]
  exact lF (y:=#[.tup xs,.ref f,k,l]) E5 g rfl c (g3 c j)
 .obtain ⟨f,vs,k,rfl,rfl,h,rs⟩:=ra.view
  obtain ⟨d,h1,h2⟩:=E8.mp (show (atI xs i).map (λd=>(d,Fl.z))=some p from e)
  subst h2
  obtain ⟨v,L',g1,g2,g3⟩:=rs.atI h1
  refine .inl #[f,vs,i,v,rfl,rfl,SqL.of h,g1,q #[d,v,L',.z] H (qA g2 λc j=>?_) rfl rfl]
  exact o6 (y:=#[.lst xs,.ref f,f::k,l]) E5 g rfl rfl c (g3 c j)
 .obtain ⟨f,vs,rfl,h,rs⟩:=ra.view
  obtain ⟨d,h1,h2⟩:=E8.mp (show (atI xs i).map (λd=>(d,Fl.z))=some p from e)
  subst h2
  obtain ⟨v,L',g1,g2,g3⟩:=rs.atI h1
  refine .inl #[f,vs,i,v,rfl,rfl,h.sq,g1,q #[d,v,L',.z] H (qA g2 λc j=>?_) rfl rfl]
  exact lF (y:=#[.fls xs,.ref f,k,l]) E5 g rfl c (g3 c j)
theorem ix_ok:IxR X (λx y H Q=>si X.K x y H Q\/xB X.K x y H Q):=ix_list.or Eu
end
section
variable {K:FG} {H:Hp} {Ks:Addr->Prop} {d:D} {v:V} {L:List Addr} {X:Cx}
def c1 (f:D->Option (D×Fl)):List D->Option (D×Fl)
 | [d]=>f d
 | _=>none
def c2 (f:D->D->Option (D×Fl)):List D->Option (D×Fl)
 | [d,d']=>f d d'
 | _=>none
theorem k5 {ys:List It3} (e:c1 f (ys.map (·.d))=some p):∃ y,ys=[y]/\f y.d=some p:=by
 match ys,e with
 | [],e=>exact nsE e
 | [y],e=>exact #[y,rfl,e]
 | _::_::_,e=>exact nsE e
theorem tf {ys:List It3} (e:c2 f (ys.map (·.d))=some p):∃ y z,ys=[y,z]/\f y.d z.d=some p:=by
 match ys,e with
 | [],e=>exact nsE e
 | [_],e=>exact nsE e
 | [y,z],e=>exact #[y,z,rfl,e]
 | _::_::_::_,e=>exact nsE e
def sM:D->Option (D×Fl)
 | .lst xs=>#v[.int xs.length]
 | .fls xs=>#v[.int xs.length]
 | .tup xs=>#v[.int xs.length]
 | _=>none
abbrev bC:=c1 sM
set_option tactic.hygienic true in
theorem ES:iF K (λxs H Q=>∃ p ys,xs=[.ref p]/\(SqL K H p ys\/SqT K H p ys)/\Q (.int ys.length) H) bC:=λys H Q p ra e q=>by
 obtain ⟨y,rfl,d⟩:=k5 e
 clear e
 have e:=d
 clear d
 have c:=(ra y E5).rep
 obtain ⟨da,h,f,g⟩:=y
 dsimp only at c e
 cases da <;> try (exact nsE e)
 .rename_i xs
  obtain ⟨a,vs,rfl,b,rs⟩:=c.view
  cases e
  exact #[a,vs,rfl,.inr (SqT.of b),by rw[<- rs.len];exact q #[_,_,[],.z] H (eg (.int _)) rfl rfl]
 .rename_i xs
  obtain ⟨a,vs,f,rfl,rfl,b,rs⟩:=c.view
  cases e
  exact #[a,vs,rfl,.inl (SqL.of b),by rw[<- rs.len];exact q #[_,_,[],.z] H (eg (.int _)) rfl rfl]
 .rename_i xs
  obtain ⟨a,vs,rfl,b,rs⟩:=c.view
  cases e
  exact #[a,vs,rfl,.inl b.sq,by rw[<- rs.len];exact q #[_,_,[],.z] H (eg (.int _)) rfl rfl]
def tupQ:D->Option (D×Fl)
 | .lst xs=>#v[.tup xs]
 | .tup xs=>#v[.tup xs]
 | _=>none
abbrev l6:=c1 tupQ
set_option tactic.hygienic true in
theorem EQ:iF K (λxs H Q=>∃ p ys,xs=[.ref p]/\((SqL K H p ys/\∀ l,H l=none->Q (.ref l) (upd H l (.tup ys)))\/(SqT K H p ys/\Q (.ref p) H))) l6:=λys H Q p ra e q=>by
 obtain ⟨y,rfl,g⟩:=k5 e
 clear e
 have e:=g
 clear g
 have d:=ra y E5
 have f:=d.rep
 obtain ⟨da,i,b,h⟩:=y
 dsimp only at f e
 cases da <;> try (exact nsE e)
 .rename_i xs
  obtain ⟨a,vs,rfl,c,rs⟩:=f.view
  cases e
  exact #[a,vs,rfl,.inr #[SqT.of c,q #[.tup xs,.ref a,b,.z] H (qA (.tup c rs) (lF (y:=#[.tup xs,.ref a,b,h]) E5 d rfl)) rfl rfl]]
 .rename_i xs
  obtain ⟨a,vs,b,rfl,rfl,c,rs⟩:=f.view
  cases e
  exact #[a,vs,rfl,.inl #[SqL.of c,λl hl=>q #[.tup xs,.ref l,b,.z] _ (xY hl rs (o6 (y:=#[.lst xs,.ref a,a::b,h]) E5 d rfl rfl)) rfl rfl]]
def absQ:D->Option (D×Fl)
 | .int i=>#v[.int (if i < 0 then -i else i)]
 | _=>none
abbrev absD:=c1 absQ
theorem Rep.int_inv {i:Int} (r:Rep K H (.int i) v L):v=.int i:=by cases r;rfl
theorem EU:iF K (λxs H Q=>∃ i,xs=[.int i]/\Q (.int (if i < 0 then -i else i)) H) absD:=λys H Q p ra e q=>by
 obtain ⟨y,rfl,a⟩:=k5 e
 clear e
 have e:=a
 clear a
 have b:=(ra y E5).rep
 obtain ⟨da,f,d,c⟩:=y
 dsimp only at b e
 cases b <;> try (exact nsE e)
 cases e
 exact #[_,rfl,q #[_,_,[],.z] H (eg (.int _)) rfl rfl]
def qQ (C:Int->Int->Bool) (g:Int->Int->D):D->D->Option (D×Fl)
 | .int i,.int j=>if C i j then #v[g i j] else none
 | _,_=>none
set_option tactic.hygienic true in
theorem kO (e:qQ C g a b=some p):∃ i j,a=.int i/\b=.int j/\C i j=true/\p=(g i j,.z):=by
 cases a <;> cases b <;> try (exact nsE e)
 rename_i i j
 have e:(if C i j then some (g i j,Fl.z) else none)=some p:=e
 split at e
 .rename_i h;cases e;exact #[i,j,rfl,rfl,h,rfl]
 .exact nsE e
abbrev Cg:=c2 (qQ rN λi j=>.int (if j > i then j else i))
abbrev Ce:=c2 (qQ rN λi j=>.int (if j < i then j else i))
abbrev y9:=c2 (qQ (λ_ j=>decide (0 < j/\j < 1073741824)) λi j=>.tup [.int (i / j),.int (i % j)])
theorem BF:iF K (λxs H Q=>∃ i j,xs=[.int i,.int j]/\Q (.int (if j > i then j else i)) H) Cg:=λys H Q p ra e q=>by
 obtain ⟨y,z,rfl,c⟩:=tf e
 clear e
 have e:=c
 clear c
 obtain ⟨i,j,f,d,_,rfl⟩:=kO e
 have b:=(ra y E5).rep
 have a:=(ra z (E6 _ E5)).rep
 rw[f] at b
 rw[d] at a
 refine #[i,j,?_,q #[_,_,[],.z] H (eg (.int _)) rfl rfl]
 show [y.v,z.v]=_
 rw[b.int_inv,a.int_inv]
theorem BE:iF K (λxs H Q=>∃ i j,xs=[.int i,.int j]/\Q (.int (if j < i then j else i)) H) Ce:=λys H Q p ra e q=>by
 obtain ⟨y,z,rfl,c⟩:=tf e
 clear e
 have e:=c
 clear c
 obtain ⟨i,j,f,d,_,rfl⟩:=kO e
 have b:=(ra y E5).rep
 have a:=(ra z (E6 _ E5)).rep
 rw[f] at b
 rw[d] at a
 refine #[i,j,?_,q #[_,_,[],.z] H (eg (.int _)) rfl rfl]
 show [y.v,z.v]=_
 rw[b.int_inv,a.int_inv]
theorem wg:iF K (λxs H Q=>∃ i j,xs=[.int i,.int j]/\wB i j/\∀ p,H p=none->Q (.ref p) (upd H p (.tup [.int (i / j),.int (i % j)]))) y9:=λys H Q p ra e q=>by
 obtain ⟨y,z,rfl,f⟩:=tf e
 clear e
 have e:=f
 clear f
 obtain ⟨i,j,h,g,a,rfl⟩:=kO e
 have d:=(ra y E5).rep
 have b:=(ra z (E6 _ E5)).rep
 rw[h] at d
 rw[g] at b
 refine #[i,j,?_,by simpa[wB] using a,λp k=>q #[_,.ref p,[],.z] _ (xY k (L:=[]) (.cons (L:=[]) (.int _) (.cons (L:=[]) (.int _) .nil)) λc a=>by cases a) rfl rfl]
 show [y.v,z.v]=_
 rw[d.int_inv,b.int_inv]
def jC:List D->Option (List Bool)
 | []=>some []
 | .bl b::ds=>(jC ds).map (b::·)
 | _=>none
set_option tactic.hygienic true in
theorem rF:∀ {ds:List D} {bs:List Bool},jC ds=some bs->ds=bs.map D.bl
 | [],bs,e=>by cases e;rfl
 | d::ds,bs,e=>by
  cases d <;> try (exact nsE e)
  rename_i b
  obtain ⟨r,h1,h2⟩:=E8.mp (show (jC ds).map (b::·)=some bs from e)
  subst h2
  rw[rF h1];rfl
theorem Reps.bls:∀ {bs:List Bool} {vs:List V} {L:List Addr},Reps (Rep K H) (bs.map D.bl) vs L->vs=bs.map V.bl
 | [],_,_,.nil=>rfl
 | b::bs,_,_,.cons r rs=>by
  rw[Reps.bls rs]
  cases r;rfl
def E1:D->Option (D×Fl)
 | .lst xs=>(jC xs).map λbs=>(.bl (bs.all id),.z)
 | _=>none
abbrev pJ:=c1 E1
set_option tactic.hygienic true in
theorem ET:iF K (λxs H Q=>∃ (a:Addr) (bs:List Bool),xs=[.ref a]/\SqL K H a (bs.map V.bl)/\Q (.bl (bs.all id)) H) pJ:=λys H Q p ra e q=>by
 obtain ⟨y,rfl,b⟩:=k5 e
 clear e
 have e:=b
 clear b
 have c:=(ra y E5).rep
 obtain ⟨da,i,f,h⟩:=y
 dsimp only at c e
 cases da <;> try (exact nsE e)
 rename_i xs
 obtain ⟨d,vs,f,rfl,rfl,g,rs⟩:=c.view
 obtain ⟨bs,h1,h2⟩:=E8.mp (show (jC xs).map (λbs=>(D.bl (bs.all id),Fl.z))=some p from e)
 subst h2
 have:=rF h1
 subst this
 have:=rs.bls
 subst this
 exact #[d,bs,rfl,SqL.of g,q #[_,_,[],.z] H (eg (.bl _)) rfl rfl]
def fu (xs:List D) (lo hi:Option Int):List D:=(xs.drop (HT.sIx xs.length 0 lo)).take (HT.sIx xs.length xs.length hi - HT.sIx xs.length 0 lo)
end
def B6:D->Option (List D)
 | .lst xs=>some xs
 | .fls xs=>some xs
 | .tup xs=>some xs
 | _=>none
def cA (m:EM):IM:=ag m λr=>ag (der r) λd=>bm ((B6 d).map λds=>([r],ds))
def iSeq (K:FG) (tl:TE):TI:=λO H R=>tl O H λx H1=>(∃ a,x=.ref a/\(∃ xs,SqL K H1 a xs)/\R (Itl K a) H1)\/∃ a,x=.ref a/\(∃ xs,SqT K H1 a xs)/\R (Itt K a) H1
theorem DE (hl:PE X l tl):PI X tg l (iSeq X.K tl):=by
 intro pins s O H R I h
 exact thn (hl pins s O H _ I h) λv s1 #[x,H1,c,g,i]=>by
   rcases i with ⟨a,e,⟨xs,d⟩,q⟩ | ⟨a,e,⟨xs,d⟩,q⟩
   .subst e
    cases g
    obtain ⟨its,j,p,hz⟩:=c.list d
    refine wpAny_pyIter_list p.isList ?_
    refine #[s1.heap.objs.size,[s1.heap.objs.size],_,_,H1,rfl,c.kept (t':=s1.toks) λb o e=>E7 _ e,u6 a _,#[_,Fg _ rfl,rfl,rfl],λb f=>?_,q]
    have e:b=s1.heap.objs.size:=by simpa using f
    subst e
    exact c.fpOk (Fq _) (c.hok.fresh (Fq _))
   .subst e
    cases g
    obtain ⟨its,j,p,hz⟩:=c.tuple d
    refine wpAny_pyIter_tuple (show s1.heap.IsTuple a its.toArray from p) ?_
    refine #[s1.heap.objs.size,[s1.heap.objs.size],_,_,H1,rfl,c.kept (t':=s1.toks) λb o e=>E7 _ e,rP a _,#[_,Fg _ rfl,rfl,rfl],λb f=>?_,q]
    have e:b=s1.heap.objs.size:=by simpa using f
    subst e
    exact c.fpOk (Fq _) (c.hok.fresh (Fq _))
section
variable {K:FG} {G G0:Gm} {W W0:D->Sto->Prop} {H H':Hp} {O:St} {Z Z':Sto} {T T':List It3} {g:Nat->Option It3} {x y z:It3} {α β:Type} {X:Cx}
theorem Ar.item2 (w:Wf K G H O Z (Ts++T) g) (a:Ar O r v Ts) (e:der r Z=some (.ok d,Z)):∃ y,y.d=d/\y.v=v/\((∃ i,i∈pls [r]/\g i=some y)\/y∈Ts):=by
 cases a with
 | @pl i v h =>
  have j:der (.pl i) Z=((Z[i]?).join).map λp=>(.ok p.1,Z):=rfl
  rw[j] at e
  cases q:(Z[i]?).join with
  | none=>rw[q] at e;exact nsE e
  | some p =>
   rw[q] at e
   obtain ⟨y,e1,c,l,b⟩:=w.slot (d:=p.1) (f:=p.2) q
   have k:p.1=d:=by cases e;rfl
   rw[h] at b
   injection b with b
   injection b with b
   exact #[y,c.trans k,b.symm,.inl #[i,E5,e1]]
 | val x=>cases e;exact #[x,rfl,rfl,.inr (by simp)]
theorem oG (m:Reps (Rep K H1) ds vs j) (q:∀ c∈j,fo [y] c) (n:∀ c∈j,c∈y.L) (h:∀ (M:Addr->Prop) (H':Hp),(∀ b,M b->MutAt H1 b)->(∀ b o,H1 b=some o->¬ M b->H' b=some o)->(∀ b∈y.L,¬ M b)->(∀ (i:Nat) (v:V),vs[i]?=some v->J.go i H'/\∀ x a,J.yld i H' x a->a=H'/\x=v)/\J.stop vs.length H'):Walk K J H1 [y] ds:=by
 obtain ⟨ws,h1,h2,h3⟩:=Reps.split m
 refine #[ws,λx f=>#[(h3 x f).1,(h3 x f).2.1,λc g=>q c ((h3 x f).2.2 c g)],λM H' hm e k=>?_]
 obtain ⟨go,stop⟩:=h M H' hm e (k y E5)
 refine #[λi d hd=>?_,by rw[m.len];exact stop]
 have hi:∃ u,ws[i]?=some u/\u.d=d:=by
  grind
 obtain ⟨u,l,w⟩:=hi
 have s:vs[i]?=some u.v:=by rw[<- h2,Fp,l];rfl
 obtain ⟨g1,g2⟩:=go i u.v s
 refine #[g1,λx a t=>?_]
 obtain ⟨e1,p⟩:=g2 x a t
 subst e1 p
 have hu:=Fj l
 refine #[u,#[Same.refl _,(h3 u hu).2.1.keep e hm λb r=>k y E5 b (n b ((h3 u hu).2.2 b r)),λc g=>.inr #[u,hu,g],λhf=>absurd (h3 u hu).1 hf],w,(h3 u hu).1,rfl]
theorem nH {y:It3} {a:Addr} {ds:List D} {vs:List V} (j:∀ H',SqL K H' a vs->True) (h:∀ (M:Addr->Prop) (H':Hp),(∀ b,M b->MutAt H b)->(∀ b o,H b=some o->¬ M b->H' b=some o)->(∀ b∈y.L,¬ M b)->SqL K H' a vs) :
  ∀ (M:Addr->Prop) (H':Hp),(∀ b,M b->MutAt H b)->(∀ b o,H b=some o->¬ M b->H' b=some o)->(∀ b∈y.L,¬ M b)->(∀ (i:Nat) (v:V),vs[i]?=some v->(Itl K a).go i H'/\∀ x c,(Itl K a).yld i H' x c->c=H'/\x=v)/\(Itl K a).stop vs.length H':=λM H' hm g f=>by
 have sq:SqL K H' a vs:=h M H' hm g f
 refine #[λi v d=>#[#[vs,v,sq,d],λx c #[e1,e]=>#[e1,?_]],#[vs,sq,Fq _]]
 have:=e vs sq
 rw[d] at this
 injection this with this
 exact this.symm
theorem CN (h:tI K G0 W0 (cA m) O H R):iSeq K (tE K G0 W0 m) O H R:=by
 obtain ⟨G,W,le,Z,T,g,o,Z',w,e,q⟩:=h
 have l:∀ x,o=.error x->W x Z':=λx L=>by subst L;exact q
 refine tE.seq le w e l λra Z1 e1 v H1 #[Ts,g1,C,a1]=>?_
 obtain ⟨d,N,r⟩:=aO e1
 obtain ⟨p,E,rfl,rfl⟩:=cu r
 obtain ⟨ds,n,V⟩:=E8.mp E
 subst V
 obtain ⟨y,σ,S,D⟩:=a1.item2 C N
 have U:Itm (Ts++T) g1 y:=by
  rcases D with ⟨i,_,P⟩ | h
  .exact .inl #[i,P]
  .exact .inr (E9 _ h)
 have F:=(C.itm U).arg
 have B:∀ J,Walk K J H1 [y] ds->R J H1:=λJ hw=>q J H1 [v] Ts g1 [y] C (by simpa using Ars.cons a1 .nil) (λz hz=>by rw[FJ.mp hz];exact D) hw
 clear e1 r E q
 subst σ S
 have f:=F
 obtain ⟨da,X,t,u⟩:=y
 obtain ⟨s,τ⟩:=F
 dsimp only at s n
 cases da with
 | tup xs =>
  obtain ⟨a,vs,rfl,b,rs⟩:=s.view
  cases n
  refine .inr #[a,rfl,#[_,SqT.of b],B _ (oG rs (lF (y:=#[.tup ds,.ref a,t,u]) E5 f rfl) (λc k=>k) λM H' hm j A=>?_)]
  have sq:SqT K H' a vs:=SqT.of (j a _ b λz=>(hm a z).notup b)
  refine #[λi v I=>#[#[vs,v,sq,I],λx Q #[e1,r]=>#[e1,?_]],#[vs,sq,Fq _]]
  have:=r vs sq
  rw[I] at this
  injection this with this
  exact this.symm
 | lst xs =>
  obtain ⟨a,vs,t,rfl,rfl,b,rs⟩:=s.view
  cases n
  refine .inl #[a,rfl,#[_,SqL.of b],B _ (oG rs (o6 (y:=#[.lst ds,.ref a,a::t,u]) E5 f rfl rfl) (λc k=>E6 _ k) (nH (ds:=ds) (λ_ _=>trivial) λM H' hm j A=>SqL.of (j a _ b (A a E5))))]
 | fls xs =>
  obtain ⟨a,vs,rfl,b,rs⟩:=s.view
  cases n
  refine .inl #[a,rfl,#[_,b.sq],B _ (oG rs (lF (y:=#[.fls ds,.ref a,t,u]) E5 f rfl) (λc k=>k) (nH (ds:=ds) (λ_ _=>trivial) λM H' hm j A=>(b.keep j hm).sq))]
 | _=>exact nsE n
theorem Dg (h:RE X G0 W0 l m):RI X G0 W0 tg l (cA m):=#[PI.imp (DE h.h) λ_ _ _ h=>CN h]
def aJ (lo:Int) (n:Nat):List D:=(List.range n).map λ(k:Nat)=>D.int (lo+(k:Int))
theorem pN {lo:Int} {n:Nat}:Walk K (Itr lo n) H1 ys (aJ lo n):=by
 refine #[[],λx h=>(by cases h),λM H' _ _ _=>#[λi d hd=>?_,?_]]
 .unfold aJ at hd
  rw[Fp] at hd
  obtain ⟨k,a,b⟩:=E8.mp hd
  obtain ⟨c,e⟩:=Fi.mp a
  rw[List.getElem_range] at e
  subst e
  rw[List.length_range] at c
  refine #[c,λx g #[e1,f]=>?_]
  subst e1
  exact #[#[d,x,[],.z],eg (by rw[<- b,f];exact .int _),rfl,rfl,rfl]
 .show n<=(aJ lo n).length
  unfold aJ
  simp
def iE (j:Int):Bool:=decide (-(2 ^ 62)<=j/\j < 2 ^ 62)
def dA:List D->Option (List D)
 | [.int j]=>if iE j then some (aJ 0 j.toNat) else none
 | _=>none
def cN:List D->Option (List D)
 | [.int i,.int j]=>if iE i && iE j then some (aJ i (j - i).toNat) else none
 | _=>none
def aX (f:List D->Option (List D)) (ms:M3 (List R3)):IM:=ag ms λrs=>ag (fm rs) λds=>bm ((f ds).map λxs=>([],xs))
set_option tactic.hygienic true in
theorem zS (h:tI K G0 W0 (aX dA ms) O H R):Cj (tA K G0 W0 ms) O H R:=by
 obtain ⟨G,W,le,Z,T,g,o,Z',w,e,q⟩:=h
 have b:∀ x,o=.error x->W x Z':=λx i=>by subst i;exact q
 refine tA.seq le w e b λrs Z1 e1 vs H1 Ts g1 k a1=>?_
 obtain ⟨ds,s,n⟩:=cv e1
 obtain ⟨p,m,rfl,rfl⟩:=cu n
 obtain ⟨xs,a,t⟩:=E8.mp m
 subst t
 obtain ⟨ys,f,f1,f2⟩:=a1.items k (λx i=>E9 _ i) s
 subst f1 f2
 match ys,a,f,a1 with
 | [],a,_,_=>exact nsE a
 | y::z::r,a,_,_=>cases hd:y.d <;> (rw[Fv,Fv,hd] at a;exact nsE a)
 | [y],a,f,a1 =>
  have l:=(k.itm (f y E5)).rep
  cases hd:y.d <;> (rw[Fv,hd] at a;try (exact nsE a))
  rename_i j
  rw[hd] at l
  have a:(if iE j then some (aJ 0 j.toNat) else none)=some xs:=a
  split at a
  .rename_i c
   cases a
   have c:=of_decide_eq_true c
   refine #[j,by show [y.v]=_;rw[l.int_inv],c.1,c.2,?_]
   exact q _ H1 [] [] g1 [] (k.sub (Fm Ts T)) .nil (λ_ h=>by cases h) pN
  .exact nsE a
set_option tactic.hygienic true in
theorem zR (h:tI K G0 W0 (aX cN ms) O H R):Ci (tA K G0 W0 ms) O H R:=by
 obtain ⟨G,W,le,Z,T,g,o,Z',w,e,q⟩:=h
 have b:∀ x,o=.error x->W x Z':=λx l=>by subst l;exact q
 refine tA.seq le w e b λrs Z1 e1 vs H1 Ts g1 k a1=>?_
 obtain ⟨ds,B,A⟩:=cv e1
 obtain ⟨p,t,rfl,rfl⟩:=cu A
 obtain ⟨xs,C,E⟩:=E8.mp t
 subst E
 obtain ⟨ys,f,f1,f2⟩:=a1.items k (λx l=>E9 _ l) B
 subst f1 f2
 have inv:∀ {ds:List D},cN ds=some xs->∃ i j,ds=[.int i,.int j]/\iE i=true/\iE j=true/\xs=aJ i (j - i).toNat:=λ{ds} h=>by
  unfold cN at h
  split at h
  .rename_i i j
   split at h
   .rename_i m
    cases h
    simp only[Bool.and_eq_true] at m
    exact #[i,j,rfl,m.1,m.2,rfl]
   .exact nsE h
  .exact nsE h
 obtain ⟨i,j,a,hi,c,rfl⟩:=inv C
 match ys,a,f,a1 with
 | [],a,_,_=>cases a
 | [y],a,_,_=>exact absurd (congrArg List.length a) (by simp)
 | y::z::u::r,a,_,_=>exact absurd (congrArg List.length a) (by simp)
 | [y,z],a,f,a1 =>
  have s:=(k.itm (f y E5)).rep
  have n:=(k.itm (f z (E6 _ E5))).rep
  have h1:y.d=.int i:=by injection a
  have h2:z.d=.int j:=by injection a with _ h;injection h
  rw[h1] at s
  rw[h2] at n
  have hi:=of_decide_eq_true hi
  have c:=of_decide_eq_true c
  refine #[i,j,by show [y.v,z.v]=_;rw[s.int_inv,n.int_inv],#[hi.1,hi.2,c.1,c.2],?_]
  exact q _ H1 [] [] g1 [] (k.sub (Fm Ts T)) .nil (λ_ h=>by cases h) pN
theorem Ao (hg:Gl X "range") (hm:X.mg "range"=none) (c:RA X G0 W0 [a] ms) (b:starEach [a] X.env=[(false,eval a X.env)]):RI X G0 W0 tg (.Call (.Name "range" p) [a] [] pos) (aX dA ms):=#[PI.imp (vq hg hm c.h b) λ_ _ _ h=>zS h]
theorem An (hg:Gl X "range") (hm:X.mg "range"=none) (e:RA X G0 W0 [a,b] ms) (d:starEach [a,b] X.env=[(false,eval a X.env),(false,eval b X.env)]) (c:starEach [b] X.env=[(false,eval b X.env)]):RI X G0 W0 tg (.Call (.Name "range" p) [a,b] [] pos) (aX cN ms):=#[PI.imp (vp hg hm e.h d c) λ_ _ _ h=>zR h]
end
section
variable {K:FG} {G G0:Gm} {W W0:D->Sto->Prop} {H H':Hp} {O:St} {Z Z':Sto} {T T':List It3} {g:Nat->Option It3} {x y z:It3} {α β:Type} {X:Cx} {L:List Addr}
def vg (bnd:D->Sto->Option Sto) (m:EM):SM:=ag m λr=>ag (fX r) λp=>λZ=>(bnd p.1 Z).map λZ1=>(.ok .nx,Z1)
theorem CK (k:Bnd K G0.pr tg bnd) (h:tS K G0 W0 (vg bnd m) E O H):wU (tE K G0 W0 m) tg E O H:=by
 refine h.use λG W le Z T g r Z' w e q=>?_
 refine tE.seq le w e q.err λra Z1 e1 v H1 #[Ts,g1,j,a1]=>?_
 obtain ⟨p,Z2,g2,x,f,n,f1,_,_,l⟩:=a1.take j e1
 have a:=Wf.lowT (Ts:=[x]) n
 obtain ⟨Z3,b,c⟩:=E8.mp f
 cases c
 rw[<- l]
 exact k G H1 O Z2 _ T g2 (dY x) _ le.pr rfl a (by show bnd x.d Z2=_;rw[f1];exact b) λO2 g3 i=>q _ _ _ i
theorem Df (hg:RG X G0.pr tg bnd) (he:RE X G0 W0 e m) (c:swapsWithSole [tg] e pos.line X.env=pure false) (hw:swappedStores [tg] e X.env=pure none) (h1:(assignEach [tg] X.env).map (·.2)=[assign tg X.env]):RS X G0 W0 (.Assign [tg] e pos) (vg bnd m):=by
 obtain ⟨g,a,b⟩:=hg.h
 exact #[PS.imp (xI he.h a c hw h1) λ_ _ _ h=>CK b h]
theorem r0 {i:Nat} {y:Str} (k:X.N.Nodup) (m:X.N[i]?=some y) (g:Loc X.env.scope y) (NY:List Str) (ix:List (Option Nat)) (n:X.calm=true) (hi:RI X G0 W0 tg iter im) (e:∀ s H C fp,PTs (aP X NY scope s H C fp) ifs (tT X.K (bq ix) noX cm)) (he:∀ s H C fp,RE (aP X NY scope s H C fp) (bq ix) noX elt em) (f:jb scope X.N X.env.scope NY ix=true) (c:Inj ix) (d:swapsWith (.ListComp elt [#[tg,iter,ifs,0]] scope pos) (some (.Name y py)) spos.line X.env=pure true) (hf:X.fn y=true\/X.env.scope.names.lookup y=some .local) (l:∀ x,foldedSetIterable iter X.env x=pure x) (j:G0.pr i=false) (b:∃ a,Bnd X.K (bq ix).pr a bnd/\∀ s H C fp,PG (aP X NY scope s H C fp) tg a):RS X G0 W0 (.Assign [.Name y py] (.ListComp elt [#[tg,iter,ifs,0]] scope pos) spos) (aN i (a7 im bnd cm em ix)):=by
 obtain ⟨a,b1,b2⟩:=b
 exact #[PS.imp (sj k m g NY ix n hi.h b2 e (λs H C fp=>(he s H C fp).h) f d hf l) λ_ _ _ h=>rV szl c b1 j h]
def isL:D->Bool
 | .lst _=>true
 | _=>false
theorem yD:∀ d v L H,isL d=true->Rep K H d v L->tyV K "list" v H:=λd v L H h r=>by
 cases r with
 | lst ha _=>exact .inl #[rfl,_,SqL.of ha]
 | _=>cases h
def BN:D->List D->Option (D×D)
 | .lst xs,[d]=>if xs.length < 16777216 then some (.lst (xs++[d]),.non) else none
 | _,_=>none
set_option tactic.hygienic true in
theorem Ei:MutD K ub BN:=λa d j as H Q p r m na ra g e q=>by
 cases d with
 | lst xs =>
  obtain ⟨_,vs,_,e1,l,k,rs⟩:=r.view
  cases e1
  cases l
  match as,e,ra,g with
  | [],e,_,_=>exact nsE e
  | _::_::_,e,_,_=>exact nsE e
  | [y],e,ra,g =>
   have e:(if xs.length < 16777216 then some (D.lst (xs++[y.d]),D.non) else none)=some p:=e
   split at e
   .rename_i hl
    cases e
    refine #[a,vs,y.v,rfl,rfl,k,by rw[<- rs.len,<- szl];exact hl,?_]
    have t:=ra y E5
    have s:=g y E5
    have ma:MutAt H a:=.inl #[_,k]
    have keep:∀ {d v L},Rep K H d v L->a ∉ L->Rep K (upd H a (.lst (vs++[y.v]))) d v L:=λ{d v L} r n=>r.keep (M:=λb=>b=a) (λb o f h=>by rw[aF h];exact f) (λb e=>by rw[e];exact ma) λb f e=>n (by rw[<- e];exact f)
    have keeps:Reps (Rep K (upd H a (.lst (vs++[y.v])))) xs vs j:=rs.keep (M:=λb=>b=a) (λb o f h=>by rw[aF h];exact f) (λb e=>by rw[e];exact ma) λb f e=>na (by rw[<- e];exact f)
    exact q (.lst (vs++[y.v])) (j++(y.L++[])) #[.non,.non,[],.z] (.lst bu (keeps.append (.cons (keep t s) .nil))) rfl (λc i=>by
     rcases Ff.mp i with h | h
     .exact .inl h
     .rw[List.append_nil] at h;exact .inr #[y,E5,h]) rfl rfl .non λc i=>by cases i
   .exact nsE e
 | _=>exact nsE e
def yV:D->List D->Option (D×D)
 | .lst xs,[.lst ys]=>if xs.length+ys.length<=16777216 then some (.lst (xs++ys),.non) else none
 | _,_=>none
theorem ext2 (a:D):yV (.lst xs) (a::b::r)=none:=by cases a <;> rfl
set_option tactic.hygienic true in
theorem Eh:MutD K t8 yV:=λa d u as H Q p r m na ra j e q=>by
 cases d with
 | lst xs =>
  obtain ⟨_,vs,_,e1,v,s,rs⟩:=r.view
  cases e1
  cases v
  match as,e,ra,j with
  | [],e,_,_=>exact nsE e
  | y::_::_,e,_,_=>exact nsE ((ext2 y.d).symm.trans e)
  | [y],e,ra,j =>
   have t:=ra y E5
   have l:=j y E5
   obtain ⟨x,C,B,A⟩:=y
   dsimp only at t l e
   cases x with
   | lst ys =>
    obtain ⟨b,ws,w,rfl,rfl,i,g⟩:=t.view
    have e:(if xs.length+ys.length<=16777216 then some (D.lst (xs++ys),D.non) else none)=some p:=e
    split at e
    .rename_i hl
     cases e
     refine #[a,b,vs,ws,rfl,rfl,s,i,by rw[<- rs.len,<- g.len,<- szl];exact hl,?_]
     have ma:MutAt H a:=.inl #[_,s]
     have keeps:∀ {ds f L},Reps (Rep K H) ds f L->a ∉ L->Reps (Rep K (upd H a (.lst (vs++ws)))) ds f L:=λ{ds f L} r n=>r.keep (M:=λb=>b=a) (λb o i h=>by rw[aF h];exact i) (λb e=>by rw[e];exact ma) λb i e=>n (by rw[<- e];exact i)
     exact q (.lst (vs++ws)) (u++w) #[.non,.non,[],.z] (.lst bu ((keeps rs na).append (keeps g λh=>l (E6 _ h)))) rfl (λc k=>by
      rcases Ff.mp k with h | h
      .exact .inl h
      .exact .inr #[_,E5,E6 _ h]) rfl rfl .non λc k=>by cases k
    .exact nsE e
   | _=>exact nsE e
 | _=>exact nsE e
def p7:D->List D->Option (D×D)
 | .lst xs,[.int i,d]=>(ixN xs.length i).map λj=>(.lst (xs.set j d),.non)
 | _,_=>none
theorem Reps.set:∀ {ds:List D} {vs:List V} {L L':List Addr} {d:D} {v:V} (j:Nat),Reps (Rep K H) ds vs L->Rep K H d v L'->∃ L2,Reps (Rep K H) (ds.set j d) (vs.set j v) L2/\∀ c∈L2,c∈L\/c∈L'
 | _,_,_,_,_,_,j,.nil,_=>#[[],.nil,λc a=>by cases a]
 | _,_,_,L',_,_,0,.cons (L:=L1) (L':=L1') r rs,r'=>⟨L'++L1',.cons r' rs,λc a=>by
  rcases Ff.mp a with h | h
  .exact .inr h
  .exact .inl (Fb _ h)⟩
 | _,_,_,L',_,_,j+1,.cons (L:=L1) (L':=L1') r rs,r'=>by
  obtain ⟨L2,h1,h2⟩:=Reps.set j rs r'
  refine #[L1++L2,.cons r h1,λc a=>?_]
  rcases Ff.mp a with h | h
  .exact .inl (E9 _ h)
  .rcases h2 c h with h | h
   .exact .inl (Fb _ h)
   .exact .inr h
theorem set1 (a:D):p7 (.lst xs) [a]=none:=by cases a <;> rfl
theorem set3' (a:D):p7 (.lst xs) (a::b::c::r)=none:=by cases a <;> rfl
theorem uh:MutD K (mr qj) p7:=λa d u as H Q p r m na ra g e q=>by
 cases d with
 | lst xs =>
  obtain ⟨_,vs,_,e1,w,s,rs⟩:=r.view
  cases e1
  cases w
  match as,e,ra,g with
  | [],e,_,_=>exact nsE e
  | [y],e,_,_=>exact nsE ((set1 y.d).symm.trans e)
  | y::_::_::_,e,_,_=>exact nsE ((set3' y.d).symm.trans e)
  | [k,y],e,ra,g =>
   have t:=ra k E5
   have B:=ra y (E6 _ E5)
   have x:=g y (E6 _ E5)
   obtain ⟨kd,E,C,F⟩:=k
   dsimp only at t
   cases kd with
   | int i =>
    obtain ⟨rfl,rfl⟩:=t.view
    obtain ⟨j,h1,h2⟩:=E8.mp (show (ixN xs.length i).map (λj=>(D.lst (xs.set j y.d),D.non))=some p from e)
    subst h2
    refine #[.int i,y.v,rfl,a,vs,i,j,rfl,rfl,s,by rw[<- rs.len];exact h1,?_]
    have ma:MutAt H a:=.inl #[_,s]
    have n:Rep K (upd H a (.lst (vs.set j y.v))) y.d y.v y.L:=B.keep (M:=λb=>b=a) (λb o f h=>by rw[aF h];exact f) (λb e=>by rw[e];exact ma) λb f e=>x (by rw[<- e];exact f)
    have keeps:Reps (Rep K (upd H a (.lst (vs.set j y.v)))) xs vs u:=rs.keep (M:=λb=>b=a) (λb o f h=>by rw[aF h];exact f) (λb e=>by rw[e];exact ma) λb f e=>na (by rw[<- e];exact f)
    obtain ⟨L2,h3,A⟩:=keeps.set j n
    exact q (.lst (vs.set j y.v)) L2 #[.non,.non,[],.z] (.lst bu h3) rfl (λc l=>(A c l).imp id λh=>#[y,E6 _ E5,h]) rfl rfl .non λc l=>by cases l
   | _=>exact nsE e
 | _=>exact nsE e
theorem t0 {i:Nat} {x:Str} {id:String} (o:PlainAttrs Ty) (slot:Slot Ty nm id) (j:typeOf (.builtin id)=pure (.type "method_descriptor")) (hm:MtR X id r) (l:MutD X.K r f) (hok:∀ d v L H,ok d=true->Rep X.K H d v L->tyV X.K Ty v H) (k:PE X (.Name x pn) (pS i)) (m:RA X G0 W0 (e::es) ms) (b:attributeBase (.Name x pn) nm X.env (eval (.Name x pn) X.env)=eval (.Name x pn) X.env) (g:((backTo cpos (starEach (e::es) X.env)).all (λx=>!x.1) && (backToKw cpos (keywordEach [] X.env)).all (λx=>x.1.isSome) && decide ((e::es).length+([]:List Keyword).length+(if ([]:List Keyword).isEmpty then 0 else 1) < 30))=true) (c:(apos.endLine == cpos.line)=true) (n:starEach (e::es) X.env=(false,eval e X.env)::starEach es X.env) (a:(backTo cpos (starEach es X.env)).any (·.1)=false):RE X G0 W0 (.Call (.Attribute (.Name x pn) nm apos) (e::es) [] cpos) (vK ok f i ms) :=
 #[PE.imp (pe_bm o slot j hm k m.h b g c n a) λ_ _ _ h=>CQ l hok h]
theorem Db {i:Nat} {x:Str} (l:wA X t) (g:MutD X.K (mr t) f) (c:PE X (.Name x pn) (pS i)) (d:RE X G0 W0 k mk) (m:RE X G0 W0 e mv) (j:∀ v,assign (.Subscript (.Name x pn) k p2) X.env v=(do
   let a <- holding [v] (eval (.Name x pn) X.env)
   let b <- holding [v,a] (eval k X.env)
   standAt p2
   holding [v,a,b] (setItem a b v)
   release [v,a,b] [])) (h1:swapsWithSole [.Subscript (.Name x pn) k p2] e pos.line X.env=pure false) (h2:swappedStores [.Subscript (.Name x pn) k p2] e X.env=pure none) (h3:(assignEach [.Subscript (.Name x pn) k p2] X.env).map (·.2)=[assign (.Subscript (.Name x pn) k p2) X.env]):RS X G0 W0 (.Assign [.Subscript (.Name x pn) k p2] e pos) (p9 f i mk mv) :=
 #[PS.imp (xI m.h (DF c d.h l j) h1 h2 h3) λ_ _ _ h=>CF g h]
end
section
variable {K:FG} {G G0:Gm} {W W0:D->Sto->Prop} {H H':Hp} {O:St} {Z Z':Sto} {T T':List It3} {g:Nat->Option It3} {x y z:It3} {α β:Type} {X:Cx} {L:List Addr}
theorem xu:PTs τ [] (tT K (bq ix) noX b9):=λpins s O H Q I h=>Az pins s O H Q I (CA h)
theorem xt (h:RT τ (bq ix) noX c m):PTs τ [c] (tT τ.K (bq ix) noX m):=Ay h.h
theorem pc (h:(ix.filterMap id).Nodup):Inj ix:=by
 intro j k i a b
 induction ix generalizing j k with
 | nil=>simp at a
 | cons o ix ih =>
  grind
def jI:SM:=λ_=>none
theorem xr:RS X G0 W0 st jI:=⟨PS.imp xH λ_ _ _ h=>by
 refine h.use λG W le Z T g r Z' w e q=>?_
 cases e⟩
theorem pU (ho:OpD K r f) (z:OpD K r' f') (h:tE K G0 W0 (ff f f' ma mb mc) O H Q):oI r r' (tE K G0 W0 ma) (tE K G0 W0 mb) (tE K G0 W0 mc) O H Q:=by
 refine h.use λG W le Z T g o Z' w e q=>?_
 refine tE.seq le w e q.err λra Z1 e1 va H1 #[Ts,g1,w1,a1]=>?_
 refine tE.seq le w1 e1 q.err λrb Z2 ρ vb H2 #[Us,g2,j,a2]=>?_
 obtain ⟨da,d1,τ⟩:=aO ρ
 obtain ⟨db,d2,e4⟩:=aO τ
 obtain ⟨k,e5,C⟩:=kM e4
 obtain ⟨P,L,f1,f2⟩:=a1.item j (λx b=>Fb _ (E9 _ b)) d1
 obtain ⟨σ,M,f3,f4⟩:=a2.item j (λx b=>E9 _ b) d2
 obtain ⟨p,U,e8⟩:=FI.mp e5
 have hp:=zq e8
 subst f1 f2 f4
 rw[<- f3] at U
 refine ho P σ H2 _ p (j.itm L).arg (j.itm M).arg U λu H3 E ud uf=>?_
 have X:=j.push E λc h=>j.kids (ys:=[P,σ]) (λy i=>by
  rcases Fc.mp i with h | i
  .rw[h];exact L
  .rw[FJ.mp i];exact M) h
 have R:=E.rep
 rw[ud,hp] at R
 refine #[k,R.bl_eq.1,?_]
 have J:=X.sub (List.sublist_cons_self u _)
 cases k with
 | false =>
  cases C
  have d:=J.sub (T':=T) ((Fm Ts T).trans (Fm Us _))
  exact q _ _ (d.const (.bl false))
 | true =>
  simp only[if_true] at C ⊢
  refine tE.seq le J C q.err λrc Z5 e9 vc H5 #[m,S,d,a5]=>?_
  obtain ⟨t,d3,D⟩:=aO e9
  obtain ⟨dc,d4,n⟩:=aO D
  obtain ⟨p',a,rfl,rfl⟩:=cu n
  obtain ⟨l,N,f5,f6⟩:=a2.item d (λx b=>Fb _ (E9 _ b)) d3
  obtain ⟨V,F,f7,f8⟩:=a5.item d (λx b=>E9 _ b) d4
  cases A:f' t dc with
  | none=>rw[A] at a;exact nsE a
  | some s =>
   rw[A] at a
   cases a
   have I:=d
   rw[show m++(Us++(Ts++T))=(m++(Us++Ts))++T by simp] at I
   have v:Itm ((m++(Us++Ts))++T) S l:=by simpa using N
   have B:Itm ((m++(Us++Ts))++T) S V:=by simpa using F
   rw[<- f6,<- f8]
   refine z l V H5 Q s (d.itm N).arg (d.itm F).arg (by rw[f5,f7];exact A) (qX I (λy i=>?_) q)
   rcases Fc.mp i with h | i
   .rw[h];exact v
   .rw[FJ.mp i];exact B
theorem qh (k:OpR X (compareOp op) r) (hd:OpD X.K r f) (e:OpR X (compareOp op') r') (d:OpD X.K r' f') (g:RE X G0 W0 a ma) (j:RE X G0 W0 b mb) (i:RE X G0 W0 c mc) (h:PE X a (tE X.K G0 W0 ma)->PE X b (tE X.K G0 W0 mb)->PE X c (tE X.K G0 W0 mc)->PE X (.Compare a [op,op'] [b,c] pos) (oI r r' (tE X.K G0 W0 ma) (tE X.K G0 W0 mb) (tE X.K G0 W0 mc))):RE X G0 W0 (.Compare a [op,op'] [b,c] pos) (ff f f' ma mb mc):=#[PE.imp (h g.h j.h i.h) λ_ _ _ h=>pU hd d h]
theorem jJ (c:OpR X (compareOp op) r) (hd:OpD X.K r f) (e:RE X G0 W0 a ma) (d:RE X G0 W0 b mb) (hm:behindInMarks op b=false):RT X G0 W0 (.Compare a [op] [b] pos) (cB (ah f ma mb)):=#[PT.imp (AA c e.h d.h hm) λ_ _ _ h=>kF hd (CC h)]
theorem qd (g:OpR X (compareOp op) r) (hd:OpD X.K r f) (d:OpR X (compareOp op') r') (e:OpD X.K r' f') (i:RE X G0 W0 a ma) (k:RE X G0 W0 b mb) (j:RE X G0 W0 c mc) (hm:lastMarks [op,op'] [b,c]=false):RT X G0 W0 (.Compare a [op,op'] [b,c] pos) (cB (ff f f' ma mb mc)):=#[PT.imp (xD g d i.h k.h j.h hm) λ_ _ _ h=>pU hd e (CC h)]
def i8 (n:Nat):List D->List D
 | []=>[]
 | d::ds=>.tup [.int n,d]::i8 (n+1) ds
theorem kS:∀ {ds:List D} {n i:Nat},(i8 n ds)[i]?=(ds[i]?).map λd=>.tup [.int ((n+i:Nat):Int),d]
 | [],n,i=>by simp[i8]
 | d::ds,n,0=>by simp[i8]
 | d::ds,n,i+1=>by
  show (i8 (n+1) ds)[i]?=_
  rw[kS]
  simp only[List.getElem?_cons_succ]
  rw[show n+1+i=n+(i+1) by lia]
theorem kR:∀ {ds:List D} {n:Nat},(i8 n ds).length=ds.length
 | [],_=>rfl
 | d::ds,n=>by simp[i8,kR]
def sO (ms:M3 (List R3)):IM:=ag ms λrs=>ag (fm rs) λds=>bm (match ds with
 | [.lst xs]=>some (rs,i8 0 xs)
 | _=>none)
theorem zT (h:tI K G0 W0 (sO ms) O H R):Ck K (tA K G0 W0 ms) O H R:=by
 obtain ⟨G,W,le,Z,T,g,o,Z',w,e,q⟩:=h
 have m:∀ x,o=.error x->W x Z':=λx n=>by subst n;exact q
 refine tA.seq le w e m λrs Z1 e1 vs H1 Ts g1 C a1=>?_
 obtain ⟨ds,j,t⟩:=cv e1
 obtain ⟨p,l,rfl,rfl⟩:=cu t
 have inv:∃ xs,ds=[.lst xs]/\p=(rs,i8 0 xs):=by
  split at l
  .cases l;exact #[_,rfl,rfl]
  .exact nsE l
 obtain ⟨xs,rfl,rfl⟩:=inv
 match rs,j,a1,q with
 | [],j,_,_=>cases j
 | r::r'::rs,j,_,_ =>
  obtain ⟨_,_,f⟩:=aO (k:=λd=>ag (fm (r'::rs)) λds=>a9 (d::ds)) j
  obtain ⟨ab,e6,e7⟩:=cv f
  obtain ⟨_,_,e8⟩:=aO (k:=λd=>ag (fm rs) λds=>a9 (d::ds)) e6
  obtain ⟨a0,_,e9⟩:=cv e8
  cases e9
  cases e7
 | [r],j,a1,q =>
  obtain ⟨d,B,f⟩:=aO (k:=λd=>ag (fm []) λds=>a9 (d::ds)) j
  have hd:d=.lst xs:=by
   have f:some ((.ok [d],Z'):Except D (List D)×Sto)=some (.ok [.lst xs],Z'):=f
   cases f;rfl
  subst hd
  cases a1 with
  | @cons _ v Ts1 _ vs1 Us1 a as =>
   cases as with
   | nil =>
    obtain ⟨y,V,y2,F⟩:=Ar.item2 (T:=T) (by simpa using C) a B
    have hy:Itm (([]++Ts1)++T) g1 y:=by
     rcases F with ⟨i,_,ρ⟩ | h
     .exact .inl #[i,ρ]
     .exact .inr (by simpa using E9 T h)
    have U:=(C.itm hy).arg
    have qq:∀ J,Walk K J H1 [y] (i8 0 xs)->R J H1:=λJ hw=>q J H1 [v] ([]++Ts1) g1 [y] C (.cons a .nil) (λz hz=>by
     rw[FJ.mp hz]
     rcases F with h | h
     .exact .inl h
     .exact .inr (by simpa using h)) hw
    clear q
    subst y2
    have E:=U
    obtain ⟨yd,τ,yL,yf⟩:=y
    obtain ⟨P,oo⟩:=U
    dsimp only at P V
    subst V
    cases P with
    | @lst _ pa vs La ha rs =>
     refine #[pa,rfl,#[_,SqL.of ha],qq _ ?_]
     obtain ⟨ws,h1,h2,h3⟩:=Reps.split rs
     refine #[ws,λx n=>#[(h3 x n).1,(h3 x n).2.1,λc A=>o6 (y:=#[.lst xs,.ref pa,pa::La,yf]) E5 E rfl rfl c ((h3 x n).2.2 c A)],λM H' hm σ N=>?_]
     have sq:SqL K H' pa vs:=SqL.of (σ pa _ ha (N _ E5 pa E5))
     refine #[λi d hd=>?_,by rw[kR];exact #[vs,sq,by rw[<- rs.len];exact Fq _]]
     rw[kS] at hd
     obtain ⟨I,s,rfl⟩:=E8.mp hd
     have hw:∃ u,ws[i]?=some u/\u.d=I:=by
      rw[<- h1,Fp] at s
      obtain ⟨u,a,b⟩:=E8.mp s
      exact #[u,a,b]
     obtain ⟨u,S,ud⟩:=hw
     have Q:vs[i]?=some u.v:=by rw[<- h2,Fp,S];rfl
     have hu:=Fj S
     refine #[#[vs,u.v,sq,Q],λx az #[Tt,τ,e1,t,l,B]=>?_]
     have f:=B vs sq
     rw[Q] at f
     cases f
     subst e1 l
     have ru:Rep K H' u.d u.v u.L:=(h3 u hu).2.1.keep σ hm λb X=>N _ E5 b (E6 _ ((h3 u hu).2.2 b X))
     refine #[#[.tup [.int ((0+i:Nat):Int),I],.ref Tt,[]++(u.L++[]),.z],xY t (.cons (L:=[]) (by rw[FA];exact .int _) (.cons (by rw[<- ud];exact ru) .nil)) (λc A=>#[u,hu,by simpa using A]),rfl,rfl,rfl]
theorem Ap {k:Nat} (hg:Gl X "enumerate") (hm:X.mg "enumerate"=none) (c:RA X G0 W0 [a] ms) (b:starEach [a] X.env=[(false,eval a X.env)]):RI X G0 W0 (.Tuple elts k tp) (.Call (.Name "enumerate" p) [a] [] pos) (sO ms):=#[PI.imp (AN hg hm c.h b) λ_ _ _ h=>zT h]
end
end L3
namespace L3
theorem AJ {i:Nat} (h:mask.length<=i):prM mask i=false:=by
 unfold prM
 rw[List.getElem?_eq_none h]
end L3
end
section
namespace L3
open PySem L2
structure Bl (mg:Str->Option Value):Prop where
 len:mg "len"=none
 range:mg "range"=none
 abs:mg "abs"=none
 divmod:mg "divmod"=none
 enumerate:mg "enumerate"=none
 tuple:mg "tuple"=none
 isinstance:mg "isinstance"=none
 int:mg "int"=none
 bool:mg "bool"=none
 all:mg "all"=none
 str:mg "str"=none
 max:mg "max"=none
 min:mg "min"=none
 list:mg "list"=none
 dict:mg "dict"=none
 repr:mg "repr"=none
 sorted:mg "sorted"=none
 set:mg "set"=none
 zip:mg "zip"=none
 reversed:mg "reversed"=none
 sum:mg "sum"=none
theorem b_len:bootBuiltins "len"=some (.builtin "len"):=by decide +kernel
theorem b_abs:bootBuiltins "abs"=some (.builtin "abs"):=by decide +kernel
theorem zp:bootBuiltins "divmod"=some (.builtin "divmod"):=by decide +kernel
theorem uV:bootBuiltins "tuple"=some (.type "tuple"):=by decide +kernel
theorem pG:bootBuiltins "isinstance"=some (.builtin "isinstance"):=by decide +kernel
theorem Cq:bootBuiltins "int"=some (.type "int"):=by decide +kernel
theorem EX:bootBuiltins "bool"=some (.type "bool"):=by decide +kernel
theorem b_all:bootBuiltins "all"=some (.builtin "all"):=by decide +kernel
theorem b_max:bootBuiltins "max"=some (.builtin "max"):=by decide +kernel
theorem b_min:bootBuiltins "min"=some (.builtin "min"):=by decide +kernel
theorem b_sum:bootBuiltins "sum"=some (.builtin "sum"):=by decide +kernel
section
variable {K:FG} {G G0:Gm} {W W0:D->Sto->Prop} {H H':Hp} {O:St} {Z Z':Sto} {T T':List It3} {g:Nat->Option It3} {x y z:It3} {α β:Type} {X:Cx} {L:List Addr}
theorem zW (h:tE K G0 W0 m O H Q) (f:∀ v H,Q v H->Q' v H):tE K G0 W0 m O H Q':=by
 refine h.use λG W le Z T g o Z' w e q=>?_
 refine tE.mk le w e ?_
 cases o with
 | ok r=>exact λv H' g=>f v H' (q v H' g)
 | error x=>exact q
def Ch:D->Option String
 | .non=>some "NoneType" | .bl _=>some "bool" | .int _=>some "int" | .str _=>some "str"
 | .tup _=>some "tuple" | .lst _=>some "list" | .fls _=>some "list" | .dk _=>some "dict" | .dt _=>some "dict" | .exc _ _=>none
def vS (t:String) (d:D):Option (D×Fl):=(Ch d).map λk=>(.bl (qP k t),.z)
theorem Rep.kind (r:Rep K H d v L) (e:Ch d=some k):KindOf K H v k:=by
 cases r with
 | non=>cases e;exact .non
 | bl b=>cases e;exact .bool b
 | int i=>cases e;exact .int i
 | str s=>cases e;exact .str s
 | tup h _=>cases e;exact .tuple (SqT.of h)
 | lst h _=>cases e;exact .list (SqL.of h)
 | lstF h _=>cases e;exact .list h.sq
 | dK h _ _=>cases e;exact .dK h
 | dT h _ _=>cases e;exact .dT h
 | exc _ _=>cases e
 | excV _ _ _ _ _ _ _ _=>cases e
theorem sh (j:dU X (.builtin "isinstance") (λxs H Q=>∃ x k,xs=[x,.ty t]/\KindOf X.K H x k/\Q (.bl (qP k t)) H)) (hg:Gl X "isinstance") (hm:X.mg "isinstance"=none) (f:PE X (.Name tn pT) (tC (.ty t))) (i:RE X G0 W0 a ma) (b:starEach [a,.Name tn pT] X.env=(false,eval a X.env)::starEach [.Name tn pT] X.env) (c:starEach [.Name tn pT] X.env=(false,eval (.Name tn pT) X.env)::starEach [] X.env) (d:(backTo pos (starEach [.Name tn pT] X.env)).any (·.1)=false):RE X G0 W0 (.Call (.Name "isinstance" p) [a,.Name tn pT] [] pos) (mUn (vS t) ma) :=
 ⟨PE.imp (qp j hg hm pG (oY i.h (oY f xS c) b) (by decide) (by decide) b d) λO H Q h=>by
  have h:=BY (r:=λx H Q=>∃ k,KindOf X.K H x k/\Q (.bl (qP k t)) H) (λa H Q p ra e q=>by
   obtain ⟨k,h1,h2⟩:=E8.mp e
   subst h2
   exact #[k,ra.rep.kind h1,q #[.bl (qP k t),.bl (qP k t),[],.z] H (eg (.bl _)) rfl rfl]) h
  refine zW h λx H1 #[k,g,q]=>?_
  exact ⟨x,k,rfl,g,q⟩⟩
def yz:D->Option Key
 | .int i=>some (.inl i)
 | .str s=>some (.inr s)
 | _=>none
def fS:List D->Option (List Key)
 | []=>some []
 | d::ds=>match yz d,fS ds with
  | some k,some ks=>some (k::ks)
  | _,_=>none
theorem vO (r:Rep K H d v L) (e:yz d=some k):v=kV k:=by
 cases r <;> cases e <;> rfl
theorem iZ:∀ {ds:List D} {vs:List V} {L:List Addr} {ks:List Key},Reps (Rep K H) ds vs L->fS ds=some ks->vs=ks.map kV
 | _,_,_,ks,.nil,e=>by cases e;rfl
 | _,_,_,ks,.cons (d:=d) (ds:=ds) r rs,e=>by
  unfold fS at e
  cases h1:yz d with
  | none=>rw[h1] at e;exact nsE e
  | some k =>
   cases h2:fS ds with
   | none=>rw[h1,h2] at e;exact nsE e
   | some ks' =>
    rw[h1,h2] at e
    cases e
    rw[vO r h1,iZ rs h2];rfl
def gi (a:List (List Key×D)) (k:List Key):Option D:=(a.find? λb=>decide (b.1=k)).map (·.2)
def iG (a:List (List Key×D)) (k:List Key) (v:D):List (List Key×D) :=
 if (a.any λb=>decide (b.1=k))=true then a.map (λb=>if b.1=k then (b.1,v) else b) else a++[(k,v)]
theorem qT:∀ {b:List (List Key×D)} {ps:List (List Key×V)} {L:List Addr} {k:List Key} {d:D},b.map (·.1)=ps.map (·.1)->Reps (Rep K H) (b.map (·.2)) (ps.map (·.2)) L->gi b k=some d->∃ v L',lC ps k=some v/\Rep K H d v L'/\∀ c∈L',c∈L
 | [],ps,L,k,d,hk,r,e=>by cases e
 | g::b,[],L,k,d,hk,r,e=>by cases hk
 | g::b,p::ps,L,k,d,hk,r,e=>by
  have f:g.1=p.1/\b.map (·.1)=ps.map (·.1):=by simpa using hk
  generalize j:(g::b).map (·.2)=xs at r
  generalize l:(p::ps).map (·.2)=ys at r
  cases r with
  | nil=>cases j
  | cons a as =>
   cases j
   cases l
   unfold gi at e
   rw[List.find?_cons] at e
   by_cases h:g.1=k
   .rw[Fw h] at e
    cases e
    exact #[_,_,jQ (f.1.symm.trans h),a,λc i=>E9 _ i]
   .rw[Fy h] at e
    obtain ⟨v,L',h1,h2,h3⟩:=qT f.2 as e
    exact #[v,L',by rw[jR (λz=>h (f.1.trans z))];exact h1,h2,λc i=>Fb _ (h3 c i)]
def qU:D->D->Option (D×Fl)
 | .dt kvs,.tup ks=>match fS ks with
  | some k=>(gi kvs k).map λd=>(d,.z)
  | none=>none
 | _,_=>none
def t9:R2:=λx y H Q=>∃ a v,x=.ref a/\DGet H a y (some v)/\Q v H
theorem A5:OpD K t9 qU:=λa b H Q p ra rb e q=>by
 obtain ⟨da,C,B,j⟩:=a
 obtain ⟨db,w,x,A⟩:=b
 have f:=ra
 obtain ⟨ra,u⟩:=ra
 obtain ⟨rb,ob⟩:=rb
 dsimp only at ra rb e
 cases da with
 | dt kvs =>
  obtain ⟨h,ps,i,rfl,rfl,⟨n,m⟩,l,rs⟩:=ra.view
  cases db with
  | tup ks =>
   obtain ⟨s,ws,rfl,r,g⟩:=rb.view
   have e:(match fS ks with | some k=>(gi kvs k).map λd=>(d,Fl.z) | none=>none)=some p:=e
   cases h1:fS ks with
   | none=>rw[h1] at e;exact nsE e
   | some k =>
    rw[h1] at e
    obtain ⟨d,h2,h3⟩:=E8.mp (show (gi kvs k).map (λd=>(d,Fl.z))=some p from e)
    subst h3
    have hw:=iZ g h1
    subst hw
    obtain ⟨v,L',g1,g2,g3⟩:=qT l rs h2
    refine #[h,v,rfl,by rw[<- g1];exact DGet.t m r,q #[d,v,L',.z] H (qA g2 λc o=>?_) rfl rfl]
    exact o6 (y:=#[.dt kvs,.ref h,h::i,j]) E5 f rfl rfl c (g3 c o)
  | _=>exact nsE e
 | _=>exact nsE e
open PySem.Spec PyProof.Rows in
theorem Bq (hu:X.A.units+1 < cLine):IxR X t9:=by
 intro value slice pins s O H x y v u Q I c e h d
 obtain ⟨a,w,rfl,g,q⟩:=h
 cases c
 have hT:=q8 I g
 unfold subscriptTail
 refine E2 ?_
 rw[getitemInPython_of_ne hT.not_modules]
 refine E2 (wpAny_specialOf hT PySem.F.slot_dict_getitem.lookup ?_)
 have fin:wpAny (model X.prog X.w) X.A (subscripted slice false (.ref a) u) (λr f=>wpAny (model X.prog X.w) X.A (letTemporaryGo value (.ref a) r >>= λ_=>pure r) (EP X pins O Q) X.xe f) X.xe s:=by
  rw[d]
  exact wpAny_operating (wc hu I g e λi s3 b rw'=>E2 (wpAny_letTemporaryGo (E3 #[w,H,b,rw',q])))
 first
  | exact E3 (E2 fin)
  | exact E2 (E3 (E2 fin))
  | exact E2 fin
abbrev aC:=orD ixD qU
theorem DY:OpD K (λx y H Q=>(si K x y H Q\/xB K x y H Q)\/t9 x y H Q) aC:=od_ix.or A5
theorem Ev (hu:X.A.units+1 < cLine):IxR X (λx y H Q=>(si X.K x y H Q\/xB X.K x y H Q)\/t9 x y H Q):=ix_ok.or (Bq hu)
def sK:EM:=a9 (.val (.dt []) .u)
theorem xz:RE X G0 W0 (.Dict [] [] pos) sK:=⟨PE.imp xR λO H Q h=>by
 refine h.use λG W le Z T g o Z' w e q=>?_
 cases e
 intro p a
 refine q _ _ (Wf.done (Us:=[]) (ys:=[]) (x:=#[.dt [],.ref p,[p],.u]) w (λ_ h=>(by cases h)) #[ce a,.dT bu rfl .nil,λc b=>?_,λ_=>#[rfl,p,[],rfl,rfl,(by simp),a]])
 rw[FJ.mp b];exact .inl a⟩
def uc:D->List D->Option (D×D)
 | .dt kvs,[.tup ks,v]=>match fS ks with
  | some k=>if kvs.length < 16777216 then some (.dt (iG kvs k v),.non) else none
  | none=>none
 | _,_=>none
def t7:BQ:=λo i v H Q=>∃ a H',o=.ref a/\DPut H a i v H'/\Q H'
theorem wY (hu:X.A.units+1 < cLine):wA X t7:=by
 intro pins s O H o i v j f u Q I e c b h
 obtain ⟨a,H',rfl,g,q⟩:=h
 cases e
 exact wb hu I g c b λs' d=>#[H',d,q]
theorem ql:∀ {b:List (List Key×D)} {ps:List (List Key×V)} {L L':List Addr} {k:List Key} {d:D} {v:V},b.map (·.1)=ps.map (·.1)->Reps (Rep K H) (b.map (·.2)) (ps.map (·.2)) L->Rep K H d v L' ->
  ∃ L2,Reps (Rep K H) ((b.map λe=>if e.1=k then (e.1,d) else e).map (·.2)) ((ps.map λe=>if e.1=k then (e.1,v) else e).map (·.2)) L2/\(∀ c∈L2,c∈L\/c∈L')
 | [],[],L,L',k,d,v,hk,r,rd=>#[[],.nil,λc g=>by cases g]
 | [],_::_,_,_,_,_,_,hk,_,_=>by cases hk
 | _::_,[],_,_,_,_,_,hk,_,_=>by cases hk
 | e::b,p::ps,L,L',k,d,v,hk,r,rd=>by
  have f:e.1=p.1/\b.map (·.1)=ps.map (·.1):=by simpa using hk
  generalize i:(e::b).map (·.2)=xs at r
  generalize j:(p::ps).map (·.2)=ys at r
  cases r with
  | nil=>cases i
  | @cons _ _ L1 _ _ L1' a as =>
   cases i
   cases j
   obtain ⟨L2,h1,h2⟩:=ql (k:=k) f.2 as rd
   by_cases h:e.1=k
   .refine #[L'++L2,?_,λc g=>?_]
    .simp only[Fv,if_pos h,if_pos (f.1.symm.trans h)]
     exact .cons rd h1
    .rcases Ff.mp g with z | z
     .exact .inr z
     .rcases h2 c z with y | y
      .exact .inl (Fb _ y)
      .exact .inr y
   .refine #[L1++L2,?_,λc g=>?_]
    .simp only[Fv,if_neg h,if_neg (λz=>h (f.1.trans z))]
     exact .cons a h1
    .rcases Ff.mp g with z | z
     .exact .inl (E9 _ z)
     .rcases h2 c z with y | y
      .exact .inl (Fb _ y)
      .exact .inr y
theorem zr {a:List (List Key×D)} {ps:List (List Key×V)} (c:a.map (·.1)=ps.map (·.1)):(a.any λb=>decide (b.1=k))=ps.any λb=>decide (b.1=k):=by
 have h1:(a.any λb=>decide (b.1=k))=(a.map (·.1)).any λx=>decide (x=k):=by rw[List.any_map];rfl
 have h2:(ps.any λb=>decide (b.1=k))=(ps.map (·.1)).any λx=>decide (x=k):=by rw[List.any_map];rfl
 rw[h1,h2,c]
theorem qH {b:List (List Key×α)} {d:α}:(b.map λa=>if a.1=k then (a.1,d) else a).map (·.1)=b.map (·.1):=by
 rw[FW]
 refine FX λa _=>?_
 show (if a.1=k then (a.1,d) else a).1=a.1
 split <;> rfl
theorem put1 (a:D):uc (.dt kvs) [a]=none:=by cases a <;> rfl
theorem put3' (a:D):uc (.dt kvs) (a::b::c::r)=none:=by cases a <;> rfl
set_option tactic.hygienic true in
theorem Bc:MutD K (mr t7) uc:=λa d u as H Q p r m na ra s e q=>by
 cases d with
 | dt kvs =>
  obtain ⟨_,ps,_,e1,C,⟨n,x⟩,i,rs⟩:=r.view
  cases e1
  cases C
  match as,e,ra,s with
  | [],e,_,_=>exact nsE e
  | [y],e,_,_=>exact nsE ((put1 y.d).symm.trans e)
  | y::_::_::_,e,_,_=>exact nsE ((put3' y.d).symm.trans e)
  | [k,y],e,ra,s =>
   have A:=ra k E5
   have F:=ra y (E6 _ E5)
   have E:=s y (E6 _ E5)
   obtain ⟨kd,I,G,J⟩:=k
   dsimp only at A
   cases kd with
   | tup ks =>
    obtain ⟨B,ws,rfl,f,w⟩:=A.view
    have e:(match fS ks with | some k=>if kvs.length < 16777216 then some (D.dt (iG kvs k y.d),D.non) else none | none=>none)=some p:=e
    cases h1:fS ks with
    | none=>rw[h1] at e;exact nsE e
    | some key =>
     rw[h1] at e
     dsimp only at e
     split at e
     .rename_i hl
      cases e
      have hw:=iZ w h1
      subst hw
      have hlen:kvs.length=ps.length:=by have:=congrArg List.length i;simpa using this
      refine #[.ref B,y.v,rfl,a,_,rfl,DPut.t x f (by rw[<- hlen,<- szl];exact hl),?_]
      have ma:MutAt H a:=.inr (.inr #[_,_,x])
      have g:Rep K (upd H a (.dT (gx ps key y.v) n)) y.d y.v y.L:=F.keep (M:=λb=>b=a) (λb o f h=>by rw[aF h];exact f) (λb e=>by rw[e];exact ma) λb f e=>E (by rw[<- e];exact f)
      have keeps:Reps (Rep K (upd H a (.dT (gx ps key y.v) n))) (kvs.map (·.2)) (ps.map (·.2)) u:=rs.keep (M:=λb=>b=a) (λb o f h=>by rw[aF h];exact f) (λb e=>by rw[e];exact ma) λb f e=>na (by rw[<- e];exact f)
      have fin:∃ l,Reps (Rep K (upd H a (.dT (gx ps key y.v) n))) ((iG kvs key y.d).map (·.2)) ((gx ps key y.v).map (·.2)) l/\(∀ c∈l,c∈u\/c∈y.L)/\(iG kvs key y.d).map (·.1)=(gx ps key y.v).map (·.1):=by
       generalize upd H a (HO.dT (gx ps key y.v) n)=H2 at keeps g ⊢
       unfold iG gx
       rw[zr i]
       split
       .obtain ⟨L2,g1,g2⟩:=ql (k:=key) i keeps g
        exact #[L2,g1,g2,by rw[qH,qH];exact i]
       .refine #[u++(y.L++[]),?_,λc j=>?_,by rw[List.map_append,List.map_append,i];rfl]
        .rw[List.map_append,List.map_append]
         exact keeps.append (.cons g .nil)
        .rcases Ff.mp j with z | z
         .exact .inl z
         .rw[List.append_nil] at z;exact .inr z
      obtain ⟨l,g1,g2,g3⟩:=fin
      exact q (.dT (gx ps key y.v) n) l #[.non,.non,[],.z] (.dT bu g3 g1) rfl (λc j=>(g2 c j).imp id λh=>#[y,E6 _ E5,h]) rfl rfl .non λc j=>by cases j
     .exact nsE e
   | _=>exact nsE e
 | _=>exact nsE e
def DN (f g:D->List D->Option (D×D)) (a:D) (b:List D):Option (D×D):=match f a b with
 | some p=>some p
 | none=>g a b
theorem MutD.or {f g:D->List D->Option (D×D)} (h:MutD K r f) (h':MutD K r' g):MutD K (λx y H Q=>r x y H Q\/r' x y H Q) (DN f g):=λa d i as H Q p r m na ra c e q=>by
 unfold DN at e
 cases b:f d (as.map (·.d)) with
 | some p'=>rw[b] at e;cases e;exact .inl (h a d i as H Q _ r m na ra c b q)
 | none=>rw[b] at e;exact .inr (h' a d i as H Q p r m na ra c e q)
abbrev nq:=DN p7 uc
theorem Eg:MutD K (mr λo i v H Q=>qj o i v H Q\/t7 o i v H Q) nq:=λa d c as H Q p r m na ra b e q=>by
 rcases MutD.or uh Bc a d c as H Q p r m na ra b e q with ⟨k,v,h1,h2⟩ | ⟨k,v,h1,h2⟩
 .exact #[k,v,h1,.inl h2]
 .exact #[k,v,h1,.inr h2]
theorem z7 (hu:X.A.units+1 < cLine):wA X (λo i v H Q=>qj o i v H Q\/t7 o i v H Q):=by
 intro pins s O H o i v e b u Q I d c a h
 rcases h with h | h
 .exact pZ pins s O H o i v e b u Q I d c a h
 .exact wY hu pins s O H o i v e b u Q I d c a h
end
section
open PySem.Spec PyProof.Rows HT
variable {prog:Program} {w:World} {A:Around} {E:Value->Shared->Prop} {s:Shared}
theorem jt {lo hi:Option Int} (a:IsTup s.heap t items) (e:s.heap.IsSliceOf sl vl vu .none) (pl:IsPart vl lo) (pu:IsPart vu hi) (hw:sIx items.size 0 lo=0/\sIx items.size items.size hi=items.size) (h:Q (.ref t) s) (hsz:items.size<=sizeLine):wpAny (model prog w) A (getItem (.ref t) (.ref sl)) Q E s:=by
 obtain ⟨os,b,d,f⟩:=id e
 have c:s.TypeIs (.ref sl) "slice":=#[os,b,d]
 unfold getItem
 try with_reducible refine E4 ?_
 first | refine E2 (E3 ?_) | skip
 refine E2 (wpAny_sequenceKey a.typeIs (by decide) ?_)
 refine E2 (wpAny_callSpecial?_slot (name:=Str.ofString "__getitem__") a.typeIs PyProof.Rows.slot_tuple_getitem
  (wpAny_call_entry PyProof.Rows.slot_tuple_getitem a.typeIs entry_tuple_getitem ?_ (args_tuple_getitem _ _)))
 show wpAny _ _ (Builtin.Tuple.tupleItemsOf (.ref t) >>= _) _ _ s
 refine E2 (tupleItemsOf_ a ?_)
 refine E2 (wpAny_typeOf c ?_)
 rw[if_pos (by decide)]
 refine E2 (fY e pl pu ?_)
 show wpAny _ _ (if (((sIx items.size 0 lo:Nat):Int) == 0 && (1:Int) == 1 && (sIx items.size items.size hi - sIx items.size 0 lo) == items.size)=true then _ else _) _ _ s
 rw[if_pos (by simp[hw.1,hw.2])]
 refine E2 ?_
 unfold Builtin.Tuple.tupleIsExact
 refine E2 (wpAny_typeOf a.typeIs ?_)
 refine E3 ?_
 rw[if_pos (by decide)]
 exact E2 (wpAny_rule (E3 #[_,rfl,E3 h]))
end
section
variable {K:FG} {G G0:Gm} {W W0:D->Sto->Prop} {H H':Hp} {O:St} {Z Z':Sto} {T T':List It3} {g:Nat->Option It3} {x y z:It3} {α β:Type} {X:Cx} {L:List Addr}
def xA (K:FG):V->Option Int->Option Int->Hp->VK->Prop:=λx lo hi H Q=>∃ a xs,x=.ref a/\SqT K H a xs/\(HT.sIx xs.length 0 lo=0/\HT.sIx xs.length xs.length hi=xs.length)/\Q (.ref a) H
theorem z6:SlR X (xA X.K):=by
 intro pins s O H x v f g lo hi sl Q I d e pl pu h
 obtain ⟨a,xs,rfl,c,hw,q⟩:=h
 cases d
 obtain ⟨its,r,b,hz⟩:=I.tuple c
 have hlen:its.toArray.size=xs.length:=by rw[Fu];exact r.length.symm
 refine #["tuple",_,PyProof.Rows.slot_tuple_getitem.lookup,b.typeIs,?_]
 exact jt b e pl pu (by rw[hlen];exact hw) #[.ref a,H,I,rfl,q] (by rw[hlen];exact hz)
def asI:D->Option Int
 | .int i=>some i
 | _=>none
def qr:M3 (Option Int):=a9 none
def jy (m:EM):M3 (Option Int):=ag m λr=>ag (der r) λd=>bm ((asI d).map some)
def EndP (K:FG) (G:Gm) (W:D->Sto->Prop) (O:St) (T:List It3) (Z':Sto) (Q:Option Int->Hp->Prop):Except D (Option Int)->Prop
 | .ok b=>∀ H' g',Wf K G H' O Z' T g'->Q b H'
 | .error e=>W e Z'
def tP (K:FG) (G0:Gm) (W0:D->Sto->Prop) (m:M3 (Option Int)):TO:=λO H Q=>∃ G W,Le K G W G0 W0/\∃ Z T g r Z',Wf K G H O Z T g/\m Z=some (r,Z')/\EndP K G W O T Z' Q r
structure RP (X:Cx) (G0:Gm) (W0:D->Sto->Prop) (e:Option Expr) (m:M3 (Option Int)):Prop where
 h:PO X e (tP X.K G0 W0 m)
theorem PO.imp (h:PO X e t) (f:∀ O H Q,t' O H Q->t O H Q):PO X e t':=λpins s O H Q I q=>h pins s O H Q I (f O H Q q)
theorem Al:RP X G0 W0 none qr:=⟨PO.imp AL λO H Q h=>by
 obtain ⟨G,W,le,Z,T,g,r,Z',w,e,q⟩:=h
 cases e
 exact q _ _ w⟩
theorem Ak (h:RE X G0 W0 e m):RP X G0 W0 (some e) (jy m):=⟨PO.imp (AK h.h) λO H Q h=>by
 obtain ⟨G,W,le,Z,T,g,r,Z',w,e,q⟩:=h
 have a:∀ x,r=.error x->W x Z':=λx b=>by subst b;exact q
 refine tE.seq le w e a λra Z1 e1 v H1 #[Ts,g1,c,a1]=>?_
 obtain ⟨d,n,l⟩:=aO e1
 obtain ⟨o,j,rfl,rfl⟩:=cu l
 obtain ⟨i,p,s⟩:=E8.mp j
 subst s
 obtain ⟨y,k,f1,f2⟩:=a1.item c (λx b=>E9 _ b) n
 have f:=(c.itm k).rep
 rw[f1] at f
 have hd:d=.int i:=by cases d <;> cases p;rfl
 rw[hd] at f
 refine ⟨i,by rw[<- f2];exact f.int_inv,q _ _ (c.sub (Fm Ts T))⟩⟩
def mSl (f:D->Option Int->Option Int->Option (D×Fl)) (ma:EM) (pl pu:M3 (Option Int)):EM:=ag ma λra=>ag pl λlo=>ag pu λhi=>ag (der ra) λd=>bm ((f d lo hi).map λp=>R3.val p.1 p.2)
def SlD (K:FG) (r:V->Option Int->Option Int->Hp->VK->Prop) (f:D->Option Int->Option Int->Option (D×Fl)):Prop:=∀ (a:It3) (lo hi:Option Int) (H:Hp) (Q:VK) (p:D×Fl),Arg K H a->f a.d lo hi=some p ->
 (∀ w H',New K H H' (fo [a]) w->w.d=p.1->w.f=p.2->Q w.v H')->r a.v lo hi H Q
theorem tP.seq (le:Le K G W G0 W0) (w:Wf K G H O Z T g) (e:ag ma k Z=some (r,Z')) (he:∀ x,r=.error x->W x Z') (h:∀ b Z1,k b Z1=some (r,Z')->∀ H1 g1,Wf K G H1 O Z1 T g1->P b H1):tP K G0 W0 ma O H P:=by
 unfold ag at e
 cases q:ma Z with
 | none=>rw[q] at e;exact nsE e
 | some p =>
  obtain ⟨o,Z1⟩:=p
  rw[q] at e
  cases o with
  | error x=>cases e;exact #[G,W,le,Z,T,g,.error x,Z',w,q,he x rfl]
  | ok ra=>exact #[G,W,le,Z,T,g,.ok ra,Z1,w,q,h ra Z1 e]
theorem tE_sl (hd:SlD K r f) (h:tE K G0 W0 (mSl f ma pl pu) O H Q):tSl r (tE K G0 W0 ma) (tP K G0 W0 pl) (tP K G0 W0 pu) O H Q:=by
 refine h.use λG W le Z T g o Z' w e q=>?_
 refine tE.seq le w e q.err λra Z1 e1 A H1 #[Ts,g1,t,a1]=>?_
 refine tP.seq le t e1 q.err λlo Z2 l H2 g2 v=>?_
 refine tP.seq le v l q.err λhi Z3 j m g3 b=>?_
 obtain ⟨d,n,u⟩:=aO j
 obtain ⟨p,a,rfl,rfl⟩:=cu u
 obtain ⟨y,i,f1,f2⟩:=a1.item b (λx k=>E9 _ k) n
 subst f1 f2
 cases c:f y.d lo hi with
 | none=>rw[c] at a;exact nsE a
 | some s =>
  rw[c] at a
  cases a
  exact hd y lo hi m Q s (b.itm i).arg c (qX b (λz hz=>by rw[FJ.mp hz];exact i) q)
theorem Reps.take:∀ {ds:List D} {vs:List V} {L:List Addr} (n:Nat),Reps (Rep K H) ds vs L->∃ L',Reps (Rep K H) (ds.take n) (vs.take n) L'/\∀ c∈L',c∈L
 | _,_,_,0,_=>#[[],by simpa using Reps.nil,λc a=>by cases a]
 | _,_,_,n+1,.nil=>#[[],by simpa using Reps.nil,λc a=>by cases a]
 | _,_,_,n+1,.cons (L:=L1) r rs=>by
  obtain ⟨L',h1,h2⟩:=Reps.take n rs
  exact ⟨L1++L',by simpa using Reps.cons r h1,λc a=>by
   rcases Ff.mp a with h | h
   .exact E9 _ h
   .exact Fb _ (h2 c h)⟩
theorem Reps.drop:∀ {ds:List D} {vs:List V} {L:List Addr} (n:Nat),Reps (Rep K H) ds vs L->∃ L',Reps (Rep K H) (ds.drop n) (vs.drop n) L'/\∀ c∈L',c∈L
 | _,_,L,0,r=>#[L,by simpa using r,λc a=>a]
 | _,_,_,n+1,.nil=>#[[],by simpa using Reps.nil,λc a=>by cases a]
 | _,_,_,n+1,.cons r rs=>by
  obtain ⟨L',h1,h2⟩:=Reps.drop n rs
  exact #[L',by simpa using h1,λc a=>Fb _ (h2 c a)]
theorem Reps.cut (lo hi:Option Int) (r:Reps (Rep K H) ds vs L):∃ L',Reps (Rep K H) (fu ds lo hi) (re vs lo hi) L'/\∀ c∈L',c∈L:=by
 unfold fu re
 rw[<- r.len]
 obtain ⟨d,h1,h2⟩:=r.drop (HT.sIx ds.length 0 lo)
 obtain ⟨L2,h3,b⟩:=h1.take (HT.sIx ds.length ds.length hi - HT.sIx ds.length 0 lo)
 exact #[L2,h3,λc a=>h2 c (b c a)]
def slD:D->Option Int->Option Int->Option (D×Fl)
 | .lst xs,lo,hi=>some (.lst (fu xs lo hi),.u)
 | .fls xs,lo,hi=>some (.lst (fu xs lo hi),.u)
 | .tup xs,lo,hi=>#v[.tup (fu xs lo hi)]
 | _,_,_=>none
theorem sd_sl:SlD K (λx lo hi H Q=>Dt K x lo hi H Q\/(Ds K x lo hi H Q\/xA K x lo hi H Q)) slD:=λa lo hi H Q p ra e q=>by
 obtain ⟨da,m,j,i⟩:=a
 have d:=ra
 obtain ⟨ra,l⟩:=ra
 dsimp only at ra e
 cases da with
 | lst xs =>
  obtain ⟨b,vs,k,rfl,rfl,f,rs⟩:=ra.view
  cases e
  obtain ⟨L',h1,h2⟩:=rs.cut lo hi
  exact .inl #[b,vs,rfl,SqL.of f,λp h=>q #[_,.ref p,p::L',.u] _ (A9 h h1 λc g=>o6 (y:=#[.lst xs,.ref b,b::k,i]) E5 d rfl rfl c (h2 c g)) rfl rfl]
 | fls xs =>
  obtain ⟨b,vs,rfl,f,rs⟩:=ra.view
  cases e
  obtain ⟨L',h1,h2⟩:=rs.cut lo hi
  exact .inl #[b,vs,rfl,f.sq,λp h=>q #[_,.ref p,p::L',.u] _ (A9 h h1 λc g=>lF (y:=#[.fls xs,.ref b,j,i]) E5 d rfl c (h2 c g)) rfl rfl]
 | tup xs =>
  obtain ⟨b,vs,rfl,f,rs⟩:=ra.view
  cases e
  by_cases hw:HT.sIx vs.length 0 lo=0/\HT.sIx vs.length vs.length hi=vs.length
  .have g:fu xs lo hi=xs:=by
    unfold fu
    rw[rs.len,hw.1,hw.2,<- rs.len]
    simp
   rw[g] at q
   exact .inr (.inr #[b,vs,rfl,SqT.of f,hw,q #[.tup xs,.ref b,j,.z] H (qA (.tup f rs) (lF (y:=#[.tup xs,.ref b,j,i]) E5 d rfl)) rfl rfl])
  .obtain ⟨L',h1,h2⟩:=rs.cut lo hi
   exact .inr (.inl #[b,vs,rfl,SqT.of f,hw,λp h=>q #[_,.ref p,L',.z] _ (xY h h1 λc g=>lF (y:=#[.tup xs,.ref b,j,i]) E5 d rfl c (h2 c g)) rfl rfl])
 | _=>exact nsE e
theorem CY:SlR X (λx lo hi H Q=>Dt X.K x lo hi H Q\/(Ds X.K x lo hi H Q\/xA X.K x lo hi H Q)):=sl_list.or (sl_tup.or z6)
theorem xy (he:RE X G0 W0 e m) (hl:RP X G0 W0 lo pl) (hu:RP X G0 W0 hi pu):RE X G0 W0 (.Subscript e (.Slice lo hi none p2) pos) (mSl slD m pl pu):=#[PE.imp (xO CY he.h hl.h hu.h) λ_ _ _ h=>tE_sl sd_sl h]
end
mutual
def pyD:D->Option PyData
 | .non=>some .none
 | .bl b=>some (.bool b)
 | .int i=>some (.int i)
 | .str x=>some (.str x)
 | .tup xs=>(mw xs).map .tuple
 | .lst xs=>(mw xs).map .list
 | .fls xs=>(mw xs).map .list
 | .dk _=>none
 | .dt _=>none
 | .exc _ _=>none
def mw:List D->Option (List PyData)
 | []=>some []
 | d::ds=>match pyD d,mw ds with
  | some p,some ps=>some (p::ps)
  | _,_=>none
end
section
variable {K:FG} {H:Hp} {Ks:Addr->Prop} {d:D} {v:V} {L:List Addr} {X:Cx}
set_option tactic.hygienic true in
theorem Rep.dv (r:Rep K H d v L):∀ p,pyD d=some p->DV K H v p:=by
 refine Rep.rec (motive_1:=λd v _ _=>∀ p,pyD d=some p->DV K H v p) (motive_2:=λds vs _ _=>∀ ps,mw ds=some ps->DVs K H vs ps) ?_ ?_ ?_ ?_ ?_ ?_ ?_ ?_ ?_ ?_ ?_ ?_ ?_ r
 .intro p e;unfold pyD at e;cases e;exact .non
 .intro _ p e;unfold pyD at e;cases e;exact .bl _
 .intro _ p e;unfold pyD at e;cases e;exact .int _
 .intro _ p e;unfold pyD at e;cases e;exact .str _
 .intro xs a vs L h _ b p e
  unfold pyD at e
  obtain ⟨ps,e1,rfl⟩:=E8.mp e
  exact .tup (SqT.of h) (b ps e1)
 .intro xs a vs L h _ b p e
  unfold pyD at e
  obtain ⟨ps,e1,rfl⟩:=E8.mp e
  exact .lst (SqL.of h) (b ps e1)
 .intro xs a vs L h _ b p e
  unfold pyD at e
  obtain ⟨ps,e1,rfl⟩:=E8.mp e
  exact .lst h.sq (b ps e1)
 .intro _ _ _ _ _ _ _ _ p e;unfold pyD at e;exact nsE e
 .intro _ _ _ _ _ _ _ _ _ p e;unfold pyD at e;exact nsE e
 .intros;rename_i e;unfold pyD at e;exact nsE e
 .intros;rename_i e;unfold pyD at e;exact nsE e
 .intro ps e;unfold mw at e;cases e;exact .nil
 .intro d v L ds vs L' _ _ c f ps e
  unfold mw at e
  cases h1:pyD d with
  | none=>rw[h1] at e;exact nsE e
  | some p =>
   cases h2:mw ds with
   | none=>rw[h1,h2] at e;exact nsE e
   | some qs=>rw[h1,h2] at e;cases e;exact .cons (c p h1) (f qs h2)
def eqP (a b:D):Option Bool:=match pyD a,pyD b with
 | some p,some q=>if p.canLay0 && q.canLay0 && decide (min p.depth q.depth<=30) then some (PyData.eqv p q) else none
 | _,_=>none
def eqA (a b:D):Option Bool:=match eqS a b with
 | some k=>some k
 | none=>eqP a b
abbrev eqX (a b:D):Option (D×Fl):=(eqA a b).map λk=>(.bl k,.z)
abbrev neX (a b:D):Option (D×Fl):=(eqA a b).map λk=>(.bl (!k),.z)
def rEqP:R2:=λx y H Q=>∃ p q,DV X.K H x p/\DV X.K H y q/\p.canLay0=true/\q.canLay0=true/\min p.depth q.depth<=30/\Q (.bl (PyData.eqv p q)) H
def rNeP:R2:=λx y H Q=>∃ p q,DV X.K H x p/\DV X.K H y q/\p.canLay0=true/\q.canLay0=true/\min p.depth q.depth<=30/\Q (.bl (!PyData.eqv p q)) H
theorem xV (hu:X.A.units+64 < cLine):OpR X (compareOp .Eq) (λx y H Q=>rEq x y H Q\/rEqP (X:=X) x y H Q):=by
 intro pins s O H x y v u Q I a b h
 rcases h with h | ⟨p,q,h1,h2,h3,c,e,d⟩
 .exact op_eq pins s O H x y v u Q I a b h
 .obtain ⟨as,ra⟩:=DV.reads I h1 a
  obtain ⟨bs,rb⟩:=DV.reads I h2 b
  exact PySem.SeqAt.compareEq_reads ra rb h3 c (by lia) #[.bl _,H,I,rfl,d]
theorem DR (hu:X.A.units+64 < cLine):OpR X (compareOp .NotEq) (λx y H Q=>rNe x y H Q\/rNeP (X:=X) x y H Q):=by
 intro pins s O H x y v u Q I a b h
 rcases h with h | ⟨p,q,h1,h2,h3,c,e,d⟩
 .exact op_ne pins s O H x y v u Q I a b h
 .obtain ⟨as,ra⟩:=DV.reads I h1 a
  obtain ⟨bs,rb⟩:=DV.reads I h2 b
  exact PySem.SeqAt.compareNe_reads ra rb h3 c (by lia) #[.bl _,H,I,rfl,d]
set_option tactic.hygienic true in
theorem uJ (e:eqP a b=some k):∃ p q,pyD a=some p/\pyD b=some q/\p.canLay0=true/\q.canLay0=true/\min p.depth q.depth<=30/\k=PyData.eqv p q:=by
 unfold eqP at e
 cases h1:pyD a with
 | none=>rw[h1] at e;exact nsE e
 | some p =>
  cases h2:pyD b with
  | none=>rw[h1,h2] at e;exact nsE e
  | some q =>
   rw[h1,h2] at e
   dsimp only at e
   split at e
   .rename_i h
    cases e
    simp only[Bool.and_eq_true,decide_eq_true_eq] at h
    exact #[p,q,rfl,rfl,h.1.1,h.1.2,h.2,rfl]
   .exact nsE e
theorem xX:OpD X.K (λx y H Q=>rEq x y H Q\/rEqP (X:=X) x y H Q) eqX:=λa b H Q p ra rb e q=>by
 obtain ⟨k,h1,h2⟩:=E8.mp e
 subst h2
 unfold eqA at h1
 cases c:eqS a.d b.d with
 | some k' =>
  rw[c] at h1
  cases h1
  obtain ⟨s,j⟩:=yY ra.rep rb.rep c
  exact .inl #[s,by rw[<- j];exact q #[.bl k,.bl k,[],.z] H (eg (.bl k)) rfl rfl]
 | none =>
  rw[c] at h1
  obtain ⟨p,f,e1,i,g,h,l,rfl⟩:=uJ h1
  exact .inr #[p,f,ra.rep.dv p e1,rb.rep.dv f i,g,h,l,q #[.bl _,.bl _,[],.z] H (eg (.bl _)) rfl rfl]
theorem Ea:OpD X.K (λx y H Q=>rNe x y H Q\/rNeP (X:=X) x y H Q) neX:=λa b H Q p ra rb e q=>by
 obtain ⟨k,h1,h2⟩:=E8.mp e
 subst h2
 unfold eqA at h1
 cases c:eqS a.d b.d with
 | some k' =>
  rw[c] at h1
  cases h1
  obtain ⟨s,j⟩:=yY ra.rep rb.rep c
  exact .inl #[s,by rw[<- j];exact q #[.bl (!k),.bl (!k),[],.z] H (eg (.bl _)) rfl rfl]
 | none =>
  rw[c] at h1
  obtain ⟨p,f,e1,i,g,h,l,rfl⟩:=uJ h1
  exact .inr #[p,f,ra.rep.dv p e1,rb.rep.dv f i,g,h,l,q #[.bl _,.bl _,[],.z] H (eg (.bl _)) rfl rfl]
def intQ1:D->Option (D×Fl)
 | .int i=>#v[.int i]
 | .bl k=>#v[.int (if k then 1 else 0)]
 | _=>none
abbrev yF:=c1 intQ1
set_option tactic.hygienic true in
theorem BG:iF K (λxs H Q=>(∃ i,xs=[.int i]/\Q (.int i) H)\/∃ k,xs=[.bl k]/\Q (.int (if k then 1 else 0)) H) yF:=λys H Q p ra e q=>by
 obtain ⟨y,rfl,a⟩:=k5 e
 clear e
 have e:=a
 clear a
 have c:=(ra y E5).rep
 obtain ⟨da,d,g,f⟩:=y
 dsimp only at c e
 cases c <;> try (exact nsE e)
 .rename_i b
  cases e
  exact .inr #[b,rfl,q #[_,_,[],.z] H (eg (.int _)) rfl rfl]
 .rename_i i
  cases e
  exact .inl #[i,rfl,q #[_,_,[],.z] H (eg (.int _)) rfl rfl]
end
theorem ED {k:Nat} {nn:Nat} (F:Fun K x x st f fd) (S:FnScope N ps (ai st)) (c:mask.length=ps.length) (b:N.length=nn) (body:∀ (a:Value) (A:Around) (outer:List Env) (s:Shared) (H:Hp) (E:XK) (f:Addr) (G:Gm),Room k (A.deeper (PyProof.Rows.envOfC x (ai st) s.heap.objs.size f a))->G.pr=prM mask->RSs (q9 CX0 P w K mg base N x (ai st) f a A outer s H E).nox G noX (aS st) m) :
  FnOk P w K mg base CX0 (k+1) f fd ps (vd K (fnM mask nn m)):=by
 refine F.ok S (λvs H Q E h=>?_) λa A outer s H vs Q E g h=>?_
 .obtain ⟨i,p,fs,rfl,_,_,j,_⟩:=h
  unfold fnM at j
  grind
 .have hle:mask.length<=nn:=by
   rw[c,<- b]
   have:=congrArg List.length S.pre
   rw[FF] at this
   omega
  obtain ⟨G,d,e⟩:=uB hle h
  subst b
  exact #[_,(body a A outer s H E f G g d).h,e]
def wX (K:FG):Sp:=λvs H Q _=>∃ (a:Addr) (ns:List Int),vs=[.ref a]/\SqL K H a (ns.map V.int)/\BR H/\ns.length<=63/\∀ H',Q (.bl true) H'
theorem nV:∀ ns:List Int,Reps (Rep K H) (ns.map D.int) (ns.map V.int) []
 | []=>.nil
 | n::ns=>.cons (L:=[]) (.int n) (nV ns)
theorem Bo (i:∀ ns:List Int,ns.length<=63->∃ fs,F [(.fls (ns.map .int),.z)]=some (.ok (.bl true,.z),fs)) (h:wX K vs H Q E):vd K F vs H Q E:=by
 obtain ⟨a,ns,rfl,g,c,hn,q⟩:=h
 obtain ⟨fs,e⟩:=i ns hn
 have f:FzL K H a (ns.map V.int):=by
  rcases g with (h | h) | h
  .rcases c a with z | ⟨o,xs,z⟩
   .rw[h] at z;cases z
   .rw[h] at z;cases z
  .exact .inl h
  .exact .inr h
 refine #[[#[.fls (ns.map .int),.ref a,[],.z]],(.bl true,.z),fs,rfl,λp d=>?_,.cons (λ_ h=>by cases h) .nil,e,λx qs H' B b j _=>?_]
 .rw[FJ.mp d]
  exact #[.lstF f (nV ns),λh=>absurd rfl h]
 .have r:=B.rep
  rw[b] at r
  have inv:∀ {v:V} {L:List Addr},Rep K H' (.bl true) v L->v=.bl true:=λr=>by cases r;rfl
  rw[inv r]
  exact q H'
section
variable {K:FG} {G G0:Gm} {W W0:D->Sto->Prop} {H H':Hp} {O:St} {Z Z':Sto} {T T':List It3} {g:Nat->Option It3} {x y z:It3} {α β:Type} {X:Cx} {v:V} {d:D} {L:List Addr}
def bM:List D->Option (List Int)
 | []=>some []
 | .int i::ds=>(bM ds).map (i::·)
 | _=>none
set_option tactic.hygienic true in
theorem jq:∀ {ds:List D} {ns:List Int},bM ds=some ns->ds=ns.map D.int
 | [],ns,e=>by cases e;rfl
 | d::ds,ns,e=>by
  cases d <;> try (exact nsE e)
  rename_i b
  obtain ⟨r,h1,h2⟩:=E8.mp (show (bM ds).map (b::·)=some ns from e)
  subst h2
  rw[jq h1];rfl
theorem Reps.ints:∀ {ns:List Int} {vs:List V} {L:List Addr},Reps (Rep K H) (ns.map D.int) vs L->vs=ns.map V.int
 | [],_,_,.nil=>rfl
 | b::bs,_,_,.cons r rs=>by
  rw[Reps.ints rs]
  cases r;rfl
end
section
variable {K:FG} {G G0:Gm} {W W0:D->Sto->Prop} {H H':Hp} {O:St} {Z Z':Sto} {T T':List It3} {g:Nat->Option It3} {x y z:It3} {α β:Type} {X:Cx} {v:V} {d:D} {L:List Addr}
def redDQ (g:List Int->Option Int):D->D->Option (D×Fl)
 | .lst xs,.non=>(bM xs).map λns=>match g ns with
  | some m=>(.int m,.z)
  | none=>(.non,.z)
 | .lst xs,.int k=>(bM xs).map λns=>match g ns with
  | some m=>(.int m,.z)
  | none=>(.int k,.z)
 | _,_=>none
def inQ (neg:Bool):D->D->Option (D×Fl)
 | .int i,.lst xs=>(bM xs).map λns=>(.bl (if neg then !decide (i∈ns) else decide (i∈ns)),.z)
 | .int i,.tup xs=>(bM xs).map λns=>(.bl (if neg then !decide (i∈ns) else decide (i∈ns)),.z)
 | _,_=>none
abbrev A8:=inQ true
theorem qS {i:Int}:∀ {ns:List Int},inV (.int i) (ns.map V.int)=decide (i∈ns)
 | []=>rfl
 | n::ns=>by
  have a:=qS (i:=i) (ns:=ns)
  unfold inV at a ⊢
  rw[Fv,List.any_cons,a]
  show ((n == i) || decide (i∈ns))=decide (i∈n::ns)
  rw[Bool.eq_iff_iff]
  simp only[Bool.or_eq_true,beq_iff_eq,decide_eq_true_eq,Fc]
  constructor
  .rintro (h | h)
   .exact .inl h.symm
   .exact .inr h
  .rintro (h | h)
   .exact .inl h.symm
   .exact .inr h
theorem vX {ns:List Int}:(ns.map V.int).all jB=true:=by simp[jB]
theorem od_in:OpD K (rIn K neg) (inQ neg):=λa b H Q p ra rb e q=>by
 obtain ⟨da,g,k,j⟩:=a
 obtain ⟨db,m,f,h⟩:=b
 obtain ⟨ra,l⟩:=ra
 obtain ⟨rb,ob⟩:=rb
 dsimp only at ra rb
 have key:∀ {i:Int} {xs:List D} {vs:List V} {L:List Addr} {c:Addr},(SqL K H c vs\/SqT K H c vs)->Reps (Rep K H) xs vs L->((bM xs).map λns=>((.bl (if neg then !decide (i∈ns) else decide (i∈ns)),.z):D×Fl))=some p->rIn K neg (.int i) (.ref c) H Q:=λ{i xs vs L c} d rs e=>by
  obtain ⟨ns,h1,h2⟩:=E8.mp e
  subst h2
  have:=jq h1
  subst this
  have:=rs.ints
  subst this
  exact #[c,ns.map V.int,rfl,d,rfl,vX,by rw[qS];exact q #[.bl _,.bl _,[],.z] H (eg (.bl _)) rfl rfl]
 cases da <;> try (exact nsE e)
 obtain ⟨rfl,rfl⟩:=ra.view
 cases db <;> try (exact nsE e)
 .obtain ⟨c,vs,rfl,d,rs⟩:=rb.view
  exact key (.inr (SqT.of d)) rs e
 .obtain ⟨c,vs,L,rfl,rfl,d,rs⟩:=rb.view
  exact key (.inl (SqL.of d)) rs e
def Di:D->D->Option (D×Fl)
 | .lst xs,.int k=>if decide (-(2 ^ 63)<=k/\k < 2 ^ 63/\xs.length * k.toNat<=16777216) then some (.lst (List.replicate k.toNat xs).flatten,.u) else none
 | _,_=>none
theorem Reps.rep (r:Reps (Rep K H) ds vs L):∀ n:Nat,∃ L',Reps (Rep K H) (List.replicate n ds).flatten (List.replicate n vs).flatten L'/\∀ c∈L',c∈L
 | 0=>#[[],.nil,λ_ h=>by cases h]
 | n+1=>by
  obtain ⟨L',h1,h2⟩:=Reps.rep r n
  refine #[L++L',?_,λc a=>?_]
  .rw[List.replicate_succ,List.replicate_succ,List.flatten_cons,List.flatten_cons];exact r.append h1
  .rcases Ff.mp a with h | h
   .exact h
   .exact h2 c h
set_option tactic.hygienic true in
theorem DZ:OpD K rRep Di:=λa b H Q p ra rb e q=>by
 obtain ⟨da,w,i,j⟩:=a
 obtain ⟨db,s,t,v⟩:=b
 have f:=ra
 obtain ⟨ra,r⟩:=ra
 obtain ⟨rb,ob⟩:=rb
 dsimp only at ra rb
 cases da <;> try (exact nsE e)
 cases db <;> try (exact nsE e)
 rename_i xs k
 obtain ⟨rfl,rfl⟩:=rb.view
 obtain ⟨g,vs,i,rfl,rfl,m,rs⟩:=ra.view
 rcases Decidable.em (-(2 ^ 63)<=k/\k < 2 ^ 63/\xs.length * k.toNat<=16777216) with d | d
 .have e:=(if_pos (Fw d)).symm.trans e
  cases e
  obtain ⟨o,k2,k3⟩:=d
  obtain ⟨L',h1,h2⟩:=rs.rep k.toNat
  exact #[g,k,vs,rfl,rfl,m,o,k2,by rw[<- rs.len,sizeLine_eq];exact k3,λl hl=>q #[_,.ref l,l::L',.u] _ (A9 hl h1 λc n=>o6 (y:=#[.lst xs,.ref g,g::i,j]) E5 f rfl rfl c (h2 c n)) rfl rfl]
 .exact nsE ((if_neg (λh=>d (of_decide_eq_true h))).symm.trans e)
def zF (i j:Int):Prop:=0 < j/\j < 1267650600228229401496703205376
theorem xU:OpR X (binaryOp .FloorDiv) (rI zF λi j=>.int (i / j)):=opI λi j _ _ _ _ _ a q=>by
 have h1:(0:Int) < j:=a.1
 have h2:j < 1267650600228229401496703205376:=a.2
 refine PyProof.Rows.floordiv_int (by lia) (by rw[Int.fdiv_eq_ediv_of_nonneg i (by lia)];exact q) (.inl (PyProof.noPylong_of_log2 ?_))
 have h3:j.natAbs < 2 ^ 100:=by lia
 exact Nat.lt_trans ((Nat.log2_lt (by lia)).mpr h3) (by decide)
abbrev nz:=dF (λ_ j=>decide (0 < j/\j < 1267650600228229401496703205376)) λi j=>.int (i / j)
theorem A6:OpD K (rI zF λi j=>.int (i / j)) nz:=ki (λi j h=>by simpa[zF] using h) λi j _=>.int _
end
end L3
theorem L2.Room.hu {k:Nat} (a:L2.Room k A):A.units+1 < PySem.cLine:=L2.hu_of a
end
section
namespace L3
open PySem L2
section
variable {K:FG} {G G0:Gm} {W W0:D->Sto->Prop} {H H':Hp} {O:St} {Z Z':Sto} {T T':List It3} {g:Nat->Option It3} {x y z:It3} {α β:Type} {X:Cx} {v:V} {d:D} {L:List Addr}
def Ew (x:Int):List Int->List Int
 | []=>[x]
 | y::ys=>if x<=y then x::y::ys else y::Ew x ys
theorem vU (x:Int):∀ l:List Int,(Ew x l).Perm (x::l)
 | []=>.refl _
 | y::ys=>by
  unfold Ew
  split
  .exact .refl _
  .exact ((vU x ys).cons y).trans (.swap x y ys)
theorem lc:∀ ns:List Int,Reps (Rep K H) (ns.map D.int) (ns.map V.int) []
 | []=>.nil
 | n::ns=>.cons (L:=[]) (.int n) (lc ns)
end
section
variable {K:FG} {X:Cx}
def isB:D->D->Option (D×Fl)
 | .bl a,.bl b=>#v[.bl (a == b)]
 | _,_=>none
def vR:D->D->Option (D×Fl)
 | .bl a,.bl b=>#v[.bl (!(a == b))]
 | _,_=>none
theorem A4:OpD K (λx y H Q=>∃ a b,x=.bl a/\y=.bl b/\Q (.bl (!(a == b))) H) vR:=λa b H Q p ra rb e q=>by
 obtain ⟨da,j,g,f⟩:=a
 obtain ⟨db,i,c,d⟩:=b
 obtain ⟨ra,h⟩:=ra
 obtain ⟨rb,ob⟩:=rb
 dsimp only at ra rb
 cases da <;> try (exact nsE e)
 cases db <;> try (exact nsE e)
 obtain ⟨rfl,rfl⟩:=ra.view
 obtain ⟨rfl,rfl⟩:=rb.view
 cases e
 exact #[_,_,rfl,rfl,q #[_,_,[],.z] H (eg (.bl _)) rfl rfl]
theorem AV:OpR X (compareOp .IsNot) (λx y H Q=>∃ a b,x=.bl a/\y=.bl b/\Q (.bl (!(a == b))) H):=by
 intro pins s O H x y v u Q I c d h
 obtain ⟨a,b,rfl,rfl,q⟩:=h
 cases c
 cases d
 exact wpAny_isNot_plain rfl (aM I q (by cases a <;> cases b <;> rfl))
end
section
variable {K:FG} {G G0:Gm} {W W0:D->Sto->Prop} {H H':Hp} {O:St} {X:Cx}
def lq:List D->Option (List Nat)
 | []=>some []
 | .tup xs::r=>match bM xs,lq r with
  | some ns,some l=>some (ns.length::l)
  | _,_=>none
 | _=>none
def lH:List Nat->Option Nat
 | []=>none
 | n::l=>match lH l with
  | none=>some 0
  | some i=>if n < l.getD i 0 then some (i+1) else some 0
theorem kP:∀ {l:List Nat},lH l=none->l=[]
 | [],_=>rfl
 | n::l,h=>by
  unfold lH at h
  cases e:lH l with
  | none=>rw[e] at h;cases h
  | some i =>
   rw[e] at h
   dsimp only at h
   split at h <;> cases h
set_option tactic.hygienic true in
theorem pk:∀ {l:List Nat} {i:Nat},lH l=some i->FstI (λk=>l.getD k 0) l.length i
 | [],_,h=>by cases h
 | n::l,i,h=>by
  unfold lH at h
  cases e:lH l with
  | none =>
   rw[e] at h
   cases h
   cases kP e
   exact #[by simp,λk d=>by simp at d;subst d;exact Fq _,λk d=>by omega]
  | some j =>
   obtain ⟨a,b,c⟩:=pk e
   dsimp only at b c
   rw[e] at h
   dsimp only at h
   split at h
   .rename_i f
    cases h
    refine #[by simp;omega,λk d=>?_,λk d=>?_]
    .cases k with
     | zero=>show n<=l.getD j 0;omega
     | succ k=>simp at d;simpa using b k d
    .cases k with
     | zero=>simpa using f
     | succ k=>simpa using c k (by omega)
   .rename_i f
    cases h
    refine #[by simp,λk d=>?_,λk d=>by omega]
    cases k with
    | zero=>exact Fq _
    | succ k =>
     have:=b k (by simpa using d)
     simp at this ⊢
     simp at f
     lia
theorem FstI.one {ls:Nat->Nat} {n i j:Nat} (a:FstI ls n i) (b:FstI ls n j):i=j:=by
 obtain ⟨a1,a2,c⟩:=a
 obtain ⟨b1,b2,d⟩:=b
 rcases Nat.lt_trichotomy i j with h | h | h
 .have:=d i h;have:=a2 j b1;omega
 .exact h
 .have:=c j h;have:=b2 i a1;omega
def isPl:D->Bool
 | .non=>true
 | .tup []=>true
 | _=>false
def Cf (od:Option D):D->Option (D×Fl)
 | .lst xs=>(lq xs).bind λl=>match lH l with
  | some i=>(xs[i]?).map λd=>(d,.z)
  | none=>od.bind λd=>if isPl d then #v[d] else none
 | _=>none
abbrev qF (a d:D):Option (D×Fl):=Cf (some d) a
theorem qN:∀ {xs:List D} {l:List Nat} {vs:List V} {L:List Addr},lq xs=some l->Reps (Rep K H) xs vs L->vs.length=l.length/\∀ i y,vs[i]?=some y->∃ (ns:List Int) (p:Addr),xs[i]?=some (.tup (ns.map .int))/\y=.ref p/\H p=some (.tup (ns.map V.int))/\l.getD i 0=ns.length
 | [],l,_,_,e,.nil=>by cases e;exact #[rfl,λi y h=>by simp at h]
 | d::r,l,_,_,e,.cons (v:=v) (vs:=vs) a t=>by
  cases d with
  | tup xs =>
   unfold lq at e
   cases e1:bM xs with
   | none=>rw[e1] at e;cases e
   | some ns =>
    cases b:lq r with
    | none=>rw[e1,b] at e;cases e
    | some l' =>
     rw[e1,b] at e
     cases e
     obtain ⟨h1,h2⟩:=qN b t
     have:=jq e1
     subst this
     obtain ⟨p,zs,rfl,m,k⟩:=a.view
     have:=k.ints
     subst this
     refine #[by simp[h1],λi y f=>?_]
     cases i with
     | zero =>
      simp at f
      subst f
      exact #[ns,p,rfl,rfl,m,by simp]
     | succ i =>
      obtain ⟨c,j,b1,b2,n,g⟩:=h2 i y (by simpa using f)
      exact #[c,j,by simpa using b1,b2,n,by simpa using g]
  | _=>exact nsE e
set_option tactic.hygienic true in
theorem Bd {x:It3} {od:Option It3} {Q:VK} {p:D×Fl} (b:Arg K H x) (F:∀ y,od=some y->Arg K H y) (e:Cf (od.map (·.d)) x.d=some p) (q:∀ z:It3,Rep K H z.d z.v []->z.L=[]->z.f=.z->z.d=p.1->z.f=p.2->Q z.v H):qk K x.v (od.map (·.v)) H Q:=by
 obtain ⟨u,J,G,fx⟩:=x
 obtain ⟨b,I⟩:=b
 dsimp only at b e
 cases u with
 | lst xs =>
  obtain ⟨E,vs,M,rfl,rfl,A,rs⟩:=b.view
  obtain ⟨l,h1,h2⟩:=FI.mp e
  obtain ⟨h,k2⟩:=qN h1 rs
  refine #[E,vs,λk=>l.getD k 0,rfl,SqL.of A,λi y c=>?_,λhn=>?_,λi y c hf=>?_]
  .obtain ⟨ns,a,b1,b2,o,r⟩:=k2 i y c
   exact #[a,_,b2,SqT.of o,by rw[Fh];exact r.symm]
  .have hl:l=[]:=FZ.mp (by rw[<- h,hn];rfl)
   subst hl
   cases od with
   | none=>cases h2
   | some y =>
    have h2:(if isPl y.d then some (y.d,Fl.z) else none)=some p:=h2
    have n:=(F y rfl).rep
    obtain ⟨t,C,N,σ⟩:=y
    dsimp only at h2 n
    refine #[C,rfl,?_]
    split at h2
    .rename_i s
     cases h2
     cases t with
     | non =>
      obtain ⟨rfl,rfl⟩:=n.view
      exact q #[.non,.non,[],.z] .non rfl rfl rfl rfl
     | tup zs =>
      cases zs with
      | nil =>
       obtain ⟨a,w,rfl,g,B⟩:=n.view
       cases B
       exact q #[.tup [],.ref a,[],.z] (.tup g .nil) rfl rfl rfl rfl
      | cons=>cases s
     | _=>cases s
    .cases h2
  .obtain ⟨ns,a,b1,b2,o,r⟩:=k2 i y c
   cases m:lH l with
   | none =>
    have:=kP m
    subst this
    have:vs=[]:=FZ.mp h
    subst this
    simp at c
   | some j =>
    rw[m] at h2
    have:=FstI.one (pk m) (by rw[<- h];exact hf)
    subst this
    have h2:(xs[j]?).map (λd=>(d,Fl.z))=some p:=h2
    rw[b1] at h2
    cases h2
    subst b2
    exact q #[.tup (ns.map .int),.ref a,[],.z] (.tup o (lc ns)) rfl rfl rfl rfl
 | _=>exact nsE e
theorem A3:OpD K (λx d H Q=>qk K x (some d) H Q) qF:=λa b H Q p ra rb e q=>Bd (od:=some b) ra (λy h=>by cases h;exact rb) e λz h1 h2 h3 f c=>by
 obtain ⟨i,g,j,k⟩:=z
 dsimp only at h2 h3
 subst h2 h3
 exact q #[i,g,[],.z] H (eg h1) f c
theorem As {e d:Expr} {ma mb:EM} {p f pos kpos a:Pos} (n:X.calm=true) (hg:Gl X "max") (hm:X.mg "max"=none) (k:Gl X "len") (l:X.mg "len"=none) (he:RE X G0 W0 e ma) (hd:RE X G0 W0 d mb)
  (m:backTo pos (starEach [e] X.env)=(false,eval e X.env)::backTo pos (starEach [] X.env)) (i:backTo pos (starEach [] X.env)=[]) (b:(backTo pos (starEach [e] X.env)).any (·.1)=false)
  (c:(backToKw pos (keywordEach [#[some "key",.Name "len" f,kpos],#[some "default",d,a]] X.env)).all (·.1.isSome)=true) (j:(backToKw pos (keywordEach [#[some "key",.Name "len" f,kpos],#[some "default",d,a]] X.env)).any (·.1.isNone)=false) (g:(backToKw pos (keywordEach [#[some "key",.Name "len" f,kpos],#[some "default",d,a]] X.env)).filterMap (·.1)=(["key","default"]:List Str)) :
  RE X G0 W0 (.Call (.Name "max" p) [e] [#[some "key",.Name "len" f,kpos],#[some "default",d,a]] pos) (ah qF ma mb):=#[PE.imp (AO n hg hm k l rfl rfl he.h hd.h m i b c j g) λ_ _ _ h=>kF A3 h]
end
end L3
end
section
namespace L2
open PySem PySem.Spec PyProof.Rows
section
variable {X:Cx}
abbrev rSum (K:FG):List V->Hp->VK->Prop:=λxs H Q=>∃ (l:Addr) (ns:List Int),xs=[.ref l]/\SqL K H l (ns.map V.int)/\Q (.int ns.sum) H
theorem wj (e:X.calm=true):dU X (.builtin "sum") (rSum X.K):=by
 intro pins s O H xs us Q I r h
 obtain ⟨l,ns,rfl,hl,q⟩:=h
 obtain ⟨u,rfl,d⟩:=jP r
 cases (show u=Value.ref l from d)
 obtain ⟨its,a,p,hz⟩:=I.list hl
 obtain ⟨ys,e1,b⟩:=Br a
 have pl:=p.isList
 rw[e1] at pl
 refine sum_intListG (I.ok.hd e) pl λh' tk t' c=>#[.int _,H,I.kept c,#[t',rfl],?_]
 rw[preSum_eq,FT (by simp),<- b]
 exact q
end
end L2
namespace L3
open PySem L2
section
variable {K:FG}
def sumQ:D->Option (D×Fl)
 | .lst xs=>(bM xs).map λns=>(.int ns.sum,.z)
 | _=>none
abbrev zZ:=c1 sumQ
set_option tactic.hygienic true in
theorem ER:iF K (rSum K) zZ:=λys H Q p ra e q=>by
 obtain ⟨y,rfl,a⟩:=k5 e
 clear e
 have b:=(ra y E5).rep
 obtain ⟨da,h,d,g⟩:=y
 dsimp only at b a
 cases da <;> try (exact nsE a)
 rename_i xs
 obtain ⟨c,vs,d,rfl,rfl,f,rs⟩:=b.view
 obtain ⟨ns,h1,h2⟩:=E8.mp (show (bM xs).map _=some p from a)
 have:=jq h1
 subst this h2
 have:=rs.ints
 subst this
 exact #[c,ns,rfl,SqL.of f,q #[_,_,[],.z] H (eg (.int _)) rfl rfl]
end
end L3
end
section
namespace L2
open PySem PySem.Spec PyProof.Rows
section
variable {X:Cx}
theorem yO:PGet X (si X.K):=by
 intro pins s O H x y v u Q I f g h
 obtain ⟨p,xs,i,z,rfl,rfl,e,he,q⟩:=h
 cases f
 obtain ⟨t,rfl⟩:=g
 obtain ⟨its,r,pl,hz⟩:=I.list e
 obtain ⟨j,h1,h2,h3,d,c⟩:=pH he
 obtain ⟨w,b,rw'⟩:=r.get h2
 have hl:=r.length
 have hn:=mN
 have fin:EP X pins O Q w s:=#[z,H,I,rw',q]
 by_cases h0:0<=i
 .have a:i.toNat=j:=by
   rw[seqIndex_of h0 c] at h1
   exact FY h1
  exact wpAny_getItem_list pl.isList h0 (by omega) (by rw[a];simpa using b) fin
 .have a:(i+(its.toArray.size:Int)).toNat=j:=by
   rw[seqIndex_neg (by omega) d] at h1
   rw[Fu,<- hl]
   exact FY h1
  exact wpAny_getItem_list_neg pl.isList (by omega) (by rw[Fu] <;> omega) (by omega) (by rw[a];simpa using b) fin
end
end L2
namespace L3
open PySem L2
section
variable {X:Cx} {G0:Gm} {W0:D->Sto->Prop} {pos:Pos} {m:EM} {e:Expr}
theorem De (i:Nat) {x:Str} {pos':Pos} (b:X.N.Nodup) (hi:X.N[i]?=some x) (c:Loc X.env.scope x) (he:RE X G0 W0 e m) (hf:X.fn x=true\/X.env.scope.names.lookup x=some .local) (a:G0.pr i=false):RS X G0 W0 (.AugAssign (.Name x pos') .Add e pos) (aN i (ah zx (ac i) m)) :=
 ⟨PS.imp (DC b hi c he.h yE hf) λD O H h=>by
  obtain ⟨v,e1,h1⟩:=wR (kF od_addI (wQ a h))
  exact ⟨v,e1,h1⟩⟩
def qa (i:Nat) (mk b:EM):SM:=ag (ac i) λ_=>ag mk λc=>ag (der c) λdk=>λZ=>match (Z[i]?).join,dk with
 | some (.lst xs,.u),.int k=>match L2.atI xs k with
  | some (.int x)=>ag b (λa=>ag (der a) λdv=>λZ2=>match dv,(Z2[i]?).join with
   | .int y,some (d2,.u)=>match p7 d2 [.int k,.int (x+y)] with
    | some p=>some (.ok .nx,Z2.set i (some (p.1,.u)))
    | none=>none
   | _,_=>none) Z
  | _=>none
 | _,_=>none
end
section
variable {K:FG} {G0:Gm} {W0:D->Sto->Prop} {O:St} {H:Hp}
set_option tactic.hygienic true in
theorem zP {i:Nat} {mk M:EM} {E:Ends} (h:tS K G0 W0 (qa i mk M) E O H):B4 (pS i) (tE K G0 W0 mk) (tE K G0 W0 M) (si K) (ipI λi j=>i+j) qj E O H:=by
 refine h.use λG W le Z T g r Z' w e q=>?_
 obtain ⟨p0,e0,e1⟩:=l4 e
 obtain ⟨d0,f0⟩:=p0
 obtain ⟨y,y1,y2,y3,C⟩:=w.slot e0
 refine #[y.v,C,?_]
 refine tE.seq le w e1 q.err λrk Z1 U vk H1 #[Us,g1,o,a1]=>?_
 obtain ⟨dk,d1,l⟩:=aO U
 obtain ⟨yk,ρ,k1,k2⟩:=a1.item o (λx n=>E9 _ n) d1
 split at l
 .rename_i xs k hs
  obtain ⟨z,z1,z2,z3,b⟩:=o.slot hs
  have F:z.v=y.v:=by rw[C] at b;injection b with b;injection b with b;exact b.symm
  have σ:=(o.itm (.inl #[i,z1])).arg.rep
  rw[z2] at σ
  have m:=(o.itm ρ).arg.rep
  rw[k1] at m
  split at l
  .rename_i x n
   obtain ⟨pa,vs,La,v1,v2,ha,rs⟩:=σ.view
   obtain ⟨v,L',t1,t2,t3⟩:=rs.atI n
   obtain ⟨S,t5⟩:=t2.view
   subst S
   obtain ⟨N,u2⟩:=m.view
   refine #[pa,vs,k,.int x,F.symm.trans v1,k2.symm.trans N,SqL.of ha,t1,?_]
   refine tE.seq le o l q.err λrv Z2 e5 vv H2 #[D,g2,J,a2]=>?_
   obtain ⟨dv,d2,s⟩:=aO e5
   obtain ⟨yv,τ,X,l2⟩:=a2.item J (λx n=>E9 _ n) d2
   have t:=(J.itm τ).arg.rep
   rw[X] at t
   split at s
   .rename_i A d3 u
    split at s
    .rename_i p hp
     cases s
     obtain ⟨s1,s2⟩:=t.view
     refine #[x,A,rfl,l2.symm.trans s1,?_]
     obtain ⟨ab,g3,P,a3⟩:=J.const (d:=.int k) (v:=.int k) (.int _)
     obtain ⟨c,rfl,b1,b2,b3⟩:=a3.val_inv
     obtain ⟨R,g4,w4,a4⟩:=P.const (d:=.int (x+A)) (v:=.int (x+A)) (.int _)
     obtain ⟨f,rfl,c1,c2,c3⟩:=a4.val_inv
     have w5:Wf K G H2 O Z2 (([f]++([c]++(D++Us)))++T) g4:=by
      have:([f]++([c]++(D++Us)))++T=[f]++([c]++(D++(Us++T))):=by simp
      rw[this];exact w4
     have:=w5.changed (Q:=λ_ H'=>E.nx O H') (as:=[c,f]) uh u C (λy I=>by
      rcases Fc.mp I with rfl | I
      .exact #[.inr (by simp),b2]
      .rw[FJ.mp I]
       exact #[.inr (by simp),c2]) (show p7 d3 [c.d,f.d]=some p by rw[b1,c1];exact hp) λL H' #[B,g5,w6,a5]=>q _ _ _ (w6.sub (Fm B T))
     obtain ⟨V,L,a,ht⟩:=this
     have a:[c.v,f.v]=[V,L]:=a
     rw[b3,c3] at a
     cases a
     rw[<- k2,N]
     exact ht
    .exact nsE s
   .exact nsE s
  .exact nsE l
 .exact nsE l
end
section
variable {X:Cx} {G0:Gm} {W0:D->Sto->Prop} {pos:Pos}
set_option tactic.hygienic true in
theorem Aj {i:Nat} {x:Str} {pn p2:Pos} {k e:Expr} {mk c:EM} (d:PE X (.Name x pn) (pS i)) (f:RE X G0 W0 k mk) (j:RE X G0 W0 e c)
  (g:∀ b a new,augStore k b a new=(do holding [new,b,a] (setItem b a new);release [new,b,a] [];pure .next)):RS X G0 W0 (.AugAssign (.Subscript (.Name x pn) k p2) .Add e pos) (qa i mk c) :=
 #[PS.imp (AF d f.h yO j.h yE pZ g) λ_ _ _ h=>zP h]
end
end L3
end
section
namespace Bn
open PySem L2 L3
abbrev Pd (p:Int×Int):L3.D:=.tup [.int p.1,.int p.2]
theorem bb {bnd:L3.D->Sto->Option Sto} {b:SM} (P:Nat->Sto->Prop):∀ {ds:List L3.D} {Z:Sto} {k:Nat},P k Z->(∀ i d Z,ds[i]?=some d->P (k+i) Z->∃ Z1 Z2,bnd d Z=some Z1/\(b Z1=some (.ok .nx,Z2)\/b Z1=some (.ok .ct,Z2))/\P (k+i+1) Z2)->∃ Z',fV bnd b ds Z=some (.ok .nx,Z')/\P (k+ds.length) Z'
 | [],Z,k,h0,_=>#[Z,rfl,h0]
 | d::ds,Z,k,h0,hs=>by
  obtain ⟨Z1,Z2,e1,a,h1⟩:=hs 0 d Z rfl h0
  obtain ⟨Z',c,h3⟩:=bb P (ds:=ds) (Z:=Z2) (k:=k+1) h1 λi d Z hd e=>by
   have:=hs (i+1) d Z (by simpa using hd) (by rwa [show k+(i+1)=k+1+i by lia])
   rwa [show k+(i+1)+1=k+1+i+1 by lia] at this
  refine #[Z',?_,by rw[FE,show k+(ds.length+1)=k+1+ds.length by lia];exact h3]
  unfold fV
  simp only[e1]
  rcases a with a | a <;> simp only[ag,a,c]
theorem po {bnd:L3.D->Sto->Option Sto} {b:SM} (P:Nat->Sto->Prop) (E:Nat->L3.D->Fl->Sto->Prop):∀ {ds:List L3.D} {Z:Sto} {k:Nat},P k Z ->
  (∀ i d Z,ds[i]?=some d->P (k+i) Z->∃ Z1 Z2,bnd d Z=some Z1/\(((b Z1=some (.ok .nx,Z2)\/b Z1=some (.ok .ct,Z2))/\P (k+i+1) Z2)\/∃ r f,b Z1=some (.ok (.rt r f),Z2)/\E (k+i) r f Z2)) ->
  ∃ Z',(fV bnd b ds Z=some (.ok .nx,Z')/\P (k+ds.length) Z')\/∃ i r f,i < ds.length/\fV bnd b ds Z=some (.ok (.rt r f),Z')/\E (k+i) r f Z'
 | [],Z,k,h0,_=>#[Z,.inl #[rfl,h0]]
 | d::ds,Z,k,h0,hs=>by
  obtain ⟨Z1,Z2,e1,h1⟩:=hs 0 d Z rfl h0
  rcases h1 with ⟨a,h1⟩ | ⟨r,f,a,h1⟩
  .obtain ⟨Z',h3⟩:=po P E (ds:=ds) (Z:=Z2) (k:=k+1) h1 λi d Z hd g=>by
    have:=hs (i+1) d Z (by simpa using hd) (by rwa [show k+(i+1)=k+1+i by lia])
    rwa [show k+(i+1)=k+1+i by lia] at this
   have e:fV bnd b (d::ds) Z=fV bnd b ds Z2:=by
    conv=>lhs;unfold fV
    simp only[e1]
    rcases a with a | a <;> simp only[ag,a]
   rcases h3 with ⟨c,h3⟩ | ⟨i,r,f,hi,c,h3⟩
   .exact #[Z',.inl #[e.trans c,by rw[FE,show k+(ds.length+1)=k+1+ds.length by lia];exact h3]]
   .exact #[Z',.inr #[i+1,r,f,by simp;lia,e.trans c,by rw[show k+(i+1)=k+1+i by lia];exact h3]]
  .refine #[Z2,.inr #[0,r,f,by simp,?_,h1]]
   unfold fV
   simp only[e1,ag,a,a9]
theorem bv {lo:Int} {n i:Nat} {d:L3.D} (h:(aJ lo n)[i]?=some d):i < n/\d=.int (lo+i):=by
 unfold aJ at h
 grind
theorem aQ {lo:Int} {n:Nat}:(aJ lo n).length=n:=by unfold aJ;simp
theorem BC {xs:List L3.D} {m:Nat} (h:m<=xs.length):fu xs none (some (m:Int))=xs.take m:=by
 have e1:HT.sIx xs.length 0 none=0:=rfl
 have a:HT.sIx xs.length xs.length (some (m:Int))=m:=by
  simp only[HT.sIx]
  split <;> lia
 unfold fu
 rw[e1,a]
 simp
theorem Small.sub {p q:Pt} (b:Small p) (a:Small q):(-18446744073709551616 < q.1 - p.1/\q.1 - p.1 < 18446744073709551616)/\(-18446744073709551616 < q.2 - p.2/\q.2 - p.2 < 18446744073709551616):=by
 obtain ⟨a1,a2,c,e⟩:=b
 obtain ⟨b1,b2,f,d⟩:=a
 exact #[#[by lia,by lia],#[by lia,by lia]]
theorem u5 {c:M3 Bool} {b:SM} (P:Nat->Sto->Prop) (Q:Sto->Prop) {n:Nat} {Z:Sto} (h0:P n Z)
  (k:∀ n Z,P n Z->(∃ Z1,c Z=some (.ok false,Z1)/\Q Z1)\/∃ Z1 Z2 m,c Z=some (.ok true,Z1)/\(b Z1=some (.ok .nx,Z2)\/b Z1=some (.ok .ct,Z2))/\m < n/\P m Z2):∃ Z',iN c b Z=some (.ok .nx,Z')/\Q Z':=by
 have main:∀ n Z,P n Z->∃ Z',cw c b (n+1) Z=some (.ok .nx,Z')/\Q Z':=by
  intro n
  induction n using Nat.strongRecOn with
  | _ n ih =>
   intro Z j
   rcases k n Z j with ⟨Z1,e1,d⟩ | ⟨Z1,Z2,m,e1,a,hm,g⟩
   .refine #[Z1,?_,d]
    unfold cw
    simp[ag,e1,a9]
   .obtain ⟨Z',i,d⟩:=ih m hm Z2 g
    refine #[Z',?_,d]
    have f:=kE (show m+1<=n by lia) i
    unfold cw
    rcases a with a | a <;> simp[ag,e1,a,f]
 obtain ⟨Z',e,d⟩:=main n Z h0
 refine #[Z',?_,d]
 unfold iN
 have h:∃ n r,cw c b n Z=some r:=#[_,_,e]
 rw[dif_pos h]
 have a:=Classical.choose_spec (Classical.choose_spec h)
 have i:=kE (Nat.le_max_left (n+1) (Classical.choose h)) e
 have f:=kE (Nat.le_max_right (n+1) (Classical.choose h)) a
 rw[i] at f
 exact f.symm
theorem ak {a b:SM} {Z Z1:Sto} {r:Option (Except L3.D Flw×Sto)} (h1:a Z=some (.ok .nx,Z1)) (h2:b Z1=r):aB a b Z=r:=by
 simp only[aB,ag,h1]
 exact h2
theorem jc {bnd:L3.D->Sto->Option Sto} {c:M3 Bool} {elt:EM} (P:Sto->Prop) (g:L3.D->Bool) (f:L3.D->L3.D):∀ {ds:List L3.D} {Y:Sto},P Y ->
  (∀ d∈ds,∀ Y,P Y->∃ Y1 Y2,bnd d Y=some Y1/\c Y1=some (.ok (g d),Y2)/\(g d=false->P Y2)/\(g d=true->∃ r Y3 p Y4,elt Y2=some (.ok r,Y3)/\fX r Y3=some (.ok p,Y4)/\p.1=f d/\P Y4)) ->
  ∃ Y',bf bnd c elt ds Y=some (.ok ((ds.filter g).map f),Y')/\P Y'
 | [],Y,h0,_=>#[Y,rfl,h0]
 | d::ds,Y,h0,hs=>by
  obtain ⟨Y1,Y2,e1,a,hf,i⟩:=hs d E5 Y h0
  cases hg:g d with
  | false =>
   obtain ⟨Y',e,b⟩:=jc P g f (ds:=ds) (Y:=Y2) (hf hg) λd hd=>hs d (E6 _ hd)
   refine #[Y',?_,b]
   unfold bf
   rw[hg] at a
   simp[e1,ag,a,e,List.filter_cons,hg]
  | true =>
   obtain ⟨r,Y3,p,Y4,j,k,l,h⟩:=i hg
   obtain ⟨Y',e,b⟩:=jc P g f (ds:=ds) (Y:=Y4) h λd hd=>hs d (E6 _ hd)
   refine #[Y',?_,b]
   unfold bf
   rw[hg] at a
   simp[e1,ag,a,j,k,e,List.filter_cons,hg,a9,l]
abbrev Tri:=Nat×Nat×Nat
def nt (i j m:Nat):List Tri:=(List.range m).map λk=>(i,j,j+1+k)
def kI (n i m:Nat):List Tri:=(List.range m).flatMap λj=>nt i (i+1+j) (n - (i+1+j+1))
def oO (n m:Nat):List Tri:=(List.range m).flatMap λi=>kI n i (n - (i+1))
def cx (n:Nat):List Tri:=oO n n
theorem qe (i j m:Nat):(nt i j m).length=m:=by simp[nt]
theorem nR (n i m:Nat):kI n i (m+1)=kI n i m++nt i (i+1+m) (n - (i+1+m+1)):=by simp[kI,List.range_succ,List.flatMap_append]
theorem nU (n m:Nat):oO n (m+1)=oO n m++kI n m (n - (m+1)):=by simp[oO,List.range_succ,List.flatMap_append]
theorem ye {i j m:Nat} {t:Tri} (h:t∈nt i j m):t.1=i/\t.2.1=j/\j < t.2.2/\t.2.2 < j+1+m:=by
 obtain ⟨k,a,rfl⟩:=Fo.mp h
 grind
theorem qE {n:Nat} {t:Tri} (h:t∈cx n):t.1 < t.2.1/\t.2.1 < t.2.2/\t.2.2 < n:=by
 obtain ⟨i,hi,h⟩:=FV.mp h
 obtain ⟨j,a,h⟩:=FV.mp h
 rw[List.mem_range] at hi a
 obtain ⟨h1,h2,h3,b⟩:=ye h
 exact #[by lia,by lia,by lia]
theorem tX (n i m:Nat):(kI n i m).length<=m * n:=by
 induction m with
 | zero=>simp[kI]
 | succ m ih=>rw[nR,FD,qe,Nat.succ_mul];lia
theorem Am (n m:Nat):(oO n m).length<=m * (n * n):=by
 induction m with
 | zero=>simp[oO]
 | succ m ih =>
  rw[nU,FD,Nat.succ_mul]
  have:=tX n m (n - (m+1))
  have h2:(n - (m+1)) * n<=n * n:=Nat.mul_le_mul (by lia) (Fq _)
  lia
theorem se {n m:Nat} (hn:n<=25) (hm:m<=25):(oO n m).length<=15625:=by
 have h1:=Am n m
 have h2:n * n<=25 * 25:=Nat.mul_le_mul hn hn
 have h3:m * (n * n)<=25 * (25 * 25):=Nat.mul_le_mul hm h2
 lia
theorem r9 {n i m:Nat} (hn:n<=25) (hm:m<=25):(kI n i m).length<=625:=by
 have h1:=tX n i m
 have h2:m * n<=25 * 25:=Nat.mul_le_mul hm hn
 lia
abbrev Td (t:Tri):L3.D:=.tup [.int t.1,.int t.2.1,.int t.2.2]
abbrev Shd (ps:List Pt):L3.D:=.tup (ps.map Pd)
theorem aH {im:IM} {bnd:L3.D->Sto->Option Sto} {c:M3 Bool} {elt:EM} {ix:List (Option Nat)} {Z Z1 Z2 Y:Sto} {rs:List R3} {ds out:List L3.D} (h1:im Z=some (.ok (rs,ds),Z1)) (h2:bf bnd c elt ds (sU ix (aL dB (us Z1 (pls rs)) Z1))=some (.ok out,Y)) (h3:ds.length < 16777216) (a:uncap ix Y (aL dB (us Z1 (pls rs)) Z1)=some Z2) :
  a7 im bnd c elt ix Z=some (.ok (.val (.lst out) .u),aL iK (us Z1 (pls rs)) Z2):=by
 simp[a7,ag,h1,h2,h3,a]
theorem rK:∀ {ds:List L3.D},(∀ d∈ds,d=.bl true)->jC ds=some (List.replicate ds.length true)
 | [],_=>rfl
 | d::ds,h=>by
  have h1:=h d E5
  subst h1
  have h2:=rK λd hd=>h d (E6 _ hd)
  simp[jC,h2,List.replicate_succ]
theorem oE {ds:List L3.D} (h:∀ d∈ds,d=.bl true):E1 (.lst ds)=#v[.bl true]:=by
 simp[E1,rK h]
theorem uX {xs:List L3.D} {i:Nat} {d:L3.D} (h:xs[i]?=some d):L2.atI xs (i:Int)=some d:=by
 obtain ⟨h1,h2⟩:=Fi.mp h
 simp[L2.atI,ixN,h1,h2]
theorem ww {ps:List Pt} {i:Nat} {p:Pt} (h:ps[i]?=some p):L2.atI (ps.map Pd) (i:Int)=some (Pd p):=uX (by simp[h])
theorem yG {f:List L3.D->Option (List L3.D)} {ms:M3 (List R3)} {Z Z1 Z2:Sto} {rs:List R3} {ds xs:List L3.D} (h1:ms Z=some (.ok rs,Z1)) (h2:fm rs Z1=some (.ok ds,Z2)) (h3:f ds=some xs):aX f ms Z=some (.ok ([],xs),Z2):=by
 simp[aX,ag,h1,h2,h3,bm]
theorem c0 {a b:Int} (e:-1000<=a/\a<=1000) (d:-1000<=b/\b<=1000) {n:Nat} (hn:(b - a).toNat=n):cN [.int a,.int b]=some (aJ a n):=by
 have lm:iE a=true:=Fw (by lia)
 have c:iE b=true:=Fw (by lia)
 show (if (iE a && iE b)=true then some (aJ a (b - a).toNat) else none)=_
 rw[lm,c,hn]
 exact if_pos rfl
theorem cH {b:Int} (c:-1000<=b/\b<=1000) {n:Nat} (hn:b.toNat=n):dA [.int b]=some (aJ 0 n):=by
 have a:iE b=true:=Fw (by lia)
 show (if (iE b)=true then some (aJ 0 b.toNat) else none)=_
 rw[a,hn]
 exact if_pos rfl
section
variable {α:Type} {Z Z1 Z2 Z3:Sto} {ma mb mc m:EM} {ms:M3 (List R3)} {ra rb r:R3} {rs:List R3} {da db d:L3.D} {ds:List L3.D} {fl:Fl} {i n np:Nat} {sa sb:SM} {c cc:M3 Bool} {b b2:Bool} {x:Option (Except L3.D Flw×Sto)} {y:Option (Except L3.D R3×Sto)}
theorem af {p:L3.D×Fl} (h:(Z[i]?).join=some p):ac i Z=some (.ok (.pl i),Z):=by simp[ac,h]
theorem i_c:mC d Z=some (.ok (.val d .z),Z):=rfl
theorem aw {f:L3.D->L3.D->Option (L3.D×Fl)} (h1:ma Z=some (.ok ra,Z1)) (h2:mb Z1=some (.ok rb,Z2)) (h3:der ra Z2=some (.ok da,Z2)) (b:der rb Z2=some (.ok db,Z2)) (a:f da db=some (d,fl)):ah f ma mb Z=some (.ok (.val d fl),Z2):=by
 simp only[ah,ag,h1,h2,h3,b,bm,a,FH]
theorem i_un {f:L3.D->Option (L3.D×Fl)} (h1:ma Z=some (.ok ra,Z1)) (h3:der ra Z1=some (.ok da,Z1)) (a:f da=some (d,fl)):mUn f ma Z=some (.ok (.val d fl),Z1):=by
 simp only[mUn,ag,h1,h3,bm,a,FH]
theorem aG {f:List L3.D->Option (L3.D×Fl)} (h1:ms Z=some (.ok rs,Z1)) (h3:fm rs Z1=some (.ok ds,Z1)) (a:f ds=some (d,fl)):ay f ms Z=some (.ok (.val d fl),Z1):=by
 simp only[ay,ag,h1,h3,bm,a,FH]
theorem au:aj Z=some (.ok [],Z):=rfl
theorem ae (h1:m Z=some (.ok r,Z1)) (h2:ms Z1=some (.ok rs,Z2)):aa m ms Z=some (.ok (r::rs),Z2):=by
 simp only[aa,ag,h1,h2,a9]
theorem cQ {mk:List L3.D->L3.D} {f:Fl} (h1:ms Z=some (.ok rs,Z1)) (h2:gives rs Z1=some (.ok ds,Z2)) (h3:ds.length<=16777216):Bi mk f ms Z=some (.ok (.val (mk ds) f),Z2):=by
 simp only[Bi,ag,h1,h2,bm,h3,if_true,FH]
theorem aq {F:Fn} {ps qs:List (L3.D×Fl)} (b:F ps=some (.ok (d,fl),qs)) (h1:ms Z=some (.ok rs,Z1)) (h2:prs (frz (qZ rs) Z1) rs=some ps) (h3:qs.length=ps.length) (a:back rs ps qs (frz (qZ rs) Z1)=Z2):am F ms Z=some (.ok (.val d fl),Z2):=by
 simp only[am,ag,h1,h2,b,h3,if_true,a]
theorem bP {p:L3.D×Fl} (h1:m Z=some (.ok r,Z1)) (h2:fX r Z1=some (.ok p,Z2)) (h3:i < Z2.length) (a:Z2.set i (some p)=Z3):aN i m Z=some (.ok .nx,Z3):=by
 simp only[aN,ag,h1,h2,h3,if_true,a]
theorem i_asg {bnd:L3.D->Sto->Option Sto} {p:L3.D×Fl} (h1:m Z=some (.ok r,Z1)) (h2:fX r Z1=some (.ok p,Z2)) (h3:bnd p.1 Z2=some Z3):vg bnd m Z=some (.ok .nx,Z3):=by
 simp only[vg,ag,h1,h2,h3,FH]
theorem fk (h1:m Z=some (.ok r,Z1)):dZ m Z=some (.ok .nx,Z1):=by
 simp only[dZ,ag,h1,a9]
def retF (np:Nat) (r:R3):SM:=aT np (a9 r)
theorem bF (h1:m Z=some (.ok r,Z1)) (h2:retF np r Z1=x):aT np m Z=x:=by
 rw[<- h2]
 unfold retF
 simp only[aT,ag,h1,a9]
theorem mh (h1:sa Z=some (.ok (.rt d fl),Z1)):aB sa sb Z=some (.ok (.rt d fl),Z1):=by
 simp only[aB,ag,h1,a9]
theorem bG (h1:m Z=some (.ok r,Z1)) (h2:der r Z1=some (.ok (.bl b),Z1)):cB m Z=some (.ok b,Z1):=by
 simp only[cB,ag,h1,h2,bm,asB,FH]
theorem io (h1:c Z=some (.ok b,Z1)):jf c Z=some (.ok (!b),Z1):=by
 simp only[jf,ag,h1,a9]
theorem lu (h1:c Z=some (.ok b,Z1)) (a:b=true) (h2:sa Z1=x):sIf c sa sb Z=x:=by
 subst a;simp only[sIf,ag,h1,if_true];exact h2
theorem b7 (h1:c Z=some (.ok b,Z1)) (a:b=false) (h2:sb Z1=x):sIf c sa sb Z=x:=by
 subst a;simp only[sIf,ag,h1,FK,if_false];exact h2
theorem kj (h1:c Z=some (.ok b,Z1)) (a:b=false) (h2:cc Z1=some (.ok b2,Z2)):cOr c cc Z=some (.ok b2,Z2):=by
 subst a;simp only[cOr,ag,h1,FK,if_false];exact h2
theorem pg (h1:c Z=some (.ok b,Z1)) (a:b=true) (h2:cc Z1=some (.ok b2,Z2)):jx c cc Z=some (.ok b2,Z2):=by
 subst a;simp only[jx,ag,h1,if_true];exact h2
theorem ph (h1:c Z=some (.ok b,Z1)) (a:b=false):jx c cc Z=some (.ok false,Z1):=by
 subst a;simp only[jx,ag,h1,FK,if_false];rfl
theorem lT (h1:ma Z=some (.ok r,Z1)) (h2:der r Z1=some (.ok (.bl b),Z1)) (a:b=true) (h3:mb Z1=y):ke ma mb Z=y:=by
 subst a;simp only[ke,ag,h1,h2,bm,asB,FH,if_true];exact h3
theorem Bs (h1:ma Z=some (.ok r,Z1)) (h2:der r Z1=some (.ok (.bl b),Z1)) (a:b=false):ke ma mb Z=some (.ok (.val (.bl false) .z),Z1):=by
 subst a;simp only[ke,ag,h1,h2,bm,asB,FH,FK,if_false];rfl
theorem Ez (h1:c Z=some (.ok b,Z1)) (a:b=true) (h2:ma Z1=y):mIf c ma mb Z=y:=by
 subst a;simp only[mIf,ag,h1,if_true];exact h2
theorem EA (h1:c Z=some (.ok b,Z1)) (a:b=false) (h2:mb Z1=y):mIf c ma mb Z=y:=by
 subst a;simp only[mIf,ag,h1,FK,if_false];exact h2
theorem Ey {f:L3.D->Option Int->Option Int->Option (L3.D×Fl)} {pl pu:M3 (Option Int)} {lo hi:Option Int} (h1:ma Z=some (.ok ra,Z1)) (h2:pl Z1=some (.ok lo,Z2)) (h3:pu Z2=some (.ok hi,Z3)) (b:der ra Z3=some (.ok da,Z3)) (a:f da lo hi=some (d,fl)):mSl f ma pl pu Z=some (.ok (.val d fl),Z3):=by
 simp only[mSl,ag,h1,h2,h3,b,bm,a,FH]
theorem pe:qr Z=some (.ok none,Z):=rfl
theorem pd {k:Int} (h1:m Z=some (.ok r,Z1)) (h2:der r Z1=some (.ok (.int k),Z1)):jy m Z=some (.ok (some k),Z1):=by
 simp only[jy,ag,h1,h2,bm,asI,FH]
theorem i_mut {ok:L3.D->Bool} {f:L3.D->List L3.D->Option (L3.D×L3.D)} {c b a:L3.D} (h0:(Z[i]?).join=some (d,fl)) (e:ok d=true) (h1:ms Z=some (.ok rs,Z1)) (h2:gives rs Z1=some (.ok ds,Z2)) (h3:(Z2[i]?).join=some (c,.u)) (h:f c ds=some (b,a)) (g:Z2.set i (some (b,.u))=Z3):vK ok f i ms Z=some (.ok (.val a .z),Z3):=by
 simp only[vK,ag,af h0,chk,h0,e,if_true,h1,h2,h3,h,g]
theorem ux {f:L3.D->List L3.D->Option (L3.D×L3.D)} {b a c:L3.D} (h1:mb Z=some (.ok rb,Z1)) (h0:(Z1[i]?).join=some (d,fl)) (h2:ma Z1=some (.ok ra,Z2)) (h3:gives [ra,rb] Z2=some (.ok ds,Z3)) (g:(Z3[i]?).join=some (b,.u)) (e:f b ds=some (a,c)):p9 f i ma mb Z=some (.ok .nx,Z3.set i (some (a,.u))):=by
 simp only[p9,ag,h1,af h0,h2,h3,g,e]
theorem aK {mask:List Bool} {ps qs:List (L3.D×Fl)} (h1:ps.length=mask.length) (h0:lw n (List.zipWith vM mask ps)=Z) (h2:sa Z=some (.ok (.rt d fl),Z1)) (h3:ju Z1 0 (List.zipWith vM mask ps)=some qs):fnM mask n sa ps=some (.ok (d,fl),qs):=by
 subst h0;simp only[fnM,h1,if_true,fn0,h2,h3,FH]
theorem BT {mask:List Bool} {ps qs:List (L3.D×Fl)} (h1:ps.length=mask.length) (h0:lw n (List.zipWith vM mask ps)=Z) (h2:sa Z=some (.ok .nx,Z1)) (h3:ju Z1 0 (List.zipWith vM mask ps)=some qs):fnM mask n sa ps=some (.ok (.non,.z),qs):=by
 subst h0;simp only[fnM,h1,if_true,fn0,h2,h3,FH]
theorem fE {i j:Int} (h:-18446744073709551616 < i/\i < 18446744073709551616):dD (.int i) (.int j)=#v[.int (i * j)]:=by
 simp[dF,h]
theorem xZ {i j:Int} (h:-18446744073709551616 < j/\j < 18446744073709551616):dD (.int i) (.int j)=#v[.int (i * j)]:=by
 simp[dF,h]
theorem dR {im:IM} {bnd:L3.D->Sto->Option Sto} {o:Except L3.D Flw} (h1:im Z=some (.ok (rs,ds),Z1)) (a:us Z1 (pls rs)=[]) (h2:fV bnd sb ds Z1=some (o,Z2)):dw im bnd sb Z=some (o,Z2):=by
 have b:∀ f Z,aL f [] Z=Z:=λ_ _=>rfl
 simp only[dw,ag,h1,a,b,h2,FH]
theorem yH {im:IM} {bnd:L3.D->Sto->Option Sto} {o:Except L3.D Flw} {is:List Nat} (h1:im Z=some (.ok (rs,ds),Z1)) (a:us Z1 (pls rs)=is) (h2:fV bnd sb ds (aL dB is Z1)=some (o,Z2)):dw im bnd sb Z=some (o,aL iK is Z2):=by
 simp only[dw,ag,h1,a,h2,FH]
theorem lU (h1:m Z=some (.ok r,Z1)) (h2:der r Z1=some (.ok d,Z1)) (h3:B6 d=some ds):cA m Z=some (.ok ([r],ds),Z1):=by
 simp only[cA,ag,h1,h2,bm,h3,FH]
theorem bZ {f:List L3.D->Option (List L3.D)} {xs:List L3.D} (h1:ms Z=some (.ok rs,Z1)) (h2:fm rs Z1=some (.ok ds,Z1)) (h3:f ds=some xs):aX f ms Z=some (.ok ([],xs),Z1):=yG h1 h2 h3
end
theorem aR {α:Type} {bnd:L3.D->Sto->Option Sto} {c:M3 Bool} {elt:EM} (P:Sto->Prop) (D:α->L3.D) (g:α->Bool) (f:α->L3.D):∀ {xs:List α} {Y:Sto},P Y ->
  (∀ x∈xs,∀ Y,P Y->∃ Y1 Y2,bnd (D x) Y=some Y1/\c Y1=some (.ok (g x),Y2)/\(g x=false->P Y2)/\(g x=true->∃ r Y3 p Y4,elt Y2=some (.ok r,Y3)/\fX r Y3=some (.ok p,Y4)/\p.1=f x/\P Y4)) ->
  ∃ Y',bf bnd c elt (xs.map D) Y=some (.ok ((xs.filter g).map f),Y')/\P Y'
 | [],Y,h0,_=>#[Y,rfl,h0]
 | x::xs,Y,h0,hs=>by
  obtain ⟨Y1,Y2,e1,a,hf,i⟩:=hs x E5 Y h0
  cases hg:g x with
  | false =>
   obtain ⟨Y',e,b⟩:=aR P D g f (xs:=xs) (Y:=Y2) (hf hg) λd hd=>hs d (E6 _ hd)
   refine #[Y',?_,b]
   rw[Fv]
   unfold bf
   rw[hg] at a
   simp[e1,ag,a,e,List.filter_cons,hg]
  | true =>
   obtain ⟨r,Y3,p,Y4,j,k,l,h⟩:=i hg
   obtain ⟨Y',e,b⟩:=aR P D g f (xs:=xs) (Y:=Y4) h λd hd=>hs d (E6 _ hd)
   refine #[Y',?_,b]
   rw[Fv]
   unfold bf
   rw[hg] at a
   simp[e1,ag,a,j,k,e,List.filter_cons,hg,a9,l]
section
variable {α:Type} {P:List α->Prop} {us:List α}
theorem bnd0 (h:us.length=0) (f:P []):P us:=by
 cases us with
 | nil=>exact f
 | cons a us=>cases h
theorem BM {n:Nat} (h:us.length=n+1) (f:∀ a r,r.length=n->P (a::r)):P us:=by
 cases us with
 | nil=>cases h
 | cons a us=>exact f a us (Nat.succ.inj h)
theorem bnd1 (h:us.length=1) (f:∀ a,P [a]):P us:=BM h λa _ h=>bnd0 (P:=λr=>P (a::r)) h (f a)
theorem bnd2 (h:us.length=2) (f:∀ a b,P [a,b]):P us:=BM h λa _ h=>bnd1 (P:=λr=>P (a::r)) h (f a)
theorem bnd3 (h:us.length=3) (f:∀ a b c,P [a,b,c]):P us:=BM h λa _ h=>bnd2 (P:=λr=>P (a::r)) h (f a)
theorem bnd4 (h:us.length=4) (f:∀ a b c d,P [a,b,c,d]):P us:=BM h λa _ h=>bnd3 (P:=λr=>P (a::r)) h (f a)
end
theorem hb1 {x:Str} {st:Stmt} {b:Str} (f:∀ (kV doc pm:Value) (an:Option Addr) (a ct c:Value),bindArgs (PySem.W.fnOf x x (aY st) (aS st) (ai st) .none kV doc pm an a ct) #[[c],[]]=pure ([b].zip [c])) (kV doc pm:Value) (an:Option Addr) (a ct:Value) (us:List Value) (hl:us.length=[b].length):bindArgs (PySem.W.fnOf x x (aY st) (aS st) (ai st) .none kV doc pm an a ct) #[us,[]]=pure ([b].zip us) :=
 bnd1 (P:=λus=>bindArgs (PySem.W.fnOf x x (aY st) (aS st) (ai st) .none kV doc pm an a ct) #[us,[]]=pure ([b].zip us)) hl (f kV doc pm an a ct)
theorem hb2 {x:Str} {st:Stmt} {b c:Str} (f:∀ (kV doc pm:Value) (an:Option Addr) (a ct d a1:Value),bindArgs (PySem.W.fnOf x x (aY st) (aS st) (ai st) .none kV doc pm an a ct) #[[d,a1],[]]=pure ([b,c].zip [d,a1])) (kV doc pm:Value) (an:Option Addr) (a ct:Value) (us:List Value) (hl:us.length=[b,c].length):bindArgs (PySem.W.fnOf x x (aY st) (aS st) (ai st) .none kV doc pm an a ct) #[us,[]]=pure ([b,c].zip us) :=
 bnd2 (P:=λus=>bindArgs (PySem.W.fnOf x x (aY st) (aS st) (ai st) .none kV doc pm an a ct) #[us,[]]=pure ([b,c].zip us)) hl (f kV doc pm an a ct)
theorem hb3 {x:Str} {st:Stmt} {c b p2:Str} (f:∀ (kV doc pm:Value) (an:Option Addr) (a ct d a1 a2:Value),bindArgs (PySem.W.fnOf x x (aY st) (aS st) (ai st) .none kV doc pm an a ct) #[[d,a1,a2],[]]=pure ([c,b,p2].zip [d,a1,a2])) (kV doc pm:Value) (an:Option Addr) (a ct:Value) (us:List Value) (hl:us.length=[c,b,p2].length):bindArgs (PySem.W.fnOf x x (aY st) (aS st) (ai st) .none kV doc pm an a ct) #[us,[]]=pure ([c,b,p2].zip us) :=
 bnd3 (P:=λus=>bindArgs (PySem.W.fnOf x x (aY st) (aS st) (ai st) .none kV doc pm an a ct) #[us,[]]=pure ([c,b,p2].zip us)) hl (f kV doc pm an a ct)
theorem hb4 {x:Str} {st:Stmt} {d b p2 c:Str} (f:∀ (kV doc pm:Value) (an:Option Addr) (a ct g a1 a2 e:Value),bindArgs (PySem.W.fnOf x x (aY st) (aS st) (ai st) .none kV doc pm an a ct) #[[g,a1,a2,e],[]]=pure ([d,b,p2,c].zip [g,a1,a2,e])) (kV doc pm:Value) (an:Option Addr) (a ct:Value) (us:List Value) (hl:us.length=[d,b,p2,c].length):bindArgs (PySem.W.fnOf x x (aY st) (aS st) (ai st) .none kV doc pm an a ct) #[us,[]]=pure ([d,b,p2,c].zip us) :=
 bnd4 (P:=λus=>bindArgs (PySem.W.fnOf x x (aY st) (aS st) (ai st) .none kV doc pm an a ct) #[us,[]]=pure ([d,b,p2,c].zip us)) hl (f kV doc pm an a ct)
end Bn
end
section
namespace L3
open PySem L2
def tgN:Expr->List Str
 | .Name x _=>[x]
 | .Tuple [.Name x _,.Name y _] _ _=>[x,y]
 | .Tuple [.Name x _,.Name y _,.Name z _] _ _=>[x,y,z]
 | _=>[]
def qw (tg:Expr) (N:List Str) (ix:List (Option Nat)):List Str:=tgN tg++ix.filterMap λo=>o.bind λi=>N[i]?
def ndB:List Str->Bool
 | []=>true
 | x::xs=>!(xs.any λy=>decide (y=x)) && ndB xs
theorem n6:∀ {xs:List Str},ndB xs=true->xs.Nodup
 | [],_=>.nil
 | x::xs,h=>by
  simp only[ndB,Bool.and_eq_true,Bool.not_eq_true',List.any_eq_false,decide_eq_true_eq] at h
  exact List.nodup_cons.mpr #[λm=>h.1 x m rfl,n6 h.2]
section
variable {X:Cx} {G0:Gm} {W0:D->Sto->Prop} {pos:Pos}
theorem qg (f:X.calm=true) (hi:RI X G0 W0 tg iter im) (d:∀ s H C fp,PTs (aP X (qw tg X.N ix) scope s H C fp) ifs (tT X.K (bq ix) noX cm)) (he:∀ s H C fp,RE (aP X (qw tg X.N ix) scope s H C fp) (bq ix) noX elt em) (g:jb scope X.N X.env.scope (qw tg X.N ix) ix=true) (c:Inj ix) (e:∀ x,foldedSetIterable iter X.env x=pure x) (b:∃ a,Bnd X.K (bq ix).pr a bnd/\∀ s H C fp,PG (aP X (qw tg X.N ix) scope s H C fp) tg a):RE X G0 W0 (.ListComp elt [#[tg,iter,ifs,0]] scope pos) (a7 im bnd cm em ix) :=
 At _ ix f hi d he g c e b
theorem lb {i:Nat} (j:X.N.Nodup) (l:X.N[i]?=some y) (g:Loc X.env.scope y) (m:X.calm=true) (hi:RI X G0 W0 tg iter im) (e:∀ s H C fp,PTs (aP X (qw tg X.N ix) scope s H C fp) ifs (tT X.K (bq ix) noX cm)) (he:∀ s H C fp,RE (aP X (qw tg X.N ix) scope s H C fp) (bq ix) noX elt em) (f:jb scope X.N X.env.scope (qw tg X.N ix) ix=true) (c:Inj ix) (d:swapsWith (.ListComp elt [#[tg,iter,ifs,0]] scope pos) (some (.Name y py)) spos.line X.env=pure true) (hf:X.fn y=true\/X.env.scope.names.lookup y=some .local) (k:∀ x,foldedSetIterable iter X.env x=pure x) (h:G0.pr i=false) (b:∃ a,Bnd X.K (bq ix).pr a bnd/\∀ s H C fp,PG (aP X (qw tg X.N ix) scope s H C fp) tg a):RS X G0 W0 (.Assign [.Name y py] (.ListComp elt [#[tg,iter,ifs,0]] scope pos) spos) (aN i (a7 im bnd cm em ix)) :=
 r0 j l g _ ix m hi e he f c d hf k h b
end
section
variable {X:Cx} {G0:Gm} {W0:D->Sto->Prop} {p q r:Pos} {m:EM} {e e1:Expr} {es:List Expr} {t:M3 Bool} {sm:SM}
theorem gN {i:Nat} (h:RE X G0 W0 (.Name x p) (ac i)):RE X G0 W0 (.Name x p) (ac i):=h
theorem gG (h:RE X G0 W0 (.Name x p) (mC d)):RE X G0 W0 (.Name x p) (mC d):=h
theorem gH (h:RE X G0 W0 (.Name x p) m):RE X G0 W0 (.Name x p) m:=h
theorem gK {k:Nat} (h:RE X G0 W0 (.Constant c k p) m):RE X G0 W0 (.Constant c k p) m:=h
theorem gB (op:Operator) (h:RE X G0 W0 (.BinOp e op e1 p) m):RE X G0 W0 (.BinOp e op e1 p) m:=h
theorem gU (op:UnaryOp) (h:RE X G0 W0 (.UnaryOp op e p) m):RE X G0 W0 (.UnaryOp op e p) m:=h
theorem gP (os:List CmpOp) (h:RE X G0 W0 (.Compare e os es p) m):RE X G0 W0 (.Compare e os es p) m:=h
theorem gO (h:RE X G0 W0 (.BoolOp op es p) m):RE X G0 W0 (.BoolOp op es p) m:=h
theorem gS (h:RE X G0 W0 (.Subscript e e1 p) m):RE X G0 W0 (.Subscript e e1 p) m:=h
theorem gL (h:RE X G0 W0 (.Subscript e (.Slice a b c p) q) m):RE X G0 W0 (.Subscript e (.Slice a b c p) q) m:=h
theorem gI (x:Str) (h:RE X G0 W0 (.Call (.Name s p) [e,.Name x q] [] r) m):RE X G0 W0 (.Call (.Name s p) [e,.Name x q] [] r) m:=h
theorem gC (x:Str) (h:RE X G0 W0 (.Call (.Name x p) es ks q) m):RE X G0 W0 (.Call (.Name x p) es ks q) m:=h
theorem gD (h:RE X G0 W0 (.Call (.Name x p) es ks q) m):RE X G0 W0 (.Call (.Name x p) es ks q) m:=h
theorem gM (x:Str) (h:RE X G0 W0 (.Call (.Attribute e x p) es ks q) m):RE X G0 W0 (.Call (.Attribute e x p) es ks q) m:=h
theorem gE (h:RE X G0 W0 e m):RE X G0 W0 e m:=h
theorem gA (h:RA X G0 W0 es ms):RA X G0 W0 es ms:=h
theorem gQ (os:List CmpOp) (h:RT X G0 W0 (.Compare e os es p) t):RT X G0 W0 (.Compare e os es p) t:=h
theorem gW (h:RT X G0 W0 (.BoolOp op es p) t):RT X G0 W0 (.BoolOp op es p) t:=h
theorem gV (h:RT X G0 W0 (.UnaryOp .Not e p) t):RT X G0 W0 (.UnaryOp .Not e p) t:=h
theorem gT (h:RT X G0 W0 e t):RT X G0 W0 e t:=h
theorem gR (h:RS X G0 W0 (.Return o p) sm):RS X G0 W0 (.Return o p) sm:=h
theorem gF (h:RS X G0 W0 (.If e ss tt p) sm):RS X G0 W0 (.If e ss tt p) sm:=h
theorem gX (h:RS X G0 W0 (.Assign [.Name x p] e q) sm):RS X G0 W0 (.Assign [.Name x p] e q) sm:=h
theorem gZ (h:RS X G0 W0 st sm):RS X G0 W0 st sm:=h
theorem gY (h:RSs X G0 W0 ss sm):RSs X G0 W0 ss sm:=h
end
end L3
end
section
namespace Bn
open PySem L2 L3
local macro_rules | `(tactic| infer_instance)=>`(tactic| first | with_reducible apply af | with_reducible exact i_c | with_reducible apply aw | with_reducible apply i_un | with_reducible apply aG | with_reducible exact au | with_reducible apply ae | with_reducible apply cQ | with_reducible apply bP | with_reducible apply i_asg | with_reducible apply fk | with_reducible apply bF | with_reducible exact i_nilS | with_reducible apply bG | with_reducible apply io | with_reducible apply i_mNot | with_reducible apply Ey | with_reducible exact pe | with_reducible apply pd | with_reducible apply i_mut | with_reducible apply ux | with_reducible apply lU | with_reducible apply bZ | with_reducible apply lT | with_reducible apply kj)
local macro_rules | `(tactic| eq_refl)=>`(tactic| first | exact rfl | exact Nat.le_of_ble_eq_true rfl)
local macro_rules | `(tactic| nofun) => `(tactic| repeat' (first | infer_instance | eq_refl))
local macro_rules | `(tactic| exists $es,*) => `(tactic| repeat' (first | infer_instance | (first $[| exact $es]*) | eq_refl))
local macro_rules | `(tactic| nomatch [$fs,*]) => `(tactic| repeat' (first | infer_instance | (first $[| with_reducible apply aq $fs]*) | eq_refl))
local macro_rules | `(tactic| nomatch [$fs,*], [$es,*]) => `(tactic| repeat' (first | infer_instance | (first $[| with_reducible apply aq $fs]*) | (first $[| exact $es]*) | eq_refl))
section
variable {X:Cx} {G0:Gm} {W0:L3.D->Sto->Prop} {pos:Pos}
end
section
variable {P:Program} {w:World} {K:FG} {mg:Str->Option Value} {base:Heap}
local macro_rules | `(tactic| ac_rfl) => `(tactic| exact ⟨rfl,rfl,rfl,by decide +kernel,rfl,by decide +kernel,by decide +kernel⟩)
set_option hygiene false
local macro_rules | `(tactic| and_intros)=>`(tactic| repeat' (first
 | ((with_reducible apply gA);first | refine Av ?_ ?_ rfl | refine Dr)
 | ((with_reducible apply gN);first | refine oP _ rfl (Or.inl rfl) (by decide) (by decide) | refine oP _ rfl (Or.inr (Or.inl rfl)) (by decide) (by decide))
 | ((with_reducible apply gG);refine qf rfl (by assumption) (by decide))
 | ((with_reducible apply gK);first | refine Do | refine re_bl | refine Dm)
 | ((with_reducible apply gL);refine xy ?_ ?_ ?_)
 | ((with_reducible apply gS);refine re_ix (Ev hr.hu) DY ?_ ?_ (λ_ _=>rfl))
 | ((with_reducible apply gB .Add);refine jK AW Ec ?_ ?_)
 | ((with_reducible apply gB .Sub);refine jK DO AY ?_ ?_)
 | ((with_reducible apply gB .Mult);first | refine jK DS A1 ?_ ?_ | refine jK DP DZ ?_ ?_)
 | ((with_reducible apply gB .Mod);refine jK DT A2 ?_ ?_)
 | ((with_reducible apply gB .FloorDiv);refine jK xU A6 ?_ ?_)
 | ((with_reducible apply gB .Pow);refine jK DQ AZ ?_ ?_)
 | ((with_reducible apply gQ [.Eq]);refine jJ (xV hr.units) xX ?_ ?_ (fO _))
 | ((with_reducible apply gQ [.Gt]);refine jJ Ca Cc ?_ ?_ (fO _))
 | ((with_reducible apply gQ [.Lt]);refine jJ n5 qu ?_ ?_ (fO _))
 | ((with_reducible apply gQ [.NotEq]);refine jJ (DR hr.units) Ea ?_ ?_ (fO _))
 | ((with_reducible apply gQ [.NotIn]);refine jJ oZ od_in ?_ ?_ (by with_unfolding_all rfl))
 | ((with_reducible apply gQ [.IsNot]);first | refine jJ AV A4 ?_ ?_ (fO _) | refine jJ AU A0 ?_ ?_ (fO _))
 | ((with_reducible apply gQ [.LtE,.LtE]);refine qd lf qv lf qv ?_ ?_ ?_ (by with_unfolding_all rfl))
 | ((with_reducible apply gQ [.Lt,.Lt]);refine qd n5 qu n5 qu ?_ ?_ ?_ (by with_unfolding_all rfl))
 | ((with_reducible apply gW);refine rt_w ?_)
 | ((with_reducible apply gV);refine Da ?_)
 | ((with_reducible apply gT);refine C9 ?_ (λ_=>rfl))
 | ((with_reducible apply gP [.Eq]);refine oQ (xV hr.units) xX ?_ ?_ (fO _))
 | ((with_reducible apply gP [.Lt]);refine oQ n5 qu ?_ ?_ (fO _))
 | ((with_reducible apply gP [.Is]);refine oQ DU Eb ?_ ?_ (fO _))
 | ((with_reducible apply gP [.LtE,.Lt]);refine qh lf qv n5 qu ?_ ?_ ?_ (λh1 h2 h3=>qo lf n5 h1 h2 h3))
 | ((with_reducible apply gP [.LtE,.LtE]);refine qh lf qv lf qv ?_ ?_ ?_ (λh1 h2 h3=>qo lf lf h1 h2 h3))
 | ((with_reducible apply gP [.Gt]);refine oQ Ca Cc ?_ ?_ (fO _))
 | ((with_reducible apply gO);first | refine Dp ?_ ?_ | refine Dk ?_)
 | ((with_reducible apply gU .USub);refine re_un Cu Cv ?_)
 | ((with_reducible apply gU .Not);refine Dl ?_)
 | ((with_reducible apply gI "tuple");refine sh m4 rfl B.isinstance (oV (v:=V.ty "tuple") rfl B.tuple uV rfl (by decide) (by decide)) ?_ rfl rfl rfl)
 | ((with_reducible apply gI "int");refine sh pA rfl B.isinstance (oV (v:=V.ty "int") rfl B.int Cq rfl (by decide) (by decide)) ?_ rfl rfl rfl)
 | ((with_reducible apply gI "bool");refine sh nD rfl B.isinstance (oV (v:=V.ty "bool") rfl B.bool EX rfl (by decide) (by decide)) ?_ rfl rfl rfl)
 | ((with_reducible apply gC "len");refine eM pw ES rfl B.len b_len ?_ (by decide) (by decide) rfl rfl)
 | ((with_reducible apply gC "all");refine eM (zj rfl) ET rfl B.all b_all ?_ (by decide) (by decide) rfl rfl)
 | ((with_reducible apply gC "tuple");refine nW nC EQ rfl B.tuple uV ?_ (by decide) (by decide) rfl rfl)
 | ((with_reducible apply gC "sum");refine eM (wj rfl) ER rfl B.sum b_sum ?_ (by decide) (by decide) rfl rfl)
 | ((with_reducible apply gC "max");first | refine As rfl rfl B.max rfl B.len ?_ ?_ rfl rfl rfl rfl rfl rfl | refine eM (wn rfl) BF rfl B.max b_max ?_ (by decide) (by decide) rfl rfl)
 | ((with_reducible apply gC "abs");refine eM zk EU rfl B.abs b_abs ?_ (by decide) (by decide) rfl rfl)
 | ((with_reducible apply gC "divmod");refine eM rj wg rfl B.divmod zp ?_ (by decide) (by decide) rfl rfl)
 | ((with_reducible apply gC "int");refine nW wq BG rfl B.int Cq ?_ (by decide) (by decide) rfl rfl)
 | ((with_reducible apply gC "min");refine eM (wk rfl) BE rfl B.min b_min ?_ (by decide) (by decide) rfl rfl)
 | ((with_reducible apply gD);refine Au (by assumption) (hr.mono (by first | decide | omega)) ?_ rfl (by decide) rfl rfl)
 | ((with_reducible apply gM "extend");refine t0 (ok:=isL) PySem.F.plainAttrs_list PySem.F.slot_list_extend PySem.F.type_list_extend vD Eh yD (mE rfl (Or.inl rfl) (by decide) (by decide)) ?_ rfl rfl rfl rfl rfl)
 | ((with_reducible apply gM "append");refine t0 (ok:=isL) PySem.F.plainAttrs_list PySem.F.slot_list_append PySem.F.type_list_append vE Ei yD (mE rfl (Or.inl rfl) (by decide) (by decide)) ?_ rfl rfl rfl rfl rfl)
 | ((with_reducible apply gH);first | refine oP _ rfl (Or.inl rfl) (by decide) (by decide) | refine oP _ rfl (Or.inr (Or.inl rfl)) (by decide) (by decide) | refine qf rfl (by assumption) (by decide))
 | ((with_reducible apply gE);first | refine qg rfl ?_ (λs H C fp=>?_) (λs H C fp=>?_) (by rfl) (pc (by decide)) (λ_=>rfl) #[_,gj rfl,λs H C fp=>jn (n6 rfl) rfl (Or.inl rfl) (Or.inr rfl)] | refine Dj ?_ | refine Dn ?_ | refine xz | refine re_if ?_ ?_ ?_ | refine qg rfl ?_ (λs H C fp=>?_) (λs H C fp=>?_) (by rfl) (pc (by decide)) (λ_=>rfl) #[_,gj rfl,λs H C fp=>jn (n6 rfl) rfl (Or.inr rfl) (Or.inl rfl)])
 | ((with_reducible apply gY);first | refine xo ?_ ?_ | refine Ag ?_ | refine Ah)
 | ((with_reducible apply gR);refine Dc _ (λi hi=>by rw[hp] ;exact AJ (by simpa using hi)) ?_)
 | ((with_reducible apply gF);refine rs_if ?_ ?_ ?_)
 | ((with_reducible apply gX);first | refine lb nd rfl (Or.inl rfl) rfl ?_ (λs H C fp=>?_) (λs H C fp=>?_) (by rfl) (pc (by decide)) rfl (Or.inl rfl) (λ_=>rfl) (by rw[hp] ;rfl) #[_,gj rfl,λs H C fp=>jn (n6 rfl) rfl (Or.inl rfl) (Or.inr rfl)] | refine lb nd rfl (Or.inl rfl) rfl ?_ (λs H C fp=>?_) (λs H C fp=>?_) (by rfl) (pc (by decide)) rfl (Or.inl rfl) (λ_=>rfl) (by rw[hp] ;rfl) #[_,uT (k6 (gj rfl) (k6 (gj rfl) rE)),λs H C fp=>xN (n:=2) rfl (mD (jn (n6 rfl) rfl (Or.inl rfl) (Or.inr rfl)) (mD (jn (n6 rfl) rfl (Or.inl rfl) (Or.inr rfl)) ue rfl) rfl) rfl rfl] | refine xq _ nd rfl (Or.inl rfl) ?_ rfl (Or.inl rfl) (by rw[hp] ;rfl) | refine xq _ nd rfl (Or.inr rfl) ?_ rfl (Or.inl rfl) (by rw[hp] ;rfl))
 | ((with_reducible apply gZ);first | refine Dd PassesOwn.never rfl ?_ ?_ ?_ (λ_=>rfl) | refine Ai ?_ rfl | refine xr | refine Db (z7 hr.hu) Eg (mE rfl (Or.inl rfl) (by decide) (by decide)) ?_ ?_ (λ_=>rfl) rfl rfl rfl | refine Df ?_ ?_ rfl rfl rfl | refine Aj (mE rfl (Or.inl rfl) (by decide) (by decide)) ?_ ?_ (λ_ _ _=>rfl) | refine De _ nd rfl (Or.inl rfl) ?_ (Or.inl rfl) (by rw[hp] ;rfl) | refine xp PassesOwn.never ?_ ?_)
 | refine tZ _ nd rfl (Or.inl rfl) (Or.inl rfl) (by rw[hp] ;rfl)
 | refine Dg ?_
 | refine xu
 | refine Ao rfl B.range ?_ rfl
 | refine An rfl B.range ?_ rfl rfl
 | refine xt ?_
 | refine C2 ?_
 | refine rw_or ?_ ?_
 | refine Ak ?_
 | refine xx ?_ ?_ rfl
 | refine z9 ?_
 | refine C3 ?_ ?_
 | refine tZ _ nd rfl (Or.inr rfl) (Or.inl rfl) (by rw[hp] ;rfl)
 | refine Al
 | refine Aq
 | refine Dh rfl ?_ rfl rfl
 | refine Ap rfl B.enumerate ?_ rfl))
local macro_rules | `(tactic| specialize $q) => `(tactic| exact aE D $q rfl rfl (by first | exact hb1 λ_ _ _ _ _ _ _=>rfl | exact hb2 λ_ _ _ _ _ _ _ _=>rfl | exact hb3 λ_ _ _ _ _ _ _ _ _=>rfl | exact hb4 λ_ _ _ _ _ _ _ _ _ _=>rfl) λcdv A outer s H E f G hr hp=>have nd:=($q).nd;by and_intros)
set_option hygiene true
def sG:SM:=(aT 1 (ke (mUn (vS "int") (ac 0)) (Ek (mUn (vS "bool") (ac 0)))))
def bN:Fn:=fnM [false] 1 sG
theorem sc_is_whole:FnScope ["thing"] ["thing"] (ai gr):=by ac_rfl
theorem pC (B:Bl mg) (D:Def K mg "is_whole" gr):aA P w K mg base "is_whole" 1 ["thing"] bN :=by specialize sc_is_whole
def sI:SM:=(aT 1 (ke (mUn (vS "tuple") (ac 0)) (ke (ah eqX (ay bC (aa (ac 0) aj)) (mC (.int 2))) (ke (am bN (aa (ah aC (ac 0) (mC (.int 0))) aj)) (am bN (aa (ah aC (ac 0) (mC (.int 1))) aj))))))
def iy:Fn:=fnM [false] 1 sI
theorem sc_is_point:FnScope ["thing"] ["thing"] (ai gv):=by ac_rfl
theorem pE (B:Bl mg) (D:Def K mg "is_point" gv) (a:aA P w K mg base "is_whole" 1 ["thing"] bN):aA P w K mg base "is_point" 2 ["thing"] iy :=by specialize sc_is_point
def sJ:SM:=(aT 2 (ke (am bN (aa (ac 0) aj)) (ff leI ltI (mC (.int 0)) (ac 0) (ac 1))))
def dH:Fn:=fnM [false,false] 2 sJ
theorem sc_is_place:FnScope ["thing","many"] ["thing","many"] (ai gw):=by ac_rfl
theorem pF (B:Bl mg) (D:Def K mg "is_place" gw) (a:aA P w K mg base "is_whole" 1 ["thing"] bN):aA P w K mg base "is_place" 2 ["thing","many"] dH :=by specialize sc_is_place
def bL:EM:=(am dH (aa (ac 0) (aa (ac 1) aj)))
def dg:EM:=(a7 (cA (ac 0)) (ao 0) b9 bL [none,some 1])
def dh:EM:=(ah ltI (ah aC (ac 1) (ac 0)) (ah aC (ac 1) (ah ba (ac 0) (mC (.int 1)))))
def df:EM:=(a7 (aX dA (aa (ah cy (ay bC (aa (ac 0) aj)) (mC (.int 1))) aj)) (ao 0) b9 dh [none,some 0])
def js:SM:=(aB (sIf (cOr (jf (cB (mUn (vS "tuple") (ac 0)))) (jf (cB (ay pJ (aa dg aj))))) (aT 2 (mC (.bl false))) cU) (aT 2 (ay pJ (aa df aj))))
def bE:Fn:=fnM [false,false] 2 js
theorem sc_are_rising_places:FnScope ["thing","many"] ["thing","many"] (ai bD):=by ac_rfl
theorem iI (B:Bl mg) (D:Def K mg "are_rising_places" bD) (a:aA P w K mg base "is_place" 2 ["thing","many"] dH):aA P w K mg base "are_rising_places" 3 ["thing","many"] bE :=by specialize sc_are_rising_places
def nw:SM:=(sIf (jf (cB (am dH (aa (ac 0) (aa (ac 1) aj))))) jI cU)
def dO:Fn:=fnM [false,false] 2 nw
theorem sc_check_place:FnScope ["thing","many"] ["thing","many"] (ai dM):=by ac_rfl
theorem lN (B:Bl mg) (D:Def K mg "check_place" dM) (a:aA P w K mg base "is_place" 2 ["thing","many"] dH):aA P w K mg base "check_place" 3 ["thing","many"] dO :=by specialize sc_check_place
def mL:SM:=(sIf (cOr (jf (cB (am bN (aa (ac 0) aj)))) (jf (cB (ff leI leI (ac 1) (ac 0) (ac 2))))) jI cU)
def bH:Fn:=fnM [false,false,false] 3 mL
theorem sc_check_number:FnScope ["thing","least","most"] ["thing","least","most"] (ai cZ):=by ac_rfl
theorem k4 (B:Bl mg) (D:Def K mg "check_number" cZ) (a:aA P w K mg base "is_whole" 1 ["thing"] bN):aA P w K mg base "check_number" 2 ["thing","least","most"] bH :=by specialize sc_check_number
def lj:SM:=(sIf (cB (ah gtI (ac 0) (ac 1))) jI cU)
def cT:Fn:=fnM [false,false] 2 lj
theorem sc_check_few:FnScope ["many","most"] ["many","most"] (ai fA):=by ac_rfl
theorem nF (B:Bl mg) (D:Def K mg "check_few" fA):aA P w K mg base "check_few" 1 ["many","most"] cT :=by specialize sc_check_few
def dX:EM:=(am iy (aa (ac 0) aj))
def iD:EM:=(a7 (cA (ac 0)) (ao 0) b9 dX [none])
def o5:SM:=(aT 1 (ke (ff leI leI (mC (.int 1)) (ay bC (aa (ac 0) aj)) (mC (.int (24)))) (ay pJ (aa iD aj))))
def eI:Fn:=fnM [false] 1 o5
theorem sc_are_points:FnScope ["things"] ["things"] (ai d9):=by ac_rfl
theorem m7 (B:Bl mg) (D:Def K mg "are_points" d9) (c:aA P w K mg base "is_point" 2 ["thing"] iy) {a:Tok} (b:mg "MOST_POINTS"=some (.int (24) a)):aA P w K mg base "are_points" 3 ["things"] eI :=by specialize sc_are_points
def c7:EM:=(ah ltI (ah aC (ah aC (ac 1) (ac 0)) (mC (.int 0))) (ah aC (ah aC (ac 1) (ah ba (ac 0) (mC (.int 1)))) (mC (.int 0))))
def fG:EM:=(a7 (aX dA (aa (ah cy (ay bC (aa (ac 0) aj)) (mC (.int 1))) aj)) (ao 0) b9 c7 [none,some 0])
def iW:SM:=(aT 1 (ay pJ (aa fG aj)))
def du:Fn:=fnM [false] 1 iW
theorem sc_has_rising_x:FnScope ["points"] ["points"] (ai cW):=by ac_rfl
theorem kX (B:Bl mg) (D:Def K mg "has_rising_x" cW):aA P w K mg base "has_rising_x" 1 ["points"] du :=by specialize sc_has_rising_x
def Ej:SM:=(aB (aN 3 (ah dD (ah cy (ah aC (ac 1) (mC (.int 0))) (ah aC (ac 0) (mC (.int 0)))) (ah cy (ah aC (ac 2) (mC (.int 1))) (ah aC (ac 0) (mC (.int 1)))))) (aT 3 (ah cy (ac 3) (ah dD (ah cy (ah aC (ac 1) (mC (.int 1))) (ah aC (ac 0) (mC (.int 1)))) (ah cy (ah aC (ac 2) (mC (.int 0))) (ah aC (ac 0) (mC (.int 0))))))))
def k8:Fn:=fnM [false,false,false] 4 Ej
theorem sc_bend:FnScope ["first","second","third","run"] ["first","second","third"] (ai oM):=by ac_rfl
theorem zm (B:Bl mg) (D:Def K mg "bend" oM):aA P w K mg base "bend" 1 ["first","second","third"] k8 :=by specialize sc_bend
def iR:EM:=(ig (aa (ac 1) (aa (ac 2) (aa (ac 0) aj))))
def lg:EM:=(a7 (aX cN (aa (ah ba (ac 3) (mC (.int 1))) (aa (ac 0) aj))) (ao 0) b9 iR [none,some 2,some 3])
def iS:SM:=(dZ (vK isL yV 1 (aa lg aj)))
def lh:SM:=(dw (aX cN (aa (ah ba (ac 2) (mC (.int 1))) (aa (ac 0) aj))) (ao 3) iS)
def yh:SM:=(aB (aN 1 (iH aj)) (aB (dw (aX dA (aa (ac 0) aj)) (ao 2) lh) (aT 1 (ac 1))))
def gk:Fn:=fnM [false] 4 yh
theorem sc_threes:FnScope ["many","found","i","j"] ["many"] (ai jW):=by ac_rfl
theorem sW (B:Bl mg) (D:Def K mg "threes" jW):aA P w K mg base "threes" 1 ["many"] gk :=by specialize sc_threes
def cO:EM:=(ah aC (ac 1) (ac 0))
def fc:EM:=(a7 (cA (ac 1)) (ao 0) b9 cO [none,some 0])
def bK:SM:=(aB (aN 2 (ay l6 (aa fc aj))) (sIf (cB (ah eqX (am k8 (aa (ah aC (ac 2) (mC (.int 0))) (aa (ah aC (ac 2) (mC (.int 1))) (aa (ah aC (ac 2) (mC (.int 2))) aj)))) (mC (.int 0)))) (aT 1 (ac 2)) cU))
def lE:SM:=(aB (dw (cA (am gk (aa (ay bC (aa (ac 0) aj)) aj))) (ao 1) bK) (aT 1 (mC .non)))
def cM:Fn:=fnM [false] 3 lE
theorem sc_first_on_line:FnScope ["points","three","found"] ["points"] (ai cG):=by ac_rfl
theorem kA (B:Bl mg) (D:Def K mg "first_on_line" cG) (b:aA P w K mg base "bend" 1 ["first","second","third"] k8) (a:aA P w K mg base "threes" 1 ["many"] gk):aA P w K mg base "first_on_line" 2 ["points"] cM :=by specialize sc_first_on_line
def sH:SM:=(aB (sIf (cOr (jf (cB (mUn (vS "tuple") (ac 0)))) (jf (cB (am eI (aa (ac 0) aj))))) (aT 1 (mC (.bl false))) cU) (aT 1 (ke (am du (aa (ac 0) aj)) (ah isN (am cM (aa (ac 0) aj)) (mC .non)))))
def iw:Fn:=fnM [false] 1 sH
theorem sc_is_sheet:FnScope ["thing"] ["thing"] (ai gu):=by ac_rfl
theorem pD (B:Bl mg) (D:Def K mg "is_sheet" gu) (c:aA P w K mg base "are_points" 3 ["things"] eI) (a:aA P w K mg base "first_on_line" 2 ["points"] cM) (b:aA P w K mg base "has_rising_x" 1 ["points"] du):aA P w K mg base "is_sheet" 4 ["thing"] iw :=by specialize sc_is_sheet
def nv:SM:=(sIf (jf (cB (am iw (aa (ac 0) aj)))) jI cU)
def aI:Fn:=fnM [false] 1 nv
theorem sc_check_sheet:FnScope ["thing"] ["thing"] (ai dL):=by ac_rfl
theorem lM (B:Bl mg) (D:Def K mg "check_sheet" dL) (a:aA P w K mg base "is_sheet" 4 ["thing"] iw):aA P w K mg base "check_sheet" 5 ["thing"] aI :=by specialize sc_check_sheet
def vI:SM:=(aT 2 (mIf (cB (ah gtI (am k8 (aa (ah aC (ac 0) (ah aC (ac 1) (mC (.int 0)))) (aa (ah aC (ac 0) (ah aC (ac 1) (mC (.int 1)))) (aa (ah aC (ac 0) (ah aC (ac 1) (mC (.int 2)))) aj)))) (mC (.int 0)))) (mC (.int 1)) (mUn qB (mC (.int 1)))))
def eK:Fn:=fnM [false,false] 2 vI
theorem sc_turn_at:FnScope ["sheet","three"] ["sheet","three"] (ai jj):=by ac_rfl
theorem rB (B:Bl mg) (D:Def K mg "turn_at" jj) (a:aA P w K mg base "bend" 1 ["first","second","third"] k8):aA P w K mg base "turn_at" 2 ["sheet","three"] eK :=by specialize sc_turn_at
def di:SM:=(p9 nq 1 (ac 2) (am eK (aa (ac 0) (aa (ac 2) aj))))
def qK:SM:=(aB (dZ (am aI (aa (ac 0) aj))) (aB (aN 1 sK) (aB (dw (cA (am gk (aa (ay bC (aa (ac 0) aj)) aj))) (ao 2) di) (aT 1 (ac 1)))))
def bg:Fn:=fnM [false] 3 qK
theorem sc_all_turns:FnScope ["sheet","turns","three"] ["sheet"] (ai fB):=by ac_rfl
theorem nG (B:Bl mg) (D:Def K mg "all_turns" fB) (a:aA P w K mg base "check_sheet" 5 ["thing"] aI) (c:aA P w K mg base "threes" 1 ["many"] gk) (b:aA P w K mg base "turn_at" 2 ["sheet","three"] eK):aA P w K mg base "all_turns" 6 ["sheet"] bg :=by specialize sc_all_turns
def oe:SM:=(aB (dZ (am aI (aa (ac 0) aj))) (aB (dZ (am dO (aa (ac 1) (aa (ay bC (aa (ac 0) aj)) aj)))) (aB (sIf (cB (ah eqX (ay bC (aa (ac 0) aj)) (mC (.int 1)))) jI cU) (aT 2 (ah ba (mSl slD (ac 0) qr (jy (ac 1))) (mSl slD (ac 0) (jy (ah ba (ac 1) (mC (.int 1)))) qr))))))
def jr:Fn:=fnM [false,false] 2 oe
theorem sc_without:FnScope ["sheet","place"] ["sheet","place"] (ai ji):=by ac_rfl
theorem rq (B:Bl mg) (D:Def K mg "without" ji) (b:aA P w K mg base "check_place" 3 ["thing","many"] dO) (a:aA P w K mg base "check_sheet" 5 ["thing"] aI):aA P w K mg base "without" 6 ["sheet","place"] jr :=by specialize sc_without
def eQ:EM:=(ah eqX (ah aC (ac 2) (mSl slD (ac 3) (jy (ac 0)) (jy (ah ba (ac 0) (mC (.int 3)))))) (ac 1))
def iU:EM:=(a7 (aX dA (aa (ah cy (ay bC (aa (ac 1) aj)) (mC (.int 2))) aj)) (ao 0) b9 eQ [none,some 2,some 0,some 1])
def qJ:SM:=(aT 3 (ay pJ (aa iU aj)))
def fM:Fn:=fnM [false,false,false] 3 qJ
theorem sc_row_bends:FnScope ["turns","row","way"] ["turns","row","way"] (ai fv):=by ac_rfl
theorem nE (B:Bl mg) (D:Def K mg "row_bends" fv):aA P w K mg base "row_bends" 1 ["turns","row","way"] fM :=by specialize sc_row_bends
def dN:M3 Bool:=(cB (ah eqX (ah aC (ac 2) (ig (aa (ac 3) (aa (ac 0) (aa (ac 4) aj))))) (ac 1)))
def fP:EM:=(ac 0)
def jz:EM:=(a7 (cA (mSl slD (ac 1) (jy (mC (.int 1))) (jy (mUn qB (mC (.int 1)))))) (ao 0) dN fP [none,some 2,some 0,some 3,some 4])
def mJ:SM:=(aB (aN 3 (ah aC (ac 1) (mC (.int 0)))) (aB (aN 4 (ah aC (ac 1) (mUn qB (mC (.int 1))))) (aT 3 (ah ba (ah ba (ig (aa (ac 3) aj)) (ay l6 (aa jz aj))) (ig (aa (ac 4) aj))))))
def cR:Fn:=fnM [false,false,false] 5 mJ
theorem sc_side_row:FnScope ["turns","ring","way","first","last"] ["turns","ring","way"] (ai gq):=by ac_rfl
theorem pB (B:Bl mg) (D:Def K mg "side_row" gq):aA P w K mg base "side_row" 1 ["turns","ring","way"] cR :=by specialize sc_side_row
def cK:EM:=(am fM (aa (ac 1) (aa (am cR (aa (ac 1) (aa (ac 2) (aa (ac 0) aj)))) (aa (ac 0) aj))))
def iB:EM:=(a7 (cA (ig (aa (mC (.int (1))) (aa (mC (.int (-1))) aj)))) (ao 0) b9 cK [none,some 0,some 1])
def kc:SM:=(aB (sIf (cOr (jf (cB (am bE (aa (ac 1) (aa (ac 2) aj))))) (cB (ah ltI (ay bC (aa (ac 1) aj)) (mC (.int (3)))))) (aT 3 (mC (.bl false))) cU) (aT 3 (ay pJ (aa iB aj))))
def bO:Fn:=fnM [false,false,false] 3 kc
theorem sc_is_ring_by:FnScope ["turns","thing","many"] ["turns","thing","many"] (ai d8):=by ac_rfl
theorem m6 (B:Bl mg) (D:Def K mg "is_ring_by" d8) (b:aA P w K mg base "are_rising_places" 3 ["thing","many"] bE) (e:aA P w K mg base "row_bends" 1 ["turns","row","way"] fM) (f:aA P w K mg base "side_row" 1 ["turns","ring","way"] cR) {d:Tok} (h:mg "DOWN"=some (.int (-1) d)) {a:Tok} (c:mg "LEAST_CORNERS"=some (.int (3) a)) {g:Tok} (i:mg "UP"=some (.int (1) g)):aA P w K mg base "is_ring_by" 4 ["turns","thing","many"] bO :=by specialize sc_is_ring_by
def fF:SM:=(aB (aN 2 (am bg (aa (ac 0) aj))) (aB (sIf (jf (cB (am bO (aa (ac 2) (aa (ac 1) (aa (ay bC (aa (ac 0) aj)) aj)))))) jI cU) (aT 2 (ac 2))))
def b8:Fn:=fnM [false,false] 3 fF
theorem sc_turns_with_ring:FnScope ["sheet","ring","turns"] ["sheet","ring"] (ai bU):=by ac_rfl
theorem jw (B:Bl mg) (D:Def K mg "turns_with_ring" bU) (b:aA P w K mg base "all_turns" 6 ["sheet"] bg) (a:aA P w K mg base "is_ring_by" 4 ["turns","thing","many"] bO):aA P w K mg base "turns_with_ring" 7 ["sheet","ring"] b8 :=by specialize sc_turns_with_ring
def bx:SM:=(qa 7 (ah ba (ac 9) (mC (.int 1))) (ah aC (ah aC (ac 4) (ig (aa (ac 8) (aa (ac 5) aj)))) (ac 9)))
def bX:SM:=(sIf (cB (ah eqX (ah aC (ac 0) (ig (aa (ac 8) (aa (ac 5) (aa (ac 6) aj))))) (ac 3))) (dw (aX cN (aa (mC (.int 2)) (aa (mC (.int (24))) aj))) (ao 9) bx) cU)
def bW:SM:=(aB (aN 7 (ah Di (iH (aa (mC (.int 0)) aj)) (ah ba (mC (.int (24))) (mC (.int 1))))) (aB (sIf (cB (ah eqX (ac 5) (ac 2))) (p9 nq 7 (mC (.int 2)) (mC (.int 1))) cU) (aB (dw (aX cN (aa (ac 2) (aa (ac 5) aj))) (ao 8) bX) (p9 nq 4 (ig (aa (ac 5) (aa (ac 6) aj))) (ac 7)))))
def bV:SM:=(dw (aX cN (aa (ah ba (ac 5) (mC (.int 1))) (aa (ac 1) aj))) (ao 6) bW)
def iT:SM:=(aB (aN 4 sK) (aB (dw (aX cN (aa (ac 2) (aa (ac 1) aj))) (ao 5) bV) (aT 4 (ac 4))))
def cf:Fn:=fnM [false,false,false,false] 10 iT
theorem sc_tallies_from:FnScope ["turns","many","first","way","tallies","i","j","tally","h","places"] ["turns","many","first","way"] (ai cV):=by ac_rfl
theorem kW (B:Bl mg) (D:Def K mg "tallies_from" cV) {a:Tok} (b:mg "MOST_POINTS"=some (.int (24) a)):aA P w K mg base "tallies_from" 1 ["turns","many","first","way"] cf :=by specialize sc_tallies_from
def bJ:EM:=(ah aC (ah aC (ac 2) (ig (aa (ac 0) (aa (ac 3) aj)))) (ac 1))
def eP:EM:=(a7 (aX cN (aa (ac 2) (aa (ac 3) aj))) (ao 0) b9 bJ [none,some 0,some 1,some 3])
def bI:EM:=(ay zZ (aa eP aj))
def eO:EM:=(a7 (aX dA (aa (ah ba (mC (.int (24))) (mC (.int 1))) aj)) (ao 0) b9 bI [none,some 0,some 1,some 2])
def lD:SM:=(aT 3 eO)
def bQ:Fn:=fnM [false,false,false] 3 lD
theorem sc_tally_between:FnScope ["tallies","first","last"] ["tallies","first","last"] (ai cC):=by ac_rfl
theorem ku (B:Bl mg) (D:Def K mg "tally_between" cC) {a:Tok} (b:mg "MOST_POINTS"=some (.int (24) a)):aA P w K mg base "tally_between" 1 ["tallies","first","last"] bQ :=by specialize sc_tally_between
def cI:EM:=(ah dD (ah aC (ac 1) (ac 0)) (ah aC (ac 2) (ah cy (ah ba (ac 3) (mC (.int 2))) (ac 0))))
def iz:EM:=(a7 (aX cN (aa (mC (.int 2)) (aa (ah ba (ac 1) (mC (.int 1))) aj))) (ao 0) b9 cI [none,some 8,some 9,some 1])
def dW:SM:=(aB (aN 8 (am bQ (aa (ac 5) (aa (ac 4) (aa (ac 7) aj))))) (aB (aN 9 (am bQ (aa (ac 6) (aa (ac 4) (aa (ac 7) aj))))) (aN 3 (ah zx (ac 3) (ay zZ (aa iz aj))))))
def cJ:SM:=(aB (aN 5 (am cf (aa (ac 2) (aa (ay bC (aa (ac 0) aj)) (aa (ac 4) (aa (mC (.int (1))) aj)))))) (aB (aN 6 (am cf (aa (ac 2) (aa (ay bC (aa (ac 0) aj)) (aa (ac 4) (aa (mC (.int (-1))) aj)))))) (dw (aX cN (aa (ah ba (ac 4) (mC (.int 1))) (aa (ay bC (aa (ac 0) aj)) aj))) (ao 7) dW)))
def j8:SM:=(aB (dZ (am aI (aa (ac 0) aj))) (aB (dZ (am bH (aa (ac 1) (aa (mC (.int (3))) (aa (mC (.int (24))) aj))))) (aB (aN 2 (am bg (aa (ac 0) aj))) (aB (aN 3 (mC (.int 0))) (aB (dw (aX dA (aa (ay bC (aa (ac 0) aj)) aj)) (ao 4) cJ) (aT 2 (ac 3)))))))
def eG:Fn:=fnM [false,false] 10 j8
theorem sc_rings_many:FnScope ["sheet","many","turns","found","first","cups","caps","last","low","high"] ["sheet","many"] (ai d7):=by ac_rfl
theorem m5 (B:Bl mg) (D:Def K mg "rings_many" d7) (j:aA P w K mg base "all_turns" 6 ["sheet"] bg) (f:aA P w K mg base "check_number" 2 ["thing","least","most"] bH) (i:aA P w K mg base "check_sheet" 5 ["thing"] aI) (e:aA P w K mg base "tallies_from" 1 ["turns","many","first","way"] cf) (c:aA P w K mg base "tally_between" 1 ["tallies","first","last"] bQ) {g:Tok} (l:mg "DOWN"=some (.int (-1) g)) {a:Tok} (d:mg "LEAST_CORNERS"=some (.int (3) a)) {b:Tok} (h:mg "MOST_POINTS"=some (.int (24) b)) {k:Tok} (m:mg "UP"=some (.int (1) k)):aA P w K mg base "rings_many" 7 ["sheet","many"] eG :=by specialize sc_rings_many
def c9:M3 Bool:=(cB (ff ltI ltI (ah aC (ac 4) (ac 0)) (ac 3) (ah aC (ac 4) (ah ba (ac 0) (mC (.int 1))))))
def c8:EM:=(ah eqX (ah aC (ac 2) (ig (aa (ah aC (ac 4) (ac 0)) (aa (ac 3) (aa (ah aC (ac 4) (ah ba (ac 0) (mC (.int 1)))) aj))))) (ac 1))
def fI:EM:=(a7 (aX dA (aa (ah cy (ay bC (aa (ac 1) aj)) (mC (.int 1))) aj)) (ao 0) c9 c8 [none,some 3,some 0,some 2,some 1])
def mK:SM:=(aT 4 (ay pJ (aa fI aj)))
def bo:Fn:=fnM [false,false,false,false] 4 mK
theorem sc_fits_between:FnScope ["turns","row","place","way"] ["turns","row","place","way"] (ai cX):=by ac_rfl
theorem kY (B:Bl mg) (D:Def K mg "fits_between" cX):aA P w K mg base "fits_between" 1 ["turns","row","place","way"] bo :=by specialize sc_fits_between
def eZ:M3 Bool:=(cB (ah A8 (ac 0) (ac 1)))
def eW:EM:=(ac 0)
def eT:EM:=(a7 (aX cN (aa (ah ba (ah aC (ac 1) (mC (.int 0))) (mC (.int 1))) (aa (ah aC (ac 1) (mUn qB (mC (.int 1)))) aj))) (ao 0) eZ eW [none,some 1])
def eY:M3 Bool:=(cB (am bo (aa (ac 1) (aa (ac 2) (aa (ac 0) (aa (mC (.int (-1))) aj))))))
def eV:EM:=(ac 0)
def eS:EM:=(a7 (cA (ac 4)) (ao 0) eY eV [none,some 0,some 2])
def eX:M3 Bool:=(cB (am bo (aa (ac 1) (aa (ac 2) (aa (ac 0) (aa (mC (.int (1))) aj))))))
def eU:EM:=(ac 0)
def eR:EM:=(a7 (cA (ac 5)) (ao 0) eX eU [none,some 0,some 3])
def iA:SM:=(aB (aN 2 (am cR (aa (ac 0) (aa (ac 1) (aa (mC (.int (1))) aj))))) (aB (aN 3 (am cR (aa (ac 0) (aa (ac 1) (aa (mC (.int (-1))) aj))))) (aB (aN 4 eT) (aB (aN 5 eS) (aT 2 eR)))))
def bt:Fn:=fnM [false,false] 6 iA
theorem sc_places_within:FnScope ["turns","ring","low","high","others","above"] ["turns","ring"] (ai cD):=by ac_rfl
theorem ky (B:Bl mg) (D:Def K mg "places_within" cD) (a:aA P w K mg base "fits_between" 1 ["turns","row","place","way"] bo) (c:aA P w K mg base "side_row" 1 ["turns","ring","way"] cR) {b:Tok} (e:mg "DOWN"=some (.int (-1) b)) {d:Tok} (f:mg "UP"=some (.int (1) d)):aA P w K mg base "places_within" 2 ["turns","ring"] bt :=by specialize sc_places_within
def qI:SM:=(aT 2 (am bt (aa (am b8 (aa (ac 0) (aa (ac 1) aj))) (aa (ac 1) aj))))
def jg:Fn:=fnM [false,false] 2 qI
theorem sc_within:FnScope ["sheet","ring"] ["sheet","ring"] (ai jV):=by ac_rfl
theorem sV (B:Bl mg) (D:Def K mg "within" jV) (b:aA P w K mg base "places_within" 2 ["turns","ring"] bt) (a:aA P w K mg base "turns_with_ring" 7 ["sheet","ring"] b8):aA P w K mg base "within" 8 ["sheet","ring"] jg :=by specialize sc_within
def fQ:SM:=(aT 3 (ke (am bO (aa (ac 0) (aa (ac 1) (aa (ac 2) aj)))) (ah eqX (am bt (aa (ac 0) (aa (ac 1) aj))) (iH aj))))
def bR:Fn:=fnM [false,false,false] 3 fQ
theorem sc_is_empty_by:FnScope ["turns","thing","many"] ["turns","thing","many"] (ai dI):=by ac_rfl
theorem lK (B:Bl mg) (D:Def K mg "is_empty_by" dI) (b:aA P w K mg base "is_ring_by" 4 ["turns","thing","many"] bO) (a:aA P w K mg base "places_within" 2 ["turns","ring"] bt):aA P w K mg base "is_empty_by" 5 ["turns","thing","many"] bR :=by specialize sc_is_empty_by
def iC:SM:=(aT 2 (am bR (aa (am bg (aa (ac 1) aj)) (aa (ac 0) (aa (ay bC (aa (ac 1) aj)) aj)))))
def aW:Fn:=fnM [false,false] 2 iC
theorem sc_is_empty_ring:FnScope ["thing","sheet"] ["thing","sheet"] (ai cF):=by ac_rfl
theorem kz (B:Bl mg) (D:Def K mg "is_empty_ring" cF) (b:aA P w K mg base "all_turns" 6 ["sheet"] bg) (a:aA P w K mg base "is_empty_by" 5 ["turns","thing","many"] bR):aA P w K mg base "is_empty_ring" 7 ["thing","sheet"] aW :=by specialize sc_is_empty_ring
def cj:EM:=(ah ba (ac 0) (ig (aa (ac 1) aj)))
def gh:EM:=(a7 (cA (ac 2)) (ao 0) b9 cj [none,some 3])
def cr:SM:=(aN 2 (ah ba (ac 2) gh))
def cq:M3 Bool:=(cB (am bR (aa (ac 1) (aa (ac 0) (aa (ay bC (aa (ac 2) aj)) aj)))))
def dE:EM:=(ac 0)
def gg:EM:=(a7 (cA (ac 2)) (ao 0) cq dE [none,some 1,some 0])
def jA:SM:=(aB (aN 1 (am bg (aa (ac 0) aj))) (aB (aN 2 (iH (aa (ig aj) aj))) (aB (dw (aX dA (aa (ay bC (aa (ac 0) aj)) aj)) (ao 3) cr) (aT 1 gg))))
def bT:Fn:=fnM [false] 4 jA
theorem sc_empty_rings:FnScope ["sheet","turns","rows","place"] ["sheet"] (ai dJ):=by ac_rfl
theorem lL (B:Bl mg) (D:Def K mg "empty_rings" dJ) (b:aA P w K mg base "all_turns" 6 ["sheet"] bg) (a:aA P w K mg base "is_empty_by" 5 ["turns","thing","many"] bR):aA P w K mg base "empty_rings" 7 ["sheet"] bT :=by specialize sc_empty_rings
def bY:M3 Bool:=(cB (ah eqX (ay bC (aa (ac 0) aj)) (ac 1)))
def de:EM:=(ac 0)
def fJ:EM:=(a7 (cA (am bT (aa (ac 0) aj))) (ao 0) bY de [none,some 1])
def iX:SM:=(aB (dZ (am aI (aa (ac 0) aj))) (aB (dZ (am bH (aa (ac 1) (aa (mC (.int (3))) (aa (mC (.int (24))) aj))))) (aB (dZ (am cT (aa (ay bC (aa (ac 0) aj)) (aa (mC (.int (10))) aj)))) (aT 2 (ay bC (aa fJ aj))))))
def aZ:Fn:=fnM [false,false] 2 iX
theorem sc_empties_many:FnScope ["sheet","many"] ["sheet","many"] (ai cY):=by ac_rfl
theorem kZ (B:Bl mg) (D:Def K mg "empties_many" cY) (j:aA P w K mg base "check_few" 1 ["many","most"] cT) (f:aA P w K mg base "check_number" 2 ["thing","least","most"] bH) (i:aA P w K mg base "check_sheet" 5 ["thing"] aI) (h:aA P w K mg base "empty_rings" 7 ["sheet"] bT) {b:Tok} (e:mg "LEAST_CORNERS"=some (.int (3) b)) {a:Tok} (d:mg "MOST_FOR_EMPTIES"=some (.int (10) a)) {c:Tok} (g:mg "MOST_POINTS"=some (.int (24) c)):aA P w K mg base "empties_many" 8 ["sheet","many"] aZ :=by specialize sc_empties_many
def gf:SM:=(aB (dZ (am aI (aa (ac 0) aj))) (aB (dZ (am cT (aa (ay bC (aa (ac 0) aj)) (aa (mC (.int (10))) aj)))) (aT 1 (ah qF (am bT (aa (ac 0) aj)) (mC .non)))))
def bh:Fn:=fnM [false] 1 gf
theorem sc_greatest_empty:FnScope ["sheet"] ["sheet"] (ai cg):=by ac_rfl
theorem jO (B:Bl mg) (D:Def K mg "greatest_empty" cg) (e:aA P w K mg base "check_few" 1 ["many","most"] cT) (d:aA P w K mg base "check_sheet" 5 ["thing"] aI) (c:aA P w K mg base "empty_rings" 7 ["sheet"] bT) {a:Tok} (b:mg "MOST_FOR_EMPTIES"=some (.int (10) a)):aA P w K mg base "greatest_empty" 8 ["sheet"] bh :=by specialize sc_greatest_empty
def yl:SM:=(aB (sIf (cB (ah ltI (ac 1) (ay bC (aa (ac 0) aj)))) (aT 2 (ah aC (ac 0) (ac 1))) cU) (aT 2 (mC (.int 0))))
def kC:Fn:=fnM [false,false] 2 yl
theorem sc_l_cell:FnScope ["_law_script","_law_k"] ["_law_script","_law_k"] (ai jZ):=by ac_rfl
theorem sZ (B:Bl mg) (D:Def K mg "_law_cell" jZ):aA P w K mg base "_law_cell" 1 ["_law_script","_law_k"] kC :=by specialize sc_l_cell
def Bg:SM:=(aB (aN 2 (iH (aa (mC (.int 48271)) (aa (mC (.int 69621)) (aa (mC (.int 16807)) (aa (mC (.int 39373)) (aa (mC (.int 30269)) (aa (mC (.int 40014)) (aa (mC (.int 40692)) (aa (mC (.int 50021)) (aa (mC (.int 61687)) (aa (mC (.int 71993)) (aa (mC (.int 83869)) (aa (mC (.int 95561)) (aa (mC (.int 30307)) aj))))))))))))))) (aB (aN 3 (ah ba (ah ba (ah dD (ah ba (ah o1 (ac 0) (mC (.int 2147483647))) (mC (.int 12345))) (ah aC (ac 2) (ah o1 (ac 1) (mC (.int 13))))) (ah dD (mC (.int 977)) (ac 1))) (ah dD (mC (.int 7919)) (ah nz (ac 1) (mC (.int 13)))))) (aB (aN 3 (ah o1 (ac 3) (mC (.int 1000000007)))) (aT 2 (ah nz (ah o1 (ah ba (ah dD (ac 3) (ac 3)) (ah dD (mC (.int 48271)) (ac 1))) (mC (.int 1000000007))) (mC (.int 7)))))))
def lZ:Fn:=fnM [false,false] 4 Bg
theorem sc_l_mix:FnScope ["_law_cell_here","_law_k","_law_some","_law_stir"] ["_law_cell_here","_law_k"] (ai lO):=by ac_rfl
theorem wr (B:Bl mg) (D:Def K mg "_law_mix" lO):aA P w K mg base "_law_mix" 1 ["_law_cell_here","_law_k"] lZ :=by specialize sc_l_mix
def jM:SM:=(aN 3 (ah ba (ah dD (ac 3) (mC (.int 142857143))) (am lZ (aa (ac 2) (aa (ac 4) aj)))))
def Bh:SM:=(aB (aN 2 (am kC (aa (ac 0) (aa (ac 1) aj)))) (aB (sIf (cB (ah eqX (ah o1 (ac 2) (mC (.int 2))) (mC (.int 0)))) (aT 2 (iH (aa (ah nz (ay absD (aa (ac 2) aj)) (mC (.int 2))) aj))) cU) (aB (aN 3 (mC (.int 0))) (aB (dw (aX dA (aa (mC (.int 40)) aj)) (ao 4) jM) (aT 2 (iH (aa (ac 3) aj)))))))
def l0:Fn:=fnM [false,false] 5 Bh
theorem sc_l_box:FnScope ["_law_script","_law_k","_law_cell_here","_law_number","_law_j"] ["_law_script","_law_k"] (ai lP):=by ac_rfl
theorem wu (B:Bl mg) (D:Def K mg "_law_box" lP) (a:aA P w K mg base "_law_cell" 1 ["_law_script","_law_k"] kC) (b:aA P w K mg base "_law_mix" 1 ["_law_cell_here","_law_k"] lZ):aA P w K mg base "_law_box" 2 ["_law_script","_law_k"] l0 :=by specialize sc_l_box
def yi:SM:=(aB (vg (rH 2 (fK (ao 2) (fK (ao 3) rJ))) (ay y9 (aa (ah aC (ac 0) (mC (.int 0))) (aa (ac 1) aj)))) (aB (p9 nq 0 (mC (.int 0)) (ac 2)) (aT 2 (ac 3))))
def bB:Fn:=fnM [false,false] 4 yi
theorem sc_l_take:FnScope ["_law_box_here","_law_many","_law_left","_law_digit"] ["_law_box_here","_law_many"] (ai jX):=by ac_rfl
theorem sX (B:Bl mg) (D:Def K mg "_law_take" jX):aA P w K mg base "_law_take" 1 ["_law_box_here","_law_many"] bB :=by specialize sc_l_take
def ym:SM:=(aB (vg (rH 2 (fK (ao 3) (fK (ao 4) rJ))) (ac 0)) (aB (aN 5 (ah dD (ah cy (ah aC (ac 1) (mC (.int 0))) (ac 3)) (ah cy (ah aC (ac 2) (mC (.int 1))) (ac 4)))) (aT 3 (ah cy (ac 5) (ah dD (ah cy (ah aC (ac 1) (mC (.int 1))) (ac 4)) (ah cy (ah aC (ac 2) (mC (.int 0))) (ac 3)))))))
def jh:Fn:=fnM [false,false,false] 6 ym
theorem sc_l_bend:FnScope ["_law_one","_law_two","_law_three","_law_x","_law_y","_law_wide"] ["_law_one","_law_two","_law_three"] (ai j0):=by ac_rfl
theorem s9 (B:Bl mg) (D:Def K mg "_law_bend" j0):aA P w K mg base "_law_bend" 1 ["_law_one","_law_two","_law_three"] jh :=by specialize sc_l_bend
def dQ:SM:=(sIf (cB (ah eqX (am jh (aa (ac 4) (aa (ac 3) (aa (ac 1) aj)))) (mC (.int 0)))) (aT 2 (mC (.bl false))) cU)
def li:SM:=(dw (cA (mSl slD (ac 0) qr (jy (ac 2)))) (ao 4) dQ)
def yj:SM:=(aB (dw (sO (aa (ac 0) aj)) (rH 2 (fK (ao 2) (fK (ao 3) rJ))) li) (aT 2 (mC (.bl true))))
def kB:Fn:=fnM [false,false] 5 yj
theorem sc_l_free:FnScope ["_law_found","_law_point","_law_at","_law_one","_law_two"] ["_law_found","_law_point"] (ai jY):=by ac_rfl
theorem sY (B:Bl mg) (D:Def K mg "_law_free" jY) (a:aA P w K mg base "_law_bend" 1 ["_law_one","_law_two","_law_three"] jh):aA P w K mg base "_law_free" 2 ["_law_found","_law_point"] kB :=by specialize sc_l_free
def c5:M3 Bool:=(jf (cB (am kB (aa (ac 5) (aa (ig (aa (ac 4) (aa (ac 9) aj))) aj)))))
def eA:SM:=(aN 9 (ah ba (ac 9) (mC (.int 1))))
def c6:SM:=(aB (aN 4 (ah ba (ah ba (ac 4) (mC (.int 1))) (am bB (aa (ac 0) (aa (mC (.int 3)) aj))))) (aB (aN 7 (ah cy (am bB (aa (ac 0) (aa (mC (.int 31)) aj))) (mC (.int 15)))) (aB (aN 8 (iH (aa (ac 7) (aa (ac 7) (aa (ah ba (ah dD (ac 6) (ac 6)) (ah nz (ac 7) (mC (.int 9)))) (aa (ah cy (ah nz (ac 7) (mC (.int 9))) (ah dD (ac 6) (ac 6))) aj)))))) (aB (aN 8 (ah ba (ac 8) (iH (aa (ah dD (ah ba (ah dD (ac 6) (ac 6)) (mC (.int 30))) (ah cy (mC (.int 1)) (ah dD (mC (.int 2)) (ah o1 (ac 6) (mC (.int 2)))))) (aa (ah dD (ac 7) (mC (.int 1000))) aj))))) (aB (aN 9 (ah aC (ac 8) (ac 3))) (aB (iN c5 eA) (dZ (vK isL BN 5 (aa (ig (aa (ac 4) (aa (ac 9) aj))) aj)))))))))
def gJ:EM:=(ig (aa (ah ba (ah dD (ah xL (mC (.int 10)) (mC (.int 12))) (ac 0)) (mC (.int 7))) (aa (ah dD (ah xL (mC (.int 10)) (mC (.int 9))) (ac 1)) aj)))
def eh:EM:=(a7 (cA (ac 5)) (rH 2 (fK (ao 0) (fK (ao 1) rJ))) b9 gJ [none,none])
def og:SM:=(aB (aN 2 (ah ba (mC (.int 1)) (am bB (aa (ac 0) (aa (ac 1) aj))))) (aB (aN 3 (am bB (aa (ac 0) (aa (mC (.int 6)) aj)))) (aB (aN 4 (ah cy (am bB (aa (ac 0) (aa (mC (.int 9)) aj))) (mC (.int 4)))) (aB (aN 5 (iH aj)) (aB (dw (aX dA (aa (ac 2) aj)) (ao 6) c6) (aB (sIf (cB (ah eqX (am bB (aa (ac 0) (aa (mC (.int 6)) aj))) (mC (.int 5)))) (aN 5 eh) cU) (aT 2 (ay l6 (aa (ac 5) aj)))))))))
def gl:Fn:=fnM [false,false] 10 og
theorem sc_l_sheet:FnScope ["_law_box_here","_law_most","_law_many","_law_kind","_law_x","_law_found","_law_k","_law_given","_law_some","_law_y"] ["_law_box_here","_law_most"] (ai jl):=by ac_rfl
theorem rC (B:Bl mg) (D:Def K mg "_law_sheet" jl) (b:aA P w K mg base "_law_free" 2 ["_law_found","_law_point"] kB) (a:aA P w K mg base "_law_take" 1 ["_law_box_here","_law_many"] bB):aA P w K mg base "_law_sheet" 3 ["_law_box_here","_law_most"] gl :=by specialize sc_l_sheet
def eD:M3 Bool:=(cB (ah gtI (am bB (aa (ac 1) (aa (mC (.int 3)) aj))) (mC (.int 0))))
def ie:EM:=(ac 0)
def ib:EM:=(a7 (cA (ac 2)) (ao 0) eD ie [none,some 0])
def eC:M3 Bool:=(cB (ah A8 (ac 0) (ac 1)))
def ic:EM:=(ac 0)
def hJ:EM:=(a7 (aX dA (aa (ay bC (aa (ac 1) aj)) aj)) (ao 0) eC ic [none,some 2])
def eB:EM:=(ah cy (ac 0) (ay yF (aa (ah gtI (ac 0) (ac 1)) aj)))
def kb:EM:=(a7 (cA (ac 2)) (ao 0) b9 eB [none,some 5])
def vJ:SM:=(aB (sIf (cOr (cB (ah vR (am aW (aa (ac 2) (aa (ac 1) aj))) (mC (.bl true)))) (cB (ah neX (am jg (aa (ac 1) (aa (ac 2) aj))) (iH aj)))) (aT 3 (mC (.bl false))) cU) (aB (aN 3 (ay l6 (aa ib aj))) (aB (sIf (jx (cB (ah gtI (ay bC (aa (ac 3) aj)) (mC (.int 2)))) (cB (ah vR (am aW (aa (ac 3) (aa (ac 1) aj))) (mC (.bl true))))) (aT 3 (mC (.bl false))) cU) (aB (aN 4 hJ) (aB (sIf (cB (ah eqX (ac 4) (iH aj))) (aT 3 (mC (.bl true))) cU) (aB (aN 5 (ah aC (ac 4) (am bB (aa (ac 0) (aa (ay bC (aa (ac 4) aj)) aj))))) (aT 3 (am aW (aa (ay l6 (aa kb aj)) (aa (am jr (aa (ac 1) (aa (ac 5) aj))) aj))))))))))
def gp:Fn:=fnM [false,false,false] 6 vJ
theorem sc_l_right:FnScope ["_law_box_here","_law_sheet_here","_law_ring","_law_part","_law_others","_law_gone"] ["_law_box_here","_law_sheet_here","_law_ring"] (ai jm):=by ac_rfl
theorem rD (B:Bl mg) (D:Def K mg "_law_right" jm) (b:aA P w K mg base "_law_take" 1 ["_law_box_here","_law_many"] bB) (a:aA P w K mg base "is_empty_ring" 7 ["thing","sheet"] aW) (d:aA P w K mg base "within" 8 ["sheet","ring"] jg) (c:aA P w K mg base "without" 6 ["sheet","place"] jr):aA P w K mg base "_law_right" 9 ["_law_box_here","_law_sheet_here","_law_ring"] gp :=by specialize sc_l_right
def iV:SM:=(aB (aN 8 (am aZ (aa (ac 3) (aa (ac 6) aj)))) (aB (sIf (cB (ah gtI (ac 8) (am eG (aa (ac 3) (aa (ac 6) aj))))) (aT 1 (mC (.bl false))) cU) (aN 5 (ah ba (ac 5) (ah dD (ac 8) (ah aC (iH (aa (mC (.int 1)) (aa (mUn qB (mC (.int 1))) aj))) (ah o1 (ah cy (ac 6) (mC (.int 3))) (mC (.int 2)))))))))
def j9:SM:=(aB (aN 2 (am l0 (aa (ac 0) (aa (ac 1) aj)))) (aB (aN 3 (am gl (aa (ac 2) (aa (mC (.int 7)) aj)))) (aB (aN 4 (ay bC (aa (ac 3) aj))) (aB (aN 5 (mC (.int 0))) (aB (dw (aX cN (aa (mC (.int 3)) (aa (mC (.int 9)) aj))) (ao 6) iV) (aB (sIf (cOr (jx (cB (ah gtI (ac 4) (mC (.int 2)))) (cB (ah neX (ac 5) (ah nz (ah dD (ah cy (ac 4) (mC (.int 1))) (ah cy (ac 4) (mC (.int 2)))) (mC (.int 2)))))) (jx (cB (ah gtI (ac 4) (mC (.int 4)))) (cB (ah ltI (am aZ (aa (ac 3) (aa (mC (.int 4)) aj))) (mC (.int 1)))))) (aT 1 (mC (.bl false))) cU) (aB (aN 7 (am bh (aa (ac 3) aj))) (sIf (cOr (cB (ah neX (ah isN (ac 7) (mC .non)) (ah ltI (ac 4) (mC (.int 3))))) (jx (cB (ah vA (ac 7) (mC .non))) (jf (cB (am gp (aa (ac 2) (aa (ac 3) (aa (ac 7) aj)))))))) (aT 1 (mC (.bl false))) cU))))))))
def m_law:SM:=(aB (dw (aX dA (aa (ay Cg (aa (mC (.int 1)) (aa (ay Ce (aa (ay bC (aa (ac 0) aj)) (aa (mC (.int 2)) aj))) aj))) aj)) (ao 1) j9) (aT 1 (mC (.bl true))))
def Cr:Fn:=fnM [false] 9 m_law
theorem sc_law:FnScope ["_law_script","_law_k","_law_box_here","_law_sheet_here","_law_many","_law_total","_law_size","_law_ring","_law_here"] ["_law_script"] (ai iM):=by ac_rfl
theorem Bv {f:Addr} {fd:FuncData} (B:Bl mg) (D:Fun K "law" "law" iM f fd) (g:aA P w K mg base "_law_box" 2 ["_law_script","_law_k"] l0) (c:aA P w K mg base "_law_right" 9 ["_law_box_here","_law_sheet_here","_law_ring"] gp) (e:aA P w K mg base "_law_sheet" 3 ["_law_box_here","_law_most"] gl) (b:aA P w K mg base "empties_many" 8 ["sheet","many"] aZ) (a:aA P w K mg base "greatest_empty" 8 ["sheet"] bh) (d:aA P w K mg base "rings_many" 7 ["sheet","many"] eG):FnOk P w K mg base CX0 10 f fd ["_law_script"] (vd K Cr) :=
 ED (k:=9) D sc_law rfl rfl λcdv A outer s H E f G hr hp =>
  have nd:=sc_law.nd;by and_intros
end
theorem kH (i:Int):bN [(.int i,.z)]=some (.ok (.bl true,.z),[(.int i,.z)]):=by
 apply aK (Z:=[#v[.int i]]) rfl rfl
 .nofun
 .rfl
theorem vm (p:Pt):iy [(Pd p,.z)]=some (.ok (.bl true,.z),[(Pd p,.z)]):=by
 apply aK (Z:=[#v[Pd p]]) rfl rfl
 .nomatch [(kH _)]
 .rfl
theorem lV {f c:L3.D->L3.D->Option (L3.D×Fl)} {ma mb mc:EM} {ra rb rc:R3} {Z Z1 Z2 Z3:Sto} {da db b e d:L3.D} {fl a:Fl} (h1:ma Z=some (.ok ra,Z1)) (h2:mb Z1=some (.ok rb,Z2)) (h3:der ra Z2=some (.ok da,Z2)) (i:der rb Z2=some (.ok db,Z2)) (g:f da db=some (.bl true,fl)) (j:mc Z2=some (.ok rc,Z3)) (h7:der rb Z3=some (.ok b,Z3)) (k:der rc Z3=some (.ok e,Z3)) (h:c b e=some (d,a)):ff f c ma mb mc Z=some (.ok (.val d a),Z3):=by
 simp only[ff,ag,h1,h2,h3,i,g,bm,Option.bind_some,asB,FH,if_true,j,h7,k,h]
set_option tactic.hygienic true in
theorem xm (ps:List Pt) (h0:0 < ps.length) (h1:ps.length<=24):eI [(Shd ps,.z)]=some (.ok (.bl true,.z),[(Shd ps,.z)]):=by
 obtain ⟨Y',e,a,rfl⟩:=jc (bnd:=ao 0) (c:=b9) (elt:=dX) (λY=>∃ a,Y=[a]) (λ_=>true) (λ_=>.bl true) (ds:=ps.map Pd) (Y:=[none]) #[none,rfl] (by
  rintro d hd Y ⟨a,rfl⟩
  obtain ⟨p,j,rfl⟩:=Fo.mp hd
  exact #[[#v[Pd p]],_,rfl,rfl,(λh=>by cases h),λ_=>#[.val (.bl true) .z,[#v[Pd p]],(.bl true,.z),[#v[Pd p]],by unfold dX;(nomatch [(vm _)]),rfl,rfl,_,rfl]])
 have i:=oE (ds:=((ps.map Pd).filter λ_=>true).map λ_=>.bl true) (λd hd=>by obtain ⟨_,_,rfl⟩:=Fo.mp hd;rfl)
 generalize ((ps.map Pd).filter λ_=>true).map (λ_=>L3.D.bl true)=out at *
 have b:iD [#v[Shd ps]]=some (.ok (.val (.lst out) .u),[#v[Shd ps]]):=aH (im:=cA (ac 0)) (ix:=[none]) (Z1:=[#v[Shd ps]]) (Z2:=[#v[Shd ps]]) (ds:=ps.map Pd) (rs:=[.pl 0]) rfl e (by simp;lia) rfl
 have g:leI (.int 1) (.int ((ps.map Pd).length:Int))=#v[.bl true]:=by simp[dF];lia
 have f:leI (.int ((ps.map Pd).length:Int)) (.int 24)=#v[.bl true]:=by simp[dF];lia
 apply aK (Z:=[#v[Shd ps]]) rfl rfl
 .apply bF
  .apply lT
   .apply lV
    .exact i_c
    .nofun
    .rfl
    .rfl
    .exact g
    .exact i_c
    .rfl
    .rfl
    .exact f
   .rfl
   .rfl
   ·(repeat' (first | with_reducible exact b | infer_instance | exact i | eq_refl))
  .rfl
 .rfl
theorem eL {xs:List L3.D} {k:Int} {d:L3.D} (h:L2.atI xs k=some d):aC (.tup xs) (.int k)=#v[d]:=by
 show orD ixD qU (.tup xs) (.int k)=_
 simp[orD,ixD,h]
theorem jU {xs:List L3.D} {k:Int} {d:L3.D} (h:L2.atI xs k=some d):aC (.lst xs) (.int k)=#v[d]:=by
 show orD ixD qU (.lst xs) (.int k)=_
 simp[orD,ixD,h]
set_option tactic.hygienic true in
theorem xb (ps:List Pt) (h0:0 < ps.length) (h1:ps.length<=24) (R:Rising ps):du [(Shd ps,.z)]=some (.ok (.bl true,.z),[(Shd ps,.z)]):=by
 obtain ⟨Y',e,a,rfl⟩:=jc (bnd:=ao 0) (c:=b9) (elt:=c7) (λY=>∃ a,Y=[a,#v[Shd ps]]) (λ_=>true) (λ_=>.bl true) (ds:=aJ 0 (ps.length - 1)) (Y:=[none,#v[Shd ps]]) #[none,rfl] (by
  rintro d hd Y ⟨a,rfl⟩
  obtain ⟨i,hi⟩:=List.getElem?_of_mem hd
  obtain ⟨hi,rfl⟩:=bv hi
  have f:ps[i]?=some ps[i]:=Fd _
  have g:ps[i+1]?=some ps[i+1]:=Fd _
  have b:=R i (i+1) _ _ (by lia) f g
  have a1:aC (Shd ps) (.int (0+(i:Int)))=#v[Pd ps[i]]:=eL (by rw[Int.zero_add];exact ww f)
  have a2:aC (Shd ps) (.int (0+(i:Int)+1))=#v[Pd ps[i+1]]:=eL (by rw[Int.zero_add];exact ww g)
  have hl:ltI (.int ps[i].1) (.int ps[i+1].1)=#v[.bl true]:=by simp[dF,b]
  generalize (0+(i:Int))=j at *
  refine #[[#v[.int j],#v[Shd ps]],_,rfl,rfl,(λh=>by cases h),λ_=>#[.val (.bl true) .z,[#v[.int j],#v[Shd ps]],(.bl true,.z),[#v[.int j],#v[Shd ps]],?_,rfl,rfl,_,rfl]]
  unfold c7
  (exists a1,a2,hl))
 have n:((ps.length:Int) - 1).toNat=ps.length - 1:=by lia
 have m:dA [.int (((ps.map Pd).length:Int) - 1)]=some (aJ 0 (ps.length - 1)):=cH (by simp;lia) (by simp)
 have k:=oE (ds:=((aJ 0 (ps.length - 1)).filter λ_=>true).map λ_=>.bl true) (λd hd=>by obtain ⟨_,_,rfl⟩:=Fo.mp hd;rfl)
 generalize ((aJ 0 (ps.length - 1)).filter λ_=>true).map (λ_=>L3.D.bl true)=out at *
 have l:fG [#v[Shd ps]]=some (.ok (.val (.lst out) .u),[#v[Shd ps]]):=aH (Z1:=[#v[Shd ps]]) (rs:=[]) (by (repeat' (first | with_reducible apply bZ (h3:=m) | infer_instance | eq_refl))) e (by rw[aQ];lia) rfl
 apply aK (Z:=[#v[Shd ps]]) rfl rfl
 .unfold iW;(repeat' (first | with_reducible exact l | infer_instance | exact k | eq_refl))
 .rfl
theorem nP (p q r:Int×Int) (h1:-18446744073709551616 < q.1 - p.1/\q.1 - p.1 < 18446744073709551616) (h2:-18446744073709551616 < q.2 - p.2/\q.2 - p.2 < 18446744073709551616):k8 [(Pd p,.z),(Pd q,.z),(Pd r,.z)]=some (.ok (.int (aU p q r),.z),[(Pd p,.z),(Pd q,.z),(Pd r,.z)]):=by
 apply aK (Z:=[#v[Pd p],#v[Pd q],#v[Pd r],none]) rfl rfl
 .apply ak
  .exists fE h1
  .exists fE h2
 .rfl
set_option tactic.hygienic true in
theorem wN {n i j:Nat} (xs:List L3.D) (hn:n<=25) (k:j < n) (elt:EM) (he:∀ (a b c:L3.D),elt [#v[c],#v[a],#v[b]]=some (.ok (.val (.tup [a,b,c]) .z),[#v[c],#v[a],#v[b]])) :
  a7 (aX cN (aa (ah ba (ac 3) (mC (.int 1))) (aa (ac 0) aj))) (ao 0) b9 elt [none,some 2,some 3] [#v[.int n],some (.lst xs,.u),#v[.int i],#v[.int j]]=some (.ok (.val (.lst ((nt i j (n - (j+1))).map Td)) .u),[#v[.int n],some (.lst xs,.u),#v[.int i],#v[.int j]]):=by
 obtain ⟨Y',e,a,rfl⟩:=jc (bnd:=ao 0) (c:=b9) (elt:=elt) (λY=>∃ a,Y=[a,#v[.int i],#v[.int j]]) (λ_=>true) (λd=>.tup [.int i,.int j,d]) (ds:=aJ ((j:Int)+1) (n - (j+1))) (Y:=[none,#v[.int i],#v[.int j]]) #[none,rfl] (by
  rintro d hd Y ⟨a,rfl⟩
  exact #[[#v[d],#v[.int i],#v[.int j]],_,rfl,rfl,(λh=>by cases h),λ_=>#[_,_,(.tup [.int i,.int j,d],.z),_,he _ _ _,rfl,rfl,_,rfl]])
 have f:((aJ ((j:Int)+1) (n - (j+1))).filter λ_=>true).map (λd=>L3.D.tup [.int i,.int j,d])=(nt i j (n - (j+1))).map Td:=by
  rw[FU.mpr (λ_ _=>rfl)]
  simp[aJ,nt,Function.comp_def]
 rw[f] at e
 have g:cN [.int ((j:Int)+1),.int n]=some (aJ ((j:Int)+1) (n - (j+1))):=c0 (by lia) (by lia) (by lia)
 exact aH (rs:=[]) (by (repeat' (first | with_reducible apply bZ (h3:=g) | infer_instance | eq_refl))) e (by rw[aQ];lia) rfl
theorem EF {A B:List L3.D} (h:A.length+B.length<=16777216):yV (.lst A) [.lst B]=some (.lst (A++B),.non):=by simp[yV,h]
theorem EY {A:List L3.D} {d:L3.D} (h:A.length < 16777216):BN (.lst A) [d]=some (.lst (A++[d]),.non):=by simp[BN,h]
theorem BJ {A B:List L3.D} (h:A.length+B.length<=16777216):ba (.lst A) (.lst B)=some (.lst (A++B),.u):=by simp[orD,dF,BI,BH,BK,h]
theorem lY {A B:List L3.D} (h:A.length+B.length<=16777216):ba (.tup A) (.tup B)=#v[.tup (A++B)]:=by simp[orD,dF,BI,BH,BK,h]
set_option tactic.hygienic true in
theorem u8 {n:Nat} (hn:n<=25) {b1 b2:SM} (h2:b2=dw (aX cN (aa (ah ba (ac 2) (mC (.int 1))) (aa (ac 0) aj))) (ao 3) b1)
  (h1:∀ (i j:Nat) (xs:List L3.D),j < n->xs.length<=20000->b1 [#v[.int n],some (.lst xs,.u),#v[.int i],#v[.int j]]=some (.ok .nx,[#v[.int n],some (.lst (xs++(nt i j (n - (j+1))).map Td),.u),#v[.int i],#v[.int j]])) :
  ∃ v2 v3,dw (aX dA (aa (ac 0) aj)) (ao 2) b2 [#v[.int n],some (.lst [],.u),none,none]=some (.ok .nx,[#v[.int n],some (.lst ((cx n).map Td),.u),v2,v3]):=by
 have qR:∀ (i:Nat) (xs:List Tri) (v3:Option (L3.D×Fl)),i < n->xs.length<=15625->∃ a,b2 [#v[.int n],some (.lst (xs.map Td),.u),#v[.int i],v3]=some (.ok .nx,[#v[.int n],some (.lst ((xs++kI n i (n - (i+1))).map Td),.u),#v[.int i],a]):=by
  intro i xs v3 hi h
  obtain ⟨Z',e,a,rfl⟩:=bb (bnd:=ao 3) (b:=b1) (λm Z=>∃ v3,Z=[#v[.int n],some (.lst ((xs++kI n i m).map Td),.u),#v[.int i],v3]) (ds:=aJ ((i:Int)+1) (n - (i+1))) (Z:=[#v[.int n],some (.lst (xs.map Td),.u),#v[.int i],v3]) (k:=0) #[v3,by simp[kI]] (by
   rintro m d Z hd ⟨v3,rfl⟩
   obtain ⟨hm,rfl⟩:=bv hd
   have g:((xs++kI n i m).map Td).length<=20000:=by
    have:=r9 (n:=n) (i:=i) (m:=m) hn (by lia)
    simp only[Fh,FD]
    lia
   have c:=h1 i (i+1+m) ((xs++kI n i m).map Td) (by lia) g
   rw[show ((i+1+m:Nat):Int)=(i:Int)+1+m by lia,<- List.map_append,List.append_assoc,<- nR] at c
   exact #[_,_,by rw[FA];rfl,.inl c,_,by rw[FA]])
  refine #[a,?_]
  rw[aQ,FA] at e
  have f:cN [.int ((i:Int)+1),.int n]=some (aJ ((i:Int)+1) (n - (i+1))):=c0 (by lia) (by lia) (by lia)
  rw[h2]
  apply dR
  ·(repeat' (first | with_reducible apply bZ (h3:=f) | infer_instance | eq_refl))
  .rfl
  .exact e
 obtain ⟨Z',e,v2,v3,rfl⟩:=bb (bnd:=ao 2) (b:=b2) (λm Z=>∃ v2 v3,Z=[#v[.int n],some (.lst ((oO n m).map Td),.u),v2,v3]) (ds:=aJ 0 n) (Z:=[#v[.int n],some (.lst [],.u),none,none]) (k:=0) #[none,none,rfl] (by
  rintro m d Z hd ⟨v2,v3,rfl⟩
  obtain ⟨hm,rfl⟩:=bv hd
  rw[FA,Int.zero_add]
  obtain ⟨a,e⟩:=qR m (oO n m) v3 hm (se hn (by lia))
  rw[<- nU] at e
  exact #[_,_,rfl,.inl e,_,_,rfl])
 rw[aQ,FA] at e
 have f:dA [.int (n:Int)]=some (aJ 0 n):=cH (by lia) (by lia)
 refine #[v2,v3,?_]
 apply dR
 ·(repeat' (first | with_reducible apply bZ (h3:=f) | infer_instance | eq_refl))
 .rfl
 .exact e
set_option tactic.hygienic true in
theorem mj (n:Nat) (hn:n<=25):gk [(.int n,.z)]=some (.ok (.lst ((cx n).map Td),.u),[(.int n,.z)]):=by
 obtain ⟨v2,v3,e⟩:=u8 (n:=n) hn (b1:=iS) (b2:=lh) rfl (by
  intro i j xs d f
  have c:=wN (n:=n) (i:=i) (j:=j) xs hn d iR (λa b c=>by unfold iR;(nofun))
  have hl:xs.length+((nt i j (n - (j+1))).map Td).length<=16777216:=by
   rw[Fh,qe];lia
  unfold iS lg
  (repeat' (first | with_reducible exact c | infer_instance | exact EF hl | eq_refl)))
 apply aK (Z:=[#v[.int n],none,none,none]) rfl rfl
 .apply ak
  .nofun
  .apply ak
   .exact e
   .nofun
 .rfl
set_option tactic.hygienic true in
theorem yS {S:List L3.D} {i j k:Int} {p q r:Pt} {v2:Option (L3.D×Fl)} (a1:aC (.tup S) (.int i)=#v[Pd p]) (a2:aC (.tup S) (.int j)=#v[Pd q]) (n:aC (.tup S) (.int k)=#v[Pd r]) (f:Small p) (e:Small q) (h0:aU p q r≠0):bK [#v[.tup S],#v[.tup [.int i,.int j,.int k]],v2]=some (.ok .nx,[#v[.tup S],#v[.tup [.int i,.int j,.int k]],#v[.tup [Pd p,Pd q,Pd r]]]):=by
 have b:=nP p q r (Small.sub f e).1 (Small.sub f e).2
 have one:∀ (x d:L3.D) (a:Option (L3.D×Fl)),aC (.tup S) x=#v[d]->cO [#v[x],#v[.tup S]]=some (.ok (.val d .z),[#v[x],#v[.tup S]]):=λx d a h=>by unfold cO;(exists h)
 have c:fc [#v[.tup S],#v[.tup [.int i,.int j,.int k]],v2]=some (.ok (.val (.lst [Pd p,Pd q,Pd r]) .u),[#v[.tup S],#v[.tup [.int i,.int j,.int k]],v2]):=by
  refine aH (Z1:=[#v[.tup S],#v[.tup [.int i,.int j,.int k]],v2]) (Z2:=[#v[.tup S],#v[.tup [.int i,.int j,.int k]],v2]) (ds:=[.int i,.int j,.int k]) (rs:=[.pl 1]) (Y:=[#v[.int k],#v[.tup S]]) rfl ?_ (by simp) rfl
  have e1:=one (.int i) _ none a1
  have m:=one (.int j) _ none a2
  have l:=one (.int k) _ none n
  have g:∀ d a,ao 0 d [a,#v[L3.D.tup S]]=some [#v[d],#v[.tup S]]:=λ_ _=>rfl
  have cs:sU [none,some 0] (aL dB (us [#v[L3.D.tup S],#v[.tup [.int i,.int j,.int k]],v2] (pls [R3.pl 1])) [#v[.tup S],#v[.tup [.int i,.int j,.int k]],v2])=[none,#v[.tup S]]:=rfl
  rw[cs]
  simp only[bf,g,b9,ag,a9,if_true,e1,m,l,fX,nol]
 unfold bK
 apply ak
 ·(repeat' (first | with_reducible exact c | infer_instance | eq_refl))
 .apply b7
  .nomatch [b]
  .exact Fy h0
  .rfl
theorem Ad (ps:List Pt) (hl:ps.length<=24) (h:∀ p∈ps,Small p) (hn:NoLine ps):cM [(Shd ps,.z)]=some (.ok (.non,.z),[(Shd ps,.z)]):=by
 have a:=mj ps.length (by lia)
 rw[show (ps.length:Int)=((ps.map Pd).length:Int) by rw[Fh]] at a
 obtain ⟨Z',e,v1,v2,rfl⟩:=bb (bnd:=ao 1) (b:=bK) (λ_ Z=>∃ v1 v2,Z=[#v[Shd ps],v1,v2]) (ds:=(cx ps.length).map Td) (Z:=[#v[Shd ps],none,none]) (k:=0) #[none,none,rfl] (by
  rintro m d Z hd ⟨v1,v2,rfl⟩
  rw[Fp,E8] at hd
  obtain ⟨t,a,rfl⟩:=hd
  obtain ⟨j,i,l⟩:=qE (Fj a)
  have c:ps[t.1]?=some (ps[t.1]'(by lia)):=Fd _
  have f:ps[t.2.1]?=some (ps[t.2.1]'(by lia)):=Fd _
  have g:ps[t.2.2]?=some (ps[t.2.2]'(by lia)):=Fd _
  have b:=yS (v2:=v2) (eL (ww c)) (eL (ww f)) (eL (ww g)) (h _ (Fj c)) (h _ (Fj f)) (hn _ _ _ _ _ _ j i c f g)
  exact #[[#v[Shd ps],#v[Td t],v2],_,rfl,.inl b,_,_,rfl])
 apply aK (Z:=[#v[Shd ps],none,none]) rfl rfl
 .apply ak
  .apply dR
   .nomatch [a]
   .rfl
   .exact e
  .nofun
 .rfl
theorem qb {ps:List Pt} (g:GoodSh ps):iw [(Shd ps,.z)]=some (.ok (.bl true,.z),[(Shd ps,.z)]):=by
 have h1:=xm ps g.pos g.most
 have h2:=xb ps g.pos g.most g.rising
 have h3:=Ad ps g.most g.small g.noline
 apply aK (Z:=[#v[Shd ps]]) rfl rfl
 .apply ak
  .apply b7
   .nomatch [h1]
   .rfl
   .rfl
  .nomatch [h2,h3]
 .rfl
theorem fZ {ps:List Pt} (g:GoodSh ps):aI [(Shd ps,.z)]=some (.ok (.non,.z),[(Shd ps,.z)]):=by
 have h1:=qb g
 apply BT (Z:=[#v[Shd ps]]) rfl rfl
 .apply b7
  .nomatch [h1]
  .rfl
  .rfl
 .rfl
def cb (p q r:Pt):Int:=if 0 < aU p q r then 1 else -1
theorem rY {S:List L3.D} {i j k:Int} {p q r:Pt} (a1:aC (.tup S) (.int i)=#v[Pd p]) (a2:aC (.tup S) (.int j)=#v[Pd q]) (c:aC (.tup S) (.int k)=#v[Pd r]) (d:Small p) (a:Small q):eK [(.tup S,.z),(.tup [.int i,.int j,.int k],.z)]=some (.ok (.int (cb p q r),.z),[(.tup S,.z),(.tup [.int i,.int j,.int k],.z)]):=by
 have b:=nP p q r (Small.sub d a).1 (Small.sub d a).2
 by_cases h:0 < aU p q r
 .rw[show cb p q r=1 from if_pos h]
  apply aK (Z:=[#v[.tup S],#v[.tup [.int i,.int j,.int k]]]) rfl rfl
  .apply bF
   .apply Ez
    .nomatch [b],[a1,a2,c]
    .exact Fw h
    .exact i_c
   .rfl
  .rfl
 .rw[show cb p q r = -1 from if_neg h]
  apply aK (Z:=[#v[.tup S],#v[.tup [.int i,.int j,.int k]]]) rfl rfl
  .apply bF
   .apply EA
    .nomatch [b],[a1,a2,c]
    .exact Fy h
    .nofun
   .rfl
  .rfl
theorem eE (c:Int) (m:Int) (h:0 < m):0<=c % m/\c % m < m:=#[Int.emod_nonneg _ (by lia),Int.emod_lt_of_pos _ h]
theorem j1 (n m:Int) (h:0 < m/\m < 1073741824):bB [(.lst [.int n],.u),(.int m,.z)]=some (.ok (.int (n % m),.z),[(.lst [.int (n / m)],.u),(.int m,.z)]):=by
 have hd:y9 [.int n,.int m]=#v[.tup [.int (n / m),.int (n % m)]]:=by simp[c2,qQ,h]
 apply aK (Z:=[some (.lst [.int n],.u),#v[.int m],none,none]) rfl rfl
 .apply ak
  .exists hd
  .apply ak
   .nofun
   .nofun
 .rfl
theorem xl (p q r:Int×Int) (h1:-18446744073709551616 < q.1 - p.1/\q.1 - p.1 < 18446744073709551616) (h2:-18446744073709551616 < q.2 - p.2/\q.2 - p.2 < 18446744073709551616):jh [(Pd p,.z),(Pd q,.z),(Pd r,.z)]=some (.ok (.int (aU p q r),.z),[(Pd p,.z),(Pd q,.z),(Pd r,.z)]):=by
 apply aK (Z:=[#v[Pd p],#v[Pd q],#v[Pd r],none,none,none]) rfl rfl
 .apply ak
  .nofun
  apply ak
  .exists fE h1
  .exists fE h2
 .rfl
theorem xk (ns:List Int) (k:Nat):∃ n:Int,kC [(.fls (ns.map .int),.z),(.int k,.z)]=some (.ok (.int n,.z),[(.fls (ns.map .int),.z),(.int k,.z)]):=by
 by_cases h:k < ns.length
 .refine #[ns[k],?_]
  have a:aC (.fls (ns.map .int)) (.int (k:Int))=#v[.int ns[k]]:=by
   have:L2.atI (ns.map L3.D.int) (k:Int)=some (.int ns[k]):=uX (by simp[h])
   simp[orD,ixD,this]
  have b:(k:Int) < ((ns.map L3.D.int).length:Int):=by simp;lia
  generalize (k:Int)=kk at *
  apply aK (Z:=[#v[.fls (ns.map .int)],#v[.int kk]]) rfl rfl
  .apply mh
   apply lu
   .nofun
   .exact Fw b
   .exists a
  .rfl
 .refine #[0,?_]
  have b:¬ (k:Int) < ((ns.map L3.D.int).length:Int):=by simp;lia
  generalize (k:Int)=kk at *
  apply aK (Z:=[#v[.fls (ns.map .int)],#v[.int kk]]) rfl rfl
  .apply ak
   .apply b7
    .nofun
    .exact Fy b
    .rfl
   .nofun
  .rfl
theorem Ab (c j:Int):∃ n:Int,lZ [(.int c,.z),(.int j,.z)]=some (.ok (.int n,.z),[(.int c,.z),(.int j,.z)]):=by
 have a:=eE c 2147483647 (by decide)
 have b:=eE j 13 (by decide)
 obtain ⟨m,hm⟩:∃ m:Nat,j % 13=m:=#[(j % 13).toNat,by lia]
 have d:m < 13:=by lia
 have e:∃ v:Int,aC (.lst [.int 48271,.int 69621,.int 16807,.int 39373,.int 30269,.int 40014,.int 40692,.int 50021,.int 61687,.int 71993,.int 83869,.int 95561,.int 30307]) (.int (j % 13))=#v[.int v]:=by
  rw[hm]
  clear hm
  match m,d with
  | 0,_=>exact #[_,rfl]
  | 1,_=>exact #[_,rfl]
  | 2,_=>exact #[_,rfl]
  | 3,_=>exact #[_,rfl]
  | 4,_=>exact #[_,rfl]
  | 5,_=>exact #[_,rfl]
  | 6,_=>exact #[_,rfl]
  | 7,_=>exact #[_,rfl]
  | 8,_=>exact #[_,rfl]
  | 9,_=>exact #[_,rfl]
  | 10,_=>exact #[_,rfl]
  | 11,_=>exact #[_,rfl]
  | 12,_=>exact #[_,rfl]
 obtain ⟨v,f⟩:=e
 have c1:-18446744073709551616 < c % 2147483647+12345/\c % 2147483647+12345 < 18446744073709551616:=by lia
 have c2:∀ z:Int,-18446744073709551616 < z % 1000000007/\z % 1000000007 < 18446744073709551616:=λz=>by
  have:=eE z 1000000007 (by decide)
  lia
 apply Exists.intro
 apply aK (Z:=[#v[.int c],#v[.int j],none,none]) rfl rfl
 .apply ak
  .nofun
  apply ak
  .exists f,fE (by decide),fE c1
  apply ak
  .nofun
  .exists fE (by decide),fE (c2 _)
 .rfl
theorem Af (ns:List Int) (k:Nat):∃ n:Int,l0 [(.fls (ns.map .int),.z),(.int k,.z)]=some (.ok (.lst [.int n],.u),[(.fls (ns.map .int),.z),(.int k,.z)]):=by
 obtain ⟨c,a⟩:=xk ns k
 generalize L3.D.fls (ns.map .int)=S at *
 generalize L3.D.int (k:Int)=kk at *
 by_cases h:c % 2=0
 .apply Exists.intro
  apply aK (Z:=[#v[S],#v[kk],none,none,none]) rfl rfl
  .apply ak
   .nomatch [a]
   apply mh
   apply lu
   .nofun
   .exact Fw h
   .nofun
  .rfl
 .obtain ⟨Z',e,n,v4,rfl⟩:=bb (bnd:=ao 4) (b:=jM) (λ_ Z=>∃ (n:Int) (v4:Option (L3.D×Fl)),Z=[#v[S],#v[kk],#v[.int c],#v[.int n],v4]) (ds:=aJ 0 40) (Z:=[#v[S],#v[kk],#v[.int c],#v[.int 0],none]) (k:=0) #[0,none,rfl] (by
   rintro i d Z hd ⟨n,v4,rfl⟩
   obtain ⟨hi,rfl⟩:=bv hd
   obtain ⟨m,hm⟩:=Ab c (0+(i:Int))
   generalize (0+(i:Int))=j at *
   exact #[_,[#v[S],#v[kk],#v[.int c],#v[.int (n * 142857143+m)],#v[.int j]],rfl,.inl (by unfold jM;(nomatch [hm],[xZ (by decide)])),_,_,rfl])
  refine #[n,?_]
  apply aK (Z:=[#v[S],#v[kk],none,none,none]) rfl rfl
  .apply ak
   .nomatch [a]
   apply ak
   .apply b7
    .nofun
    .exact Fy h
    .rfl
   apply ak
   .nofun
   apply ak
   .apply dR
    .exact bZ (by (nofun)) rfl (cH (n:=40) (by decide) (by decide))
    .rfl
    .exact e
   .nofun
  .rfl
theorem yQ {X ρ:L3.D} {f:Fl} {k:L3.D} {p q:L3.D} {b:Int} (a:jh [(p,.z),(q,.z),(ρ,.z)]=some (.ok (.int b,.z),[(p,.z),(q,.z),(ρ,.z)])) :
  dQ [some (X,f),#v[ρ],#v[k],#v[q],#v[p]]=some (.ok (if b=0 then .rt (.bl false) .z else .nx),[some (X,f),#v[ρ],#v[k],#v[q],#v[p]]):=by
 by_cases h:b=0
 .rw[if_pos h]
  apply lu
  .nomatch [a]
  .exact Fw h
  .nofun
 .rw[if_neg h]
  apply b7
  .nomatch [a]
  .exact Fy h
  .rfl
theorem xj (ps:List Pt) (z:Pt) (x:∀ p∈ps,Small p) (hl:ps.length<=24):∃ b:Bool,kB [(.lst (ps.map Pd),.u),(Pd z,.z)]=some (.ok (.bl b,.z),[(.lst (ps.map Pd),.u),(Pd z,.z)])/\(b=true->zD ps z)/\(b=false->∃ (i j:Nat) (p q:Pt),i < j/\ps[i]?=some p/\ps[j]?=some q/\aU p q z=0):=by
 have qR:∀ (i:Nat) (q:Pt) (v4:Option (L3.D×Fl)),ps[i]?=some q->∃ a,fV (ao 4) dQ ((ps.take i).map Pd) [some (.lst (ps.map Pd),.l),#v[Pd z],#v[.int i],#v[Pd q],v4]=some (.ok .nx,[some (.lst (ps.map Pd),.l),#v[Pd z],#v[.int i],#v[Pd q],a])/\(∀ j p,j < i->ps[j]?=some p->aU p q z≠0) \/
   fV (ao 4) dQ ((ps.take i).map Pd) [some (.lst (ps.map Pd),.l),#v[Pd z],#v[.int i],#v[Pd q],v4]=some (.ok (.rt (.bl false) .z),[some (.lst (ps.map Pd),.l),#v[Pd z],#v[.int i],#v[Pd q],a])/\∃ j p,j < i/\ps[j]?=some p/\aU p q z=0:=by
  intro i q v4 v
  have hi:i < ps.length:=(Fi.mp v).1
  obtain ⟨Z',h⟩:=po (bnd:=ao 4) (b:=dQ) (λm Z=>∃ v4,Z=[some (.lst (ps.map Pd),.l),#v[Pd z],#v[.int i],#v[Pd q],v4]/\∀ j p,j < m->ps[j]?=some p->aU p q z≠0)
   (λm r f Z=>r=.bl false/\f=.z/\∃ v4,Z=[some (.lst (ps.map Pd),.l),#v[Pd z],#v[.int i],#v[Pd q],v4]/\∃ p,ps[m]?=some p/\aU p q z=0)
   (ds:=(ps.take i).map Pd) (Z:=[some (.lst (ps.map Pd),.l),#v[Pd z],#v[.int i],#v[Pd q],v4]) (k:=0) #[v4,rfl,λj p h=>absurd h (Nat.not_lt_zero _)] (by
    rintro m d Z hd ⟨v4,rfl,hn⟩
    rw[Fp,E8] at hd
    obtain ⟨p,g,rfl⟩:=hd
    have o:ps[m]?=some p/\m < i:=by
     rw[List.getElem?_take] at g
     split at g
     .exact #[g,by assumption]
     .cases g
    have sm:=Small.sub (x p (Fj o.1)) (x q (Fj v))
    have rb:=xl p q z sm.1 sm.2
    have rb:=yQ (X:=.lst (ps.map Pd)) (f:=.l) (k:=.int (i:Int)) rb
    by_cases h0:aU p q z=0
    .rw[if_pos h0] at rb
     exact #[_,_,rfl,.inr #[.bl false,.z,rb,rfl,rfl,_,rfl,p,by simpa using o.1,h0]]
    .rw[if_neg h0] at rb
     refine #[_,_,rfl,.inl #[.inl rb,_,rfl,λj C n t=>?_]]
     by_cases e:j=m
     .subst e;rw[o.1] at t;cases t;exact h0
     .exact hn j C (by lia) t)
  rcases h with ⟨e,a,rfl,h⟩ | ⟨m,r,f,hm,e,rfl,rfl,a,rfl,p,g,h0⟩
  .exact #[a,.inl #[e,λj p n=>h j p (by simp;lia)]]
  .refine #[a,.inr #[e,m,p,by simp at hm;lia,by simpa using g,h0]]
 obtain ⟨Z',h⟩:=po (bnd:=rH 2 (fK (ao 2) (fK (ao 3) rJ))) (b:=li) (λm Z=>∃ v2 v3 v4,Z=[some (.lst (ps.map Pd),.l),#v[Pd z],v2,v3,v4]/\∀ i j p q,i < j->j < m->ps[i]?=some p->ps[j]?=some q->aU p q z≠0)
   (λm r f Z=>r=.bl false/\f=.z/\∃ v2 v3 v4,Z=[some (.lst (ps.map Pd),.l),#v[Pd z],v2,v3,v4]/\∃ (i j:Nat) (p q:Pt),i < j/\ps[i]?=some p/\ps[j]?=some q/\aU p q z=0)
   (ds:=i8 0 (ps.map Pd)) (Z:=[some (.lst (ps.map Pd),.l),#v[Pd z],none,none,none]) (k:=0) #[_,_,_,rfl,λi j p q _ h=>absurd h (Nat.not_lt_zero _)] (by
    rintro m d Z hd ⟨v2,v3,v4,rfl,hn⟩
    rw[kS,Fp,Option.map_map,E8] at hd
    obtain ⟨q,v,rfl⟩:=hd
    have hm:m < ps.length:=(Fi.mp v).1
    obtain ⟨a,h⟩:=qR m q v4 v
    have sl:=BC (xs:=ps.map Pd) (m:=m) (by simp;lia)
    rw[<- List.map_take] at sl
    have w:slD (.lst (ps.map Pd)) none (some (m:Int))=some (.lst ((ps.take m).map Pd),.u):=by
     show some (L3.D.lst (fu (ps.map Pd) none (some (m:Int))),Fl.u)=_
     rw[sl]
    rcases h with ⟨e,h⟩ | ⟨e,j,p,n,g,h0⟩
    .refine #[_,[some (.lst (ps.map Pd),.l),#v[Pd z],#v[.int m],#v[Pd q],a],by rw[FA];rfl,.inl #[.inl (dR (lU (Ey (af rfl) pe (pd (af rfl) rfl) rfl w) rfl rfl) rfl e),_,_,_,rfl,λi j p B c n hi s=>?_]]
     by_cases A:j=m
     .subst A;rw[v] at s;cases s;exact h i p c hi
     .exact hn i j p B c (by lia) hi s
    .refine #[_,[some (.lst (ps.map Pd),.l),#v[Pd z],#v[.int m],#v[Pd q],a],by rw[FA];rfl,.inr #[.bl false,.z,dR (lU (Ey (af rfl) pe (pd (af rfl) rfl) rfl w) rfl rfl) rfl e,rfl,rfl,_,_,_,rfl,j,m,p,q,n,g,v,h0]])
 rcases h with ⟨e,v2,v3,v4,rfl,h⟩ | ⟨m,r,f,hm,e,rfl,rfl,v2,v3,v4,rfl,y⟩
 .refine #[true,?_,λ_ i j p q c hi n=>h i j p q c ?_ hi n,λh=>by cases h]
  .generalize ps.map Pd=P at *
   apply aK (Z:=[some (.lst P,.u),#v[Pd z],none,none,none]) (Z1:=[some (.lst P,.u),#v[Pd z],v2,v3,v4]) rfl rfl
   .exact ak (yH (is:=[0]) (rs:=[.pl 0]) (Z1:=[some (.lst P,.u),#v[Pd z],none,none,none]) rfl rfl e) (bF i_c rfl)
   .rfl
  .have:=(Fi.mp n).1
   simp[kR];lia
 .refine #[false,?_,λh=>(by cases h),λ_=>y]
  generalize ps.map Pd=P at *
  apply aK (Z:=[some (.lst P,.u),#v[Pd z],none,none,none]) (Z1:=[some (.lst P,.u),#v[Pd z],v2,v3,v4]) rfl rfl
  .exact mh (yH (is:=[0]) (rs:=[.pl 0]) (Z1:=[some (.lst P,.u),#v[Pd z],none,none,none]) rfl rfl e)
  .rfl
theorem sq_le {i:Nat} (h:i < 12):0<=(i:Int) * (i:Int)/\(i:Int) * (i:Int)<=144:=by
 have h1:i * i<=12 * 12:=Nat.mul_le_mul (by lia) (by lia)
 have h2:(i:Int) * (i:Int)=((i * i:Nat):Int):=by simp
 rw[h2];lia
theorem zH {i:Nat} {g kd:Int} (hi:i < 12) (f:-15<=g) (g1:g<=15) (h:0<=kd) (d:kd < 6) :
  ∃ y:Int,aC (.lst [.int g,.int g,.int ((i:Int) * i+g / 9),.int (g / 9 - (i:Int) * i),.int (((i:Int) * i+30) * (1 - 2 * ((i:Int) % 2))),.int (g * 1000)]) (.int kd)=#v[.int y]/\-16000<=y/\y<=16000:=by
 obtain ⟨b,c⟩:=sq_le hi
 obtain ⟨j,rfl⟩:∃ j:Nat,kd=(j:Int):=#[kd.toNat,by lia]
 have a:j < 6:=by lia
 generalize (i:Int) * (i:Int)=qq at *
 have hm:(qq+30) * (1 - 2 * ((i:Int) % 2))<=16000/\-16000<=(qq+30) * (1 - 2 * ((i:Int) % 2)):=by
  rcases Int.emod_two_eq (i:Int) with e | e
  .rw[e];simp;lia
  .rw[e];simp;lia
 generalize (qq+30) * (1 - 2 * ((i:Int) % 2))=zz at *
 match j,a with
 | 0,_=>exact #[_,rfl,by lia,by lia]
 | 1,_=>exact #[_,rfl,by lia,by lia]
 | 2,_=>exact #[_,rfl,by lia,by lia]
 | 3,_=>exact #[_,rfl,by lia,by lia]
 | 4,_=>exact #[_,rfl,by lia,by lia]
 | 5,_=>exact #[_,rfl,by lia,by lia]
abbrev dC (n most many kd x:Int) (ps:List Pt) (v6 v7 v8 v9:Option (L3.D×Fl)):Sto:=[some (.lst [.int n],.u),#v[.int most],#v[.int many],#v[.int kd],#v[.int x],some (.lst (ps.map Pd),.u),v6,v7,v8,v9]
theorem rZ {n most many kd x y0:Int} {ps:List Pt} {v6 v7 v8:Option (L3.D×Fl)} (R:Rising ps) (o:∀ p∈ps,Small p) (hl:ps.length<=12) :
  ∃ y,iN c5 eA (dC n most many kd x ps v6 v7 v8 #v[.int y0])=some (.ok .nx,dC n most many kd x ps v6 v7 v8 #v[.int y])/\zD ps (x,y)/\y0<=y/\y<=y0+144:=by
 have g:above ps x y0<=144:=by
  have h1:=zA ps x y0
  have h2:ps.length * ps.length<=12 * 12:=Nat.mul_le_mul (by lia) (by lia)
  lia
 obtain ⟨Z',e,y,rfl,hf,h1,h2⟩:=u5 (c:=c5) (b:=eA) (λm Z=>∃ y:Int,Z=dC n most many kd x ps v6 v7 v8 #v[.int y]/\m=above ps x y/\y0<=y/\y+(above ps x y:Int)<=y0+(above ps x y0:Int))
  (λZ=>∃ y:Int,Z=dC n most many kd x ps v6 v7 v8 #v[.int y]/\zD ps (x,y)/\y0<=y/\y<=y0+144) (Z:=dC n most many kd x ps v6 v7 v8 #v[.int y0]) #[y0,rfl,rfl,Int.le_refl _,Int.le_refl _] (by
   rintro m Z ⟨y,rfl,rfl,h1,h2⟩
   obtain ⟨b,k,h,hf⟩:=xj ps (x,y) o (by lia)
   have f:c5 (dC n most many kd x ps v6 v7 v8 #v[.int y])=some (.ok (!b),dC n most many kd x ps v6 v7 v8 #v[.int y]):=by
    unfold c5
    nomatch [k]
   cases b with
   | true=>exact .inl #[_,f,y,rfl,h rfl,h1,by lia]
   | false =>
    obtain ⟨i,j,p,q,a,e1,l,h0⟩:=hf rfl
    have d:=zy R a e1 l h0
    exact .inr #[_,dC n most many kd x ps v6 v7 v8 #v[.int (y+1)],_,f,.inl (by unfold eA;(nofun)),d,y+1,rfl,rfl,by lia,by lia])
 exact #[y,e,hf,h1,h2]
theorem xa {n most many kd x:Int} {i:Nat} {ps:List Pt} {v7 v8 v9:Option (L3.D×Fl)} (R:Rising ps) (v:∀ p∈ps,Small p) (hl:ps.length<=12) (hi:i < 12) (l:0<=kd) (s:kd < 6) :
  ∃ (k d y:Int) (e a b:Option (L3.D×Fl)),c6 (dC n most many kd x ps #v[.int i] v7 v8 v9)=some (.ok .nx,dC k most many kd (x+1+d) (ps++[(x+1+d,y)]) #v[.int i] e a b)/\0<=d/\d < 3/\zD ps (x+1+d,y)/\-16000<=y/\y<=16144:=by
 have t:=j1
 have A:=eE (n / 3) 31 (by decide)
 have f:=eE n 3 (by decide)
 generalize r:n / 3 % 31 - 15=G at *
 obtain ⟨y0,m,B,C⟩:=zH (i:=i) (g:=G) (kd:=kd) hi (by lia) (by lia) l s
 have j:-18446744073709551616 < (i:Int)/\(i:Int) < 18446744073709551616:=by lia
 have o:-18446744073709551616 < 1 - 2 * ((i:Int) % 2)/\1 - 2 * ((i:Int) % 2) < 18446744073709551616:=by lia
 generalize c:x+1+n % 3=X at *
 obtain ⟨y,q,hf,h1,h2⟩:=rZ (n:=n / 3 / 31) (most:=most) (many:=many) (kd:=kd) (x:=X) (y0:=y0) (ps:=ps) (v6:=#v[.int i]) (v7:=#v[.int G]) (v8:=some (.lst [.int G,.int G,.int ((i:Int) * i+G / 9),.int (G / 9 - (i:Int) * i),.int (((i:Int) * i+30) * (1 - 2 * ((i:Int) % 2))),.int (G * 1000)],.u)) R v hl
 refine #[n / 3 / 31,n % 3,y,#v[.int G],some (.lst [.int G,.int G,.int ((i:Int) * i+G / 9),.int (G / 9 - (i:Int) * i),.int (((i:Int) * i+30) * (1 - 2 * ((i:Int) % 2))),.int (G * 1000)],.u),#v[.int y],?_,f.1,f.2,by rw[c];exact hf,by lia,by lia]
 rw[c]
 have w:(ps.map Pd).length < 16777216:=by simp;lia
 have h:=EY (d:=Pd (X,y)) w
 rw[show ps.map Pd++[Pd (X,y)]=(ps++[(X,y)]).map Pd by simp] at h
 clear hi
 generalize (i:Int)=zi at *
 unfold c6
 apply ak (Z1:=dC (n / 3) most many kd X ps #v[.int zi] v7 v8 v9)
 .rw[<- c]
  nomatch [(t _ _ (by decide))]
 apply ak (Z1:=dC (n / 3 / 31) most many kd X ps #v[.int zi] #v[.int G] v8 v9)
 .rw[<- r]
  nomatch [(t _ _ (by decide))]
 apply ak (Z1:=dC (n / 3 / 31) most many kd X ps #v[.int zi] #v[.int G] (some (.lst [.int G,.int G,.int (zi * zi+G / 9),.int (G / 9 - zi * zi)],.u)) v9)
 .exists fE j
 apply ak (Z1:=dC (n / 3 / 31) most many kd X ps #v[.int zi] #v[.int G] (some (.lst [.int G,.int G,.int (zi * zi+G / 9),.int (G / 9 - zi * zi),.int ((zi * zi+30) * (1 - 2 * (zi % 2))),.int (G * 1000)],.u)) v9)
 .exists fE j,fE (by decide),xZ o,xZ (by decide)
 apply ak (Z1:=dC (n / 3 / 31) most many kd X ps #v[.int zi] #v[.int G] (some (.lst [.int G,.int G,.int (zi * zi+G / 9),.int (G / 9 - zi * zi),.int ((zi * zi+30) * (1 - 2 * (zi % 2))),.int (G * 1000)],.u)) #v[.int y0])
 .exists m
 apply ak
 .exact q
 .exists h
set_option tactic.hygienic true in
theorem xi {n most many kd x:Int} (hm:0<=many/\many<=12) (o:0<=kd) (r:kd < 6) (x0:-4<=x) (B:x<=4) :
  ∃ (f h:Int) (ps:List Pt) (v6 v7 v8 v9:Option (L3.D×Fl)),dw (aX dA (aa (ac 2) aj)) (ao 6) c6 (dC n most many kd x [] none none none none)=some (.ok .nx,dC f most many kd h ps v6 v7 v8 v9)/\(ps.length:Int)=many/\Rising ps/\NoLine ps/\(∀ q∈ps,-5<=q.1/\q.1<=100/\-17000<=q.2/\q.2<=17000):=by
 obtain ⟨Z',e,f,h,ps,v6,v7,v8,v9,rfl,hl,ris,c,bnd,h1,h2⟩:=bb (bnd:=ao 6) (b:=c6) (λi Z=>∃ (n x:Int) (ps:List Pt) (v6 v7 v8 v9:Option (L3.D×Fl)),Z=dC n most many kd x ps v6 v7 v8 v9/\ps.length=i/\Rising ps/\NoLine ps/\(∀ q∈ps,q.1<=x/\-5<=q.1/\-17000<=q.2/\q.2<=17000)/\-4<=x/\x<=4+3 * (i:Int))
  (ds:=aJ 0 many.toNat) (Z:=dC n most many kd x [] none none none none) (k:=0) #[n,x,[],none,none,none,none,rfl,rfl,λ_ _ _ _ _ e _=>by simp at e,λ_ _ _ _ _ _ _ _ e _ _=>by simp at e,λ_ e=>by simp at e,by lia,by lia] (by
   rintro i d Z hd ⟨n,x,ps,v6,v7,v8,v9,rfl,hl,ris,c,bnd,h1,h2⟩
   obtain ⟨hi,rfl⟩:=bv hd
   have j:∀ q∈ps,Small q:=λq a=>by
    obtain ⟨a1,a2,l,m⟩:=bnd q a
    exact #[by lia,by lia,by lia,by lia]
   obtain ⟨f,g,y,u,p,s,e,v,w,fr,y0,A⟩:=xa (n:=n) (most:=most) (many:=many) (kd:=kd) (x:=x) (i:=i) (ps:=ps) (v7:=v7) (v8:=v8) (v9:=v9) ris j (by lia) (by lia) o r
   refine #[dC n most many kd x ps #v[.int i] v7 v8 v9,_,by rw[Int.zero_add];rfl,.inl e,f,x+1+g,ps++[(x+1+g,y)],_,_,_,_,rfl,by simp;lia,ris.snoc λq a=>?_,c.snoc fr,λq a=>?_,by lia,by lia]
   .show q.1 < x+1+g
    have:=(bnd q a).1
    lia
   .rcases Ff.mp a with a | a
    .obtain ⟨a1,a2,l,m⟩:=bnd q a
     exact #[by lia,by lia,by lia,by lia]
    .have e:q=(x+1+g,y):=by simpa using a
     subst e
     exact #[Int.le_refl _,by show -5<=x+1+g;lia,by show -17000<=y;lia,by show y<=17000;lia])
 rw[aQ] at hl h2
 have t:dA [.int many]=some (aJ 0 many.toNat):=cH (by lia) rfl
 refine #[f,h,ps,v6,v7,v8,v9,?_,by lia,ris,c,λq a=>?_]
 .apply dR
  ·(repeat' (first | with_reducible apply bZ (h3:=t) | infer_instance | eq_refl))
  .rfl
  .exact e
 .obtain ⟨a1,a2,l,m⟩:=bnd q a
  exact #[by lia,by lia,by lia,by lia]
abbrev scJ (p:Pt):Pt:=jH 1000000000000 1000000000 7 p
theorem pow12:xL (.int 10) (.int 12)=#v[.int 1000000000000]:=rfl
theorem pow9:xL (.int 10) (.int 9)=#v[.int 1000000000]:=rfl
theorem vi (ps:List Pt) (hl:ps.length<=24) {n most many kd x:Int} {v6 v7 v8 v9:Option (L3.D×Fl)}:aN 5 eh (dC n most many kd x ps v6 v7 v8 v9)=some (.ok .nx,dC n most many kd x (ps.map scJ) v6 v7 v8 v9):=by
 obtain ⟨Y',e,a,b,rfl⟩:=aR (bnd:=rH 2 (fK (ao 0) (fK (ao 1) rJ))) (c:=b9) (elt:=gJ) (λY=>∃ a b,Y=[a,b]) Pd (λ_=>true) (λp=>Pd (scJ p)) (xs:=ps) (Y:=[none,none]) #[none,none,rfl] (by
  rintro p f Y ⟨a,b,rfl⟩
  exact #[[#v[.int p.1],#v[.int p.2]],_,rfl,rfl,(λh=>by cases h),λ_=>#[.val (Pd (scJ p)) .z,[#v[.int p.1],#v[.int p.2]],(Pd (scJ p),.z),_,by unfold gJ;(exists pow12,pow9,fE (by decide)),rfl,rfl,_,_,rfl]])
 rw[FU.mpr (λ_ _=>rfl)] at e
 have d:eh (dC n most many kd x ps v6 v7 v8 v9)=some (.ok (.val (.lst (ps.map λp=>Pd (scJ p))) .u),dC n most many kd x ps v6 v7 v8 v9):=aH (rs:=[.pl 5]) (Z1:=dC n most many kd x ps v6 v7 v8 v9) (Z2:=[some (.lst [.int n],.u),#v[.int most],#v[.int many],#v[.int kd],#v[.int x],some (.lst (ps.map Pd),.l),v6,v7,v8,v9]) rfl e (by simp;lia) rfl
 rw[show (ps.map λp=>Pd (scJ p))=(ps.map scJ).map Pd by simp] at d
 exact bP d rfl (Nat.le_of_ble_eq_true rfl) rfl
theorem vh (n most:Int) (h1:1<=most) (h2:most<=12):∃ (b:Int) (ps:List Pt),gl [(.lst [.int n],.u),(.int most,.z)]=some (.ok (.tup (ps.map Pd),.z),[(.lst [.int b],.u),(.int most,.z)])/\GoodSh ps/\(ps.length:Int)<=most:=by
 have t:=j1
 have m:=eE n most (by lia)
 have h:=eE (n / most) 6 (by decide)
 have l:=eE (n / most / 6) 9 (by decide)
 obtain ⟨b,k,ps,v6,v7,v8,v9,e,hl,ris,c,bnd⟩:=xi (n:=n / most / 6 / 9) (most:=most) (many:=1+n % most) (kd:=n / most % 6) (x:=n / most / 6 % 9 - 4) #[by lia,by lia] h.1 h.2 (by lia) (by lia)
 have good:GoodSh ps:=⟨by lia,by lia,λq d=>by
  obtain ⟨a1,a2,i,j⟩:=bnd q d
  exact ⟨by lia,by lia,by lia,by lia⟩,ris,c⟩
 have a:GoodSh (ps.map scJ):=⟨by simpa using good.pos,by simpa using good.most,λq d=>by
  obtain ⟨r,f,rfl⟩:=Fo.mp d
  obtain ⟨a1,a2,i,j⟩:=bnd r f
  exact ⟨by show -(2 ^ 62) < (1000000000000:Int) * r.1+7;lia,by show (1000000000000:Int) * r.1+7 < 2 ^ 62;lia,by show -(2 ^ 62) < (1000000000:Int) * r.2;lia,by show (1000000000:Int) * r.2 < 2 ^ 62;lia⟩,ris.scale (by decide),c.scale (by decide) (by decide)⟩
 have pre:∀ {r:Option (Except L3.D Flw×Sto)},aB (sIf (cB (ah eqX (am bB (aa (ac 0) (aa (mC (.int 6)) aj))) (mC (.int 5)))) (aN 5 eh) cU) (aT 2 (ay l6 (aa (ac 5) aj))) (dC b most (1+n % most) (n / most % 6) k ps v6 v7 v8 v9)=r->og [some (.lst [.int n],.u),#v[.int most],none,none,none,none,none,none,none,none]=r:=by
  intro r f
  apply ak (Z1:=[some (.lst [.int (n / most)],.u),#v[.int most],#v[.int (1+n % most)],none,none,none,none,none,none,none])
  .nomatch [(t n most (by lia))]
  apply ak (Z1:=[some (.lst [.int (n / most / 6)],.u),#v[.int most],#v[.int (1+n % most)],#v[.int (n / most % 6)],none,none,none,none,none,none])
  .nomatch [(t _ _ (by decide))]
  apply ak (Z1:=[some (.lst [.int (n / most / 6 / 9)],.u),#v[.int most],#v[.int (1+n % most)],#v[.int (n / most % 6)],#v[.int (n / most / 6 % 9 - 4)],none,none,none,none,none])
  .nomatch [(t _ _ (by decide))]
  apply ak (Z1:=dC (n / most / 6 / 9) most (1+n % most) (n / most % 6) (n / most / 6 % 9 - 4) [] none none none none)
  .nofun
  exact ak e f
 by_cases g:b % 6=5
 .refine #[b / 6,ps.map scJ,?_,a,by rw[Fh];lia]
  apply aK (Z:=[some (.lst [.int n],.u),#v[.int most],none,none,none,none,none,none,none,none]) rfl rfl
  .apply pre
   apply ak
   .apply lu
    .nomatch [(t _ _ (by decide))]
    .exact Fw g
    .exact vi ps (by lia)
   .nofun
  .rfl
 .refine #[b / 6,ps,?_,good,by lia]
  apply aK (Z:=[some (.lst [.int n],.u),#v[.int most],none,none,none,none,none,none,none,none]) rfl rfl
  .apply pre
   apply ak
   .apply b7
    .nomatch [(t _ _ (by decide))]
    .exact Fy g
    .rfl
   .nofun
  .rfl
def fq (ps:List Pt) (i:Nat):Pt:=ps.getD i (0,0)
theorem j6 {ps:List Pt} {i:Nat} (h:i < ps.length):ps[i]?=some (fq ps i):=by
 simp[fq,List.getD,Fd h]
theorem mz {ps:List Pt} {i:Nat} (a:∀ p∈ps,Small p) (h:i < ps.length):Small (fq ps i):=a _ (Fj (j6 h))
theorem rX {ps:List Pt} {i:Nat} (h:i < ps.length):aC (Shd ps) (.int i)=#v[Pd (fq ps i)]:=eL (ww (j6 h))
def tq (ps:List Pt) (t:Tri):Int:=cb (fq ps t.1) (fq ps t.2.1) (fq ps t.2.2)
abbrev tk (t:Tri):List Key:=[.inl (t.1:Int),.inl (t.2.1:Int),.inl (t.2.2:Int)]
theorem wL {t u:Tri} (h:tk t=tk u):t=u:=by
 simp only[tk,List.cons.injEq,Sum.inl.injEq,and_true] at h
 exact Prod.ext (by lia) (Prod.ext (by lia) (by lia))
def tb (ps:List Pt) (l:List Tri):List (List Key×L3.D):=l.map λt=>(tk t,.int (tq ps t))
theorem Dw {ps:List Pt} {l:List Tri} {t:Tri} (h:t ∉ l):iG (tb ps l) (tk t) (.int (tq ps t))=tb ps (l++[t]):=by
 have hn:¬ ((tb ps l).any λa=>decide (a.1=tk t))=true:=by
  intro b
  obtain ⟨x,c,e⟩:=List.any_eq_true.mp b
  obtain ⟨u,hu,rfl⟩:=Fo.mp c
  exact h (wL (of_decide_eq_true e) ▸ hu)
 unfold iG
 rw[if_neg hn]
 unfold tb
 rw[List.map_append]
 rfl
theorem yN {ps:List Pt} {t:Tri}:∀ {l:List Tri},t∈l->gi (tb ps l) (tk t)=some (.int (tq ps t))
 | u::l,h=>by
  unfold gi tb
  rw[Fv,List.find?_cons]
  by_cases e:tk u=tk t
  .rw[wL e];simp
  .have:t∈l:=by
    rcases Fc.mp h with rfl | h
    .exact absurd rfl e
    .exact h
   have a:=yN (ps:=ps) this
   unfold gi tb at a
   simp only[e,decide_false]
   exact a
theorem CZ {ps:List Pt} {l:List Tri} {t:Tri} (h:t ∉ l) (hl:l.length < 16777216):nq (.dt (tb ps l)) [Td t,.int (tq ps t)]=some (.dt (tb ps (l++[t])),.non):=by
 show (if (tb ps l).length < 16777216 then some (L3.D.dt (iG (tb ps l) (tk t) (.int (tq ps t))),L3.D.non) else none)=_
 rw[if_pos (by unfold tb;rw[Fh];exact hl),Dw h]
theorem rR:∀ n:Nat,n<=9->(cx n).Nodup
 | 0,_=>by decide +kernel
 | 1,_=>by decide +kernel
 | 2,_=>by decide +kernel
 | 3,_=>by decide +kernel
 | 4,_=>by decide +kernel
 | 5,_=>by decide +kernel
 | 6,_=>by decide +kernel
 | 7,_=>by decide +kernel
 | 8,_=>by decide +kernel
 | 9,_=>by decide +kernel
 | n+10,h=>absurd h (by lia)
theorem wH:∀ n:Nat,n<=9->(cx n).length<=84
 | 0,_=>by decide +kernel
 | 1,_=>by decide +kernel
 | 2,_=>by decide +kernel
 | 3,_=>by decide +kernel
 | 4,_=>by decide +kernel
 | 5,_=>by decide +kernel
 | 6,_=>by decide +kernel
 | 7,_=>by decide +kernel
 | 8,_=>by decide +kernel
 | 9,_=>by decide +kernel
 | n+10,h=>absurd h (by lia)
theorem u9 {α:Type} {l:List α} {m:Nat} {t:α} (h:l[m]?=some t):l.take (m+1)=l.take m++[t]:=by
 rw[List.take_add_one,h];rfl
theorem sC {α:Type} {l:List α} {m:Nat} {t:α} (nd:l.Nodup) (h:l[m]?=some t):t ∉ l.take m:=by
 rw[<- List.take_append_drop m l] at nd
 intro hm
 refine (List.nodup_append.mp nd).2.2 t hm t ?_ rfl
 refine Fj (i:=0) ?_
 rw[List.getElem?_drop]
 exact h
theorem wz {ps:List Pt} (g:GoodSh ps) {t:Tri} (h1:t.1 < t.2.1) (h2:t.2.1 < t.2.2) (h3:t.2.2 < ps.length) {l:List Tri} (hn:t ∉ l) (hl:l.length < 16777216):di [#v[Shd ps],some (.dt (tb ps l),.u),#v[Td t]]=some (.ok .nx,[#v[Shd ps],some (.dt (tb ps (l++[t])),.u),#v[Td t]]):=by
 obtain ⟨i,j,k⟩:=t
 dsimp only at h1 h2 h3
 have f:eK [(Shd ps,.z),(Td (i,j,k),.z)]=some (.ok (.int (tq ps (i,j,k)),.z),[(Shd ps,.z),(Td (i,j,k),.z)]):=rY (rX (ps:=ps) (i:=i) (by lia)) (rX (ps:=ps) (i:=j) (by lia)) (rX (ps:=ps) (i:=k) (by lia)) (mz g.small (show i < ps.length by lia)) (mz g.small (show j < ps.length by lia))
 have e:=CZ (ps:=ps) hn hl
 unfold di
 have a:am eK (aa (ac 0) (aa (ac 2) aj)) [#v[Shd ps],some (.dt (tb ps l),.u),#v[Td (i,j,k)]]=some (.ok (.val (.int (tq ps (i,j,k))) .z),[#v[Shd ps],some (.dt (tb ps l),.u),#v[Td (i,j,k)]]):=by (nomatch [f])
 exact ux (i:=1) (Z2:=[#v[Shd ps],some (.dt (tb ps l),.u),#v[Td (i,j,k)]]) (Z3:=[#v[Shd ps],some (.dt (tb ps l),.u),#v[Td (i,j,k)]]) a rfl (af (i:=2) rfl) rfl rfl e
theorem j2 {ps:List Pt} (g:GoodSh ps) (f:ps.length<=9):bg [(Shd ps,.z)]=some (.ok (.dt (tb ps (cx ps.length)),.u),[(Shd ps,.z)]):=by
 have nd:=rR ps.length f
 have l:=wH ps.length f
 obtain ⟨Z',e,v2,rfl⟩:=bb (bnd:=ao 2) (b:=di) (λm Z=>∃ v2,Z=[#v[Shd ps],some (.dt (tb ps ((cx ps.length).take m)),.u),v2]) (ds:=(cx ps.length).map Td) (Z:=[#v[Shd ps],some (.dt [],.u),none]) (k:=0) #[none,rfl] (by
  rintro m d Z hd ⟨v2,rfl⟩
  rw[FA]
  rw[Fp] at hd
  obtain ⟨t,a,rfl⟩:=E8.mp hd
  obtain ⟨j,h,i⟩:=qE (Fj a)
  rw[u9 a]
  exact #[_,_,rfl,.inl (wz g j h i (sC nd a) (by rw[FF];lia)),_,rfl])
 rw[FA,Fh,List.take_length] at e
 have c:=fZ g
 have th:=mj ps.length (by lia)
 have hlen:bC [Shd ps]=#v[.int (ps.length:Nat)]:=by simp[sM,c1]
 apply aK (Z:=[#v[Shd ps],none,none]) rfl rfl
 .apply ak (Z1:=[#v[Shd ps],none,none])
  .exact fk (aq c (ae (af rfl) au) rfl rfl rfl)
  .apply ak (Z1:=[#v[Shd ps],some (.dt [],.u),none])
   .rfl
   .apply ak
    .apply dR
     .nomatch [th],[hlen]
     .rfl
     .exact e
    .nofun
 .rfl
abbrev k3 (i j k:Nat):List Key:=[.inl (i:Int),.inl (j:Int),.inl (k:Int)]
structure Sg where
 length:Nat
 f:Nat->Nat->Nat->Int
def trn (ps:Sg) (i j k:Nat):Int:=ps.f i j k
def jD (ps:Sg) (T:List (List Key×L3.D)):Prop:=∀ i j k,i < j->j < k->k < ps.length->gi T (k3 i j k)=some (.int (trn ps i j k))
theorem vF {n i j k:Nat} (h1:i < j) (h2:j < k) (h3:k < n):(i,j,k)∈cx n:=by
 refine FV.mpr #[i,List.mem_range.mpr (by lia),FV.mpr #[j - (i+1),List.mem_range.mpr (by lia),Fo.mpr #[k - (j+1),List.mem_range.mpr (by lia),?_]]]
 refine Prod.ext rfl (Prod.ext ?_ ?_) <;> simp <;> lia
theorem z5 {a:List (List Key×L3.D)} {i j k:Nat} {d:L3.D} (h:gi a (k3 i j k)=some d):aC (.dt a) (.tup [.int i,.int j,.int k])=#v[d]:=by
 show (gi a (k3 i j k)).map (λd=>(d,Fl.z))=_
 rw[h];rfl
def sgn (ps:List Pt):Sg:=#[ps.length,λi j k=>cb (fq ps i) (fq ps j) (fq ps k)]
theorem iL (ps:List Pt):jD (sgn ps) (tb ps (cx ps.length)):=λi j k h1 h2 h3=>yN (t:=(i,j,k)) (vF h1 h2 h3)
abbrev Nd (l:List Nat):List L3.D:=l.map λ(i:Nat)=>L3.D.int (i:Int)
def el (L:List Nat) (i:Nat):Nat:=L.getD i 0
theorem mW {L:List Nat} {i:Nat} (h:i < L.length):L[i]?=some (el L i):=by simp[el,List.getD,h]
theorem dG {L:List Nat} {i:Nat} (h:i < L.length):el L i∈L:=Fj (mW h)
theorem nO {i n:Int} (h0:0<=i) (h1:i < n):dH [(.int i,.z),(.int n,.z)]=some (.ok (.bl true,.z),[(.int i,.z),(.int n,.z)]):=by
 have b:leI (.int 0) (.int i)=#v[.bl true]:=by simp[dF,h0]
 have a:ltI (.int i) (.int n)=#v[.bl true]:=by simp[dF,h1]
 apply aK (Z:=[#v[.int i],#v[.int n]]) rfl rfl
 .apply bF
  .apply lT
   .nomatch [(kH _)]
   .rfl
   .rfl
   .exact lV i_c (af rfl) rfl rfl b (af rfl) rfl rfl a
  .rfl
 .rfl
theorem uY {α:Type} (b:α->Bool):∀ xs:List α,jC (xs.map λx=>L3.D.bl (b x))=some (xs.map b)
 | []=>rfl
 | x::xs=>by simp[jC,uY b xs]
theorem m9 {α:Type} (b:α->Bool) (xs:List α):pJ [.lst (xs.map λx=>L3.D.bl (b x))]=#v[.bl (xs.all b)]:=by
 show (jC _).map _=_
 rw[uY]
 simp[List.all_map]
theorem m8 {xs:List L3.D} {i:Nat} {d:L3.D} (h:xs[i]?=some d):L2.atI xs (i:Int)=some d:=by
 have lt:=(Fi.mp h).1
 unfold L2.atI L2.ixN
 rw[if_pos (by lia),if_pos (by lia)]
 simpa using h
theorem zB {r:List Nat} {i:Nat} (h:i < r.length):(Nd r)[i]?=some (.int (el r i)):=by rw[Fp,mW h];rfl
theorem oJ {r:List Nat} {i:Nat} (h:i < r.length):aC (.tup (Nd r)) (.int (i:Int))=#v[.int (el r i)]:=eL (m8 (zB h))
theorem uW {xs:List L3.D} {d:L3.D} (h:xs[xs.length - 1]?=some d):L2.atI xs (-1)=some d:=by
 have lt:=(Fi.mp h).1
 unfold L2.atI L2.ixN
 rw[if_neg (by decide),if_pos (by lia)]
 rw[show ((-1:Int)+(xs.length:Int)).toNat=xs.length - 1 by lia,Option.bind_some]
 exact h
structure Ris (n:Nat) (r:List Nat):Prop where
 up:r.Pairwise (· < ·)
 lt:∀ x∈r,x < n
theorem Ris.at {n:Nat} {r:List Nat} (h:Ris n r) {i j:Nat} (b:i < j) (c:j < r.length):el r i < el r j:=by
 have:=List.pairwise_iff_getElem.mp h.up i j (by lia) c b
 have e1:=mW (L:=r) (i:=i) (by lia)
 have a:=mW (L:=r) (i:=j) c
 rw[Fd (by lia)] at e1 a
 injection e1 with e1
 injection a with a
 lia
theorem Ris.sub {n:Nat} {r q:List Nat} (h:Ris n r) (s:q.Sublist r):Ris n q:=#[h.up.sublist s,λx a=>h.lt x (s.subset a)]
theorem tY {n:Nat}:∀ (r:List Nat) (a:Nat),r.Pairwise (· < ·)->(∀ x∈r,a<=x/\x < n)->r.length<=n - a
 | [],a,_,_=>Nat.zero_le _
 | x::r,a,hp,hb=>by
  rw[List.pairwise_cons] at hp
  have h0:=hb x E5
  have:=tY r (x+1) hp.2 λy b=>#[hp.1 y b,(hb y (E6 _ b)).2]
  rw[FE]
  lia
theorem Ris.len {n:Nat} {r:List Nat} (h:Ris n r):r.length<=n:=tY r 0 h.up λx a=>#[Nat.zero_le _,h.lt x a]
set_option tactic.hygienic true in
theorem tM {n:Nat} {r:List Nat} (h:Ris n r) (hn:n<=24):bE [(.tup (Nd r),.z),(.int (n:Int),.z)]=some (.ok (.bl true,.z),[(.tup (Nd r),.z),(.int (n:Int),.z)]):=by
 have l:=h.len
 obtain ⟨Y',e,a,rfl⟩:=aR (bnd:=ao 0) (c:=b9) (elt:=bL) (λY=>∃ a,Y=[a,#v[.int (n:Int)]]) (λi:Nat=>L3.D.int (i:Int)) (λ_=>true) (λ_=>.bl true) (xs:=r) (Y:=[none,#v[.int (n:Int)]]) #[none,rfl] (by
  rintro k d Y ⟨a,rfl⟩
  have:=h.lt k d
  have pl:=nO (i:=(k:Int)) (n:=(n:Int)) (by omega) (by omega)
  exact #[[#v[.int (k:Int)],#v[.int (n:Int)]],_,rfl,rfl,(λh=>by cases h),λ_=>#[.val (.bl true) .z,[#v[.int (k:Int)],#v[.int (n:Int)]],(.bl true,.z),_,by unfold bL;(nomatch [pl]),rfl,rfl,_,rfl]])
 rw[FU.mpr (λ_ _=>rfl)] at e
 have e1:dg [#v[.tup (Nd r)],#v[.int (n:Int)]]=some (.ok (.val (.lst (r.map λ_=>.bl true)) .u),[#v[.tup (Nd r)],#v[.int (n:Int)]]):=aH (rs:=[.pl 0]) (Z1:=[#v[.tup (Nd r)],#v[.int (n:Int)]]) (Z2:=[#v[.tup (Nd r)],#v[.int (n:Int)]]) rfl e (by rw[Fh];omega) rfl
 have a1:=m9 (λ_:Nat=>true) r
 rw[List.all_eq_true.mpr (λ_ _=>rfl)] at a1
 obtain ⟨Y2,f,b,rfl⟩:=aR (bnd:=ao 0) (c:=b9) (elt:=dh) (λY=>∃ a,Y=[a,#v[.tup (Nd r)]]) (λi:Nat=>L3.D.int (0+(i:Int))) (λ_=>true) (λ_=>.bl true) (xs:=List.range (r.length - 1)) (Y:=[none,#v[.tup (Nd r)]]) #[none,rfl] (by
  rintro k d Y ⟨a,rfl⟩
  rw[List.mem_range] at d
  rw[Int.zero_add]
  have g1:=oJ (r:=r) (i:=k) (by omega)
  have g2:aC (.tup (Nd r)) (.int ((k:Int)+1))=#v[.int (el r (k+1))]:=by
   have:=oJ (r:=r) (i:=k+1) (by omega)
   rw[Int.natCast_add] at this
   exact this
  have hl:ltI (.int (el r k)) (.int (el r (k+1)))=#v[.bl true]:=by
   have:=h.at (show k < k+1 by omega) (by omega)
   simp[dF];omega
  exact #[[#v[.int (k:Int)],#v[.tup (Nd r)]],_,rfl,rfl,(λh=>by cases h),λ_=>#[.val (.bl true) .z,[#v[.int (k:Int)],#v[.tup (Nd r)]],(.bl true,.z),_,aw (aw (af rfl) (af rfl) rfl rfl g1) (aw (af rfl) (aw (af rfl) i_c rfl rfl rfl) rfl rfl g2) rfl rfl hl,rfl,rfl,_,rfl]])
 rw[FU.mpr (λ_ _=>rfl)] at f
 have j:dA [.int (((Nd r).length:Int) - 1)]=some (aJ 0 (r.length - 1)):=cH (by first | (simp;done) | (simp;omega)) (by first | (simp;done) | (simp;omega))
 have g:df [#v[.tup (Nd r)],#v[.int (n:Int)]]=some (.ok (.val (.lst ((List.range (r.length - 1)).map λ_=>.bl true)) .u),[#v[.tup (Nd r)],#v[.int (n:Int)]]):=aH (rs:=[]) (Z1:=[#v[.tup (Nd r)],#v[.int (n:Int)]]) (ds:=aJ 0 (r.length - 1)) (by (repeat' (first | with_reducible apply bZ (h3:=j) | infer_instance | eq_refl))) f (by rw[aQ];omega) rfl
 have a2:=m9 (λ_:Nat=>true) (List.range (r.length - 1))
 rw[List.all_eq_true.mpr (λ_ _=>rfl)] at a2
 apply aK (Z:=[#v[.tup (Nd r)],#v[.int (n:Int)]]) rfl rfl
 .apply ak (Z1:=[#v[.tup (Nd r)],#v[.int (n:Int)]])
  .apply b7
   .apply kj (b:=false)
    .nofun
    .rfl
    .exact io (bG (aG (ae e1 au) rfl a1) rfl)
   .rfl
   .rfl
  .exact bF (aG (ae g au) rfl a2) rfl
 .rfl
theorem cut3 {xs:List L3.D} {a:Nat} (b:a+3<=xs.length):slD (.tup xs) (some (a:Int)) (some ((a:Int)+3))=#v[.tup ((xs.drop a).take 3)]:=by
 have e:fu xs (some (a:Int)) (some ((a:Int)+3))=(xs.drop a).take 3:=by
  unfold fu
  rw[show ((a:Int)+3)=((a+3:Nat):Int) by omega,HT.sIx_nat,HT.sIx_nat]
  by_cases h:a+3<=xs.length
  .rw[show min a xs.length=a by omega,show min (a+3) xs.length=a+3 by omega,show a+3 - a=3 by omega]
  .lia
 show some ((.tup (fu xs (some (a:Int)) (some ((a:Int)+3))),.z):L3.D×Fl)=_
 rw[e]
theorem wM {r:List Nat} {a:Nat} (h:a+3<=r.length):((Nd r).drop a).take 3=[.int (el r a),.int (el r (a+1)),.int (el r (a+2))]:=by
 have e:∀ i,i < r.length->(Nd r)[i]?=some (.int (el r i)):=λi hi=>zB hi
 have l:(Nd r).length=r.length:=by simp
 apply List.ext_getElem?
 intro i
 rw[List.getElem?_take,List.getElem?_drop]
 match i with
 | 0=>simpa using e a (by omega)
 | 1=>simpa using e (a+1) (by omega)
 | 2=>simpa using e (a+2) (by omega)
 | i+3=>simp;omega
def rb (s:Sg) (row:List Nat) (way:Int):Bool:=(List.range (row.length - 2)).all λa=>decide (s.f (el row a) (el row (a+1)) (el row (a+2))=way)
set_option tactic.hygienic true in
theorem C7 {s:Sg} {T:List (List Key×L3.D)} (hT:jD s T) {row:List Nat} (h:Ris s.length row) (hn:s.length<=24) {way:Int}:fM [(.dt T,.u),(.tup (Nd row),.z),(.int way,.z)]=some (.ok (.bl (rb s row way),.z),[(.dt T,.u),(.tup (Nd row),.z),(.int way,.z)]):=by
 have m:=h.len
 have l:(Nd row).length=row.length:=by simp
 obtain ⟨Y',e,a,rfl⟩:=aR (bnd:=ao 0) (c:=b9) (elt:=eQ) (λY=>∃ a,Y=[a,#v[.int way],some (.dt T,.u),#v[.tup (Nd row)]]) (λi:Nat=>L3.D.int (0+(i:Int))) (λ_=>true) (λa=>.bl (decide (s.f (el row a) (el row (a+1)) (el row (a+2))=way))) (xs:=List.range (row.length - 2)) (Y:=[none,#v[.int way],some (.dt T,.u),#v[.tup (Nd row)]]) #[none,rfl] (by
  rintro k d Y ⟨a,rfl⟩
  rw[List.mem_range] at d
  rw[Int.zero_add]
  have c:=cut3 (xs:=Nd row) (a:=k) (by omega)
  rw[wM (by omega)] at c
  have g:=z5 (hT (el row k) (el row (k+1)) (el row (k+2)) (h.at (by omega) (by omega)) (h.at (by omega) (by omega)) (h.lt _ (dG (by omega))))
  have q:eqX (.int (s.f (el row k) (el row (k+1)) (el row (k+2)))) (.int way)=#v[.bl (decide (s.f (el row k) (el row (k+1)) (el row (k+2))=way))]:=rfl
  refine #[[#v[.int (k:Int)],#v[.int way],some (.dt T,.u),#v[.tup (Nd row)]],_,rfl,rfl,(λh=>by cases h),λ_=>#[.val (.bl _) .z,[#v[.int (k:Int)],#v[.int way],some (.dt T,.u),#v[.tup (Nd row)]],(.bl _,.z),_,?_,rfl,rfl,_,rfl]]
  unfold eQ
  (exists c,g,q))
 rw[FU.mpr (λ_ _=>rfl)] at e
 have j:dA [.int (((Nd row).length:Int) - 2)]=some (aJ 0 (row.length - 2)):=cH (by omega) (by omega)
 have b:iU [some (.dt T,.u),#v[.tup (Nd row)],#v[.int way]]=some (.ok (.val (.lst ((List.range (row.length - 2)).map λa=>.bl (decide (s.f (el row a) (el row (a+1)) (el row (a+2))=way)))) .u),[some (.dt T,.u),#v[.tup (Nd row)],#v[.int way]]):=aH (rs:=[]) (Z1:=[some (.dt T,.u),#v[.tup (Nd row)],#v[.int way]]) (ds:=aJ 0 (row.length - 2)) (by (repeat' (first | with_reducible apply bZ (h3:=j) | infer_instance | eq_refl))) e (by rw[aQ];omega) rfl
 have al:=m9 (λa=>decide (s.f (el row a) (el row (a+1)) (el row (a+2))=way)) (List.range (row.length - 2))
 apply aK (Z:=[some (.dt T,.u),#v[.tup (Nd row)],#v[.int way]]) rfl rfl
 .exact bF (aG (ae b au) rfl al) rfl
 .rfl
def sd (s:Sg) (a:Nat) (mid:List Nat) (z:Nat) (way:Int):List Nat:=[a]++mid.filter (λp=>decide (s.f a p z=way))++[z]
theorem BA (a z:Nat) (mid:List Nat):slD (.tup (Nd ([a]++mid++[z]))) (some 1) (some (-1))=#v[.tup (Nd mid)]:=by
 have e:fu (Nd ([a]++mid++[z])) (some 1) (some (-1))=Nd mid:=by
  unfold fu
  have l:(Nd ([a]++mid++[z])).length=mid.length+2:=by simp
  rw[l]
  have h1:HT.sIx (mid.length+2) 0 (some 1)=1:=by
   have:=HT.sIx_nat (mid.length+2) 0 1
   rw[show min 1 (mid.length+2)=1 by omega] at this
   exact this
  have h2:HT.sIx (mid.length+2) (mid.length+2) (some (-1))=mid.length+1:=by
   unfold HT.sIx
   simp
   lia
  rw[h1,h2]
  simp
 show some ((.tup (fu (Nd ([a]++mid++[z])) (some 1) (some (-1))),.z):L3.D×Fl)=_
 rw[e]
theorem c4 {n a z:Nat} {mid:List Nat} (h:Ris n ([a]++mid++[z])):z < n/\a < z/\∀ x∈mid,a < x/\x < z:=by
 have p:=h.up
 rw[List.pairwise_append] at p
 obtain ⟨d,_,e⟩:=p
 have c:∀ x∈[a]++mid,x < z:=λx b=>e x b z (by simp)
 rw[List.singleton_append,List.pairwise_cons] at d
 exact #[h.lt z (by simp),c a (by simp),λx b=>#[d.1 x b,c x (by simp[b])]]
theorem fN {s:Sg} {a z:Nat} {mid:List Nat} {way:Int} (h:Ris s.length ([a]++mid++[z])):Ris s.length (sd s a mid z way) :=
 h.sub (((List.Sublist.refl [a]).append List.filter_sublist).append (List.Sublist.refl [z]))
theorem mo {s:Sg} {T:List (List Key×L3.D)} (hT:jD s T) {a z:Nat} {mid:List Nat} (h:Ris s.length ([a]++mid++[z])) (hn:s.length<=24) {way:Int}:cR [(.dt T,.u),(.tup (Nd ([a]++mid++[z])),.z),(.int way,.z)]=some (.ok (.tup (Nd (sd s a mid z way)),.z),[(.dt T,.u),(.tup (Nd ([a]++mid++[z])),.z),(.int way,.z)]):=by
 obtain ⟨hz,B,hm⟩:=c4 h
 have w:=h.len
 have k:mid.length<=24:=by simp at w;omega
 have fl:(mid.filter λp=>decide (s.f a p z=way)).length<=24:=FR (List.length_filter_le _ _) k
 have t:=BA a z mid
 have l:aC (.tup (Nd ([a]++mid++[z]))) (.int 0)=#v[.int a]:=eL (m8 (i:=0) (by simp))
 have g1:aC (.tup (Nd ([a]++mid++[z]))) (.int (-1))=#v[.int z]:=eL (uW (by simp))
 obtain ⟨Y',e,v,rfl⟩:=aR (bnd:=ao 0) (c:=dN) (elt:=fP) (λY=>∃ v,Y=[v,#v[.int way],some (.dt T,.u),#v[.int a],#v[.int z]]) (λi:Nat=>L3.D.int (i:Int)) (λp=>decide (s.f a p z=way)) (λi:Nat=>L3.D.int (i:Int)) (xs:=mid) (Y:=[none,#v[.int way],some (.dt T,.u),#v[.int a],#v[.int z]]) #[none,rfl] (by
  rintro x j Y ⟨v,rfl⟩
  have g:=z5 (hT a x z (hm x j).1 (hm x j).2 hz)
  have q:eqX (.int (trn s a x z)) (.int way)=#v[.bl (decide (s.f a x z=way))]:=rfl
  refine #[[#v[.int (x:Int)],#v[.int way],some (.dt T,.u),#v[.int a],#v[.int z]],[#v[.int (x:Int)],#v[.int way],some (.dt T,.u),#v[.int a],#v[.int z]],rfl,?_,λ_=>#[_,rfl],λ_=>#[_,_,(.int (x:Int),.z),[#v[.int (x:Int)],#v[.int way],some (.dt T,.u),#v[.int a],#v[.int z]],af rfl,rfl,rfl,_,rfl]]
  unfold dN
  (exists g,q))
 have b:(Nd mid).length < 16777216:=by rw[Fh];omega
 have d:Nd (sd s a mid z way)=([.int a]++Nd (mid.filter λp=>decide (s.f a p z=way)))++[.int z]:=by simp[sd]
 rw[d]
 generalize G:mid.filter (λp=>decide (s.f a p z=way))=F at *
 have r:ba (.tup [.int a]) (.tup (Nd F))=#v[.tup ([.int a]++Nd F)]:=lY (by simp;omega)
 have k2:ba (.tup ([.int a]++Nd F)) (.tup [.int z])=#v[.tup (([.int a]++Nd F)++[.int z])]:=lY (by simp;omega)
 have C:l6 [.lst (Nd F)]=#v[.tup (Nd F)]:=rfl
 generalize E:L3.D.tup (Nd ([a]++mid++[z]))=R at *
 generalize n:Nd mid=M at *
 have y:bf (ao 0) dN fP M [none,#v[.int way],some (.dt T,.u),#v[.int a],#v[.int z]]=some (.ok (Nd F),[v,#v[.int way],some (.dt T,.u),#v[.int a],#v[.int z]]):=by rw[<- n];exact e
 have m:jz [some (.dt T,.u),#v[R],#v[.int way],#v[.int a],#v[.int z]]=some (.ok (.val (.lst (Nd F)) .u),[some (.dt T,.u),#v[R],#v[.int way],#v[.int a],#v[.int z]]):=aH (rs:=[.val (.tup M) .z]) (Z1:=[some (.dt T,.u),#v[R],#v[.int way],#v[.int a],#v[.int z]]) (by (exists t)) y b rfl
 apply aK (Z:=[some (.dt T,.u),#v[R],#v[.int way],none,none]) (Z1:=[some (.dt T,.u),#v[R],#v[.int way],#v[.int a],#v[.int z]]) rfl rfl
 .unfold mJ
  apply ak (Z1:=[some (.dt T,.u),#v[R],#v[.int way],#v[.int a],none])
  .exists l
  apply ak (Z1:=[some (.dt T,.u),#v[R],#v[.int way],#v[.int a],#v[.int z]])
  .exists g1
  .have o:(ig (aa (ac 3) aj)) [some (.dt T,.u),#v[R],#v[.int way],#v[.int a],#v[.int z]]=some (.ok (.val (.tup [.int a]) .z),[some (.dt T,.u),#v[R],#v[.int way],#v[.int a],#v[.int z]]):=by (nofun)
   have A:(ig (aa (ac 4) aj)) [some (.dt T,.u),#v[R],#v[.int way],#v[.int a],#v[.int z]]=some (.ok (.val (.tup [.int z]) .z),[some (.dt T,.u),#v[R],#v[.int way],#v[.int a],#v[.int z]]):=by (nofun)
   exact bF (aw (aw o (aG (ae m au) rfl C) rfl rfl r) A rfl rfl k2) rfl
 .rfl
def d5 (s:Sg) (a:Nat) (mid:List Nat) (z:Nat):Bool:=rb s (sd s a mid z 1) 1 && rb s (sd s a mid z (-1)) (-1)
theorem xc {s:Sg} {T:List (List Key×L3.D)} (hT:jD s T) {a z:Nat} {mid:List Nat} (h:Ris s.length ([a]++mid++[z])) (h3:mid≠[]) (hn:s.length<=24):bO [(.dt T,.u),(.tup (Nd ([a]++mid++[z])),.z),(.int (s.length:Int),.z)]=some (.ok (.bl (d5 s a mid z),.z),[(.dt T,.u),(.tup (Nd ([a]++mid++[z])),.z),(.int (s.length:Int),.z)]):=by
 have i:=tM h hn
 have j:=h.len
 have f:∀ way:Int,cK [#v[.int way],some (.dt T,.u),#v[.tup (Nd ([a]++mid++[z]))]]=some (.ok (.val (.bl (rb s (sd s a mid z way) way)) .z),[#v[.int way],some (.dt T,.u),#v[.tup (Nd ([a]++mid++[z]))]]):=λway=>by
  have e1:=mo (way:=way) hT h hn
  have d:=C7 (way:=way) hT (fN (way:=way) h) hn
  generalize L3.D.tup (Nd ([a]++mid++[z]))=R at *
  generalize L3.D.tup (Nd (sd s a mid z way))=R2 at *
  unfold cK
  nomatch [d,e1]
 have hl:ltI (.int ((Nd ([a]++mid++[z])).length:Int)) (.int 3)=#v[.bl false]:=by
  have:0 < mid.length:=List.length_pos_iff.mpr h3
  simp[dF];omega
 have ln:bC [.tup (Nd ([a]++mid++[z]))]=#v[.int ((Nd ([a]++mid++[z])).length:Int)]:=rfl
 generalize ((Nd ([a]++mid++[z])).length:Int)=N at *
 generalize L3.D.tup (Nd ([a]++mid++[z]))=R at *
 obtain ⟨Y',e,v,rfl⟩:=aR (bnd:=ao 0) (c:=b9) (elt:=cK) (λY=>∃ v,Y=[v,some (.dt T,.u),#v[R]]) L3.D.int (λ_=>true) (λway=>.bl (rb s (sd s a mid z way) way)) (xs:=[1,-1]) (Y:=[none,some (.dt T,.u),#v[R]]) #[none,rfl] (by
  rintro way hw Y ⟨v,rfl⟩
  exact #[[#v[.int way],some (.dt T,.u),#v[R]],_,rfl,rfl,(λh=>by cases h),λ_=>#[_,[#v[.int way],some (.dt T,.u),#v[R]],(.bl _,.z),_,f way,rfl,rfl,_,rfl]])
 rw[FU.mpr (λ_ _=>rfl)] at e
 have d:iB [some (.dt T,.u),#v[R],#v[.int (s.length:Int)]]=some (.ok (.val (.lst ([1,-1].map λway=>.bl (rb s (sd s a mid z way) way))) .u),[some (.dt T,.u),#v[R],#v[.int (s.length:Int)]]):=aH (rs:=[.val (.tup [.int 1,.int (-1)]) .z]) (Z1:=[some (.dt T,.u),#v[R],#v[.int (s.length:Int)]]) (by (nofun)) e (by decide) rfl
 have al:=m9 (λway=>rb s (sd s a mid z way) way) [1,-1]
 have g:[1,-1].all (λway=>rb s (sd s a mid z way) way)=d5 s a mid z:=by simp[d5]
 rw[g] at al
 generalize L3.D.int (s.length:Int)=LN at *
 apply aK (Z:=[some (.dt T,.u),#v[R],#v[LN]]) rfl rfl
 .apply ak (Z1:=[some (.dt T,.u),#v[R],#v[LN]])
  .refine b7 (b:=false) (kj (b:=false) (Z1:=[some (.dt T,.u),#v[R],#v[LN]]) ?_ rfl ?_) rfl rfl
   .exact io (bG (aq i (ae (af rfl) (ae (af rfl) au)) rfl rfl rfl) rfl)
   .exists ln,hl
  .exact bF (aG (ae d au) rfl al) rfl
 .rfl
def isR (s:Sg) (r:List Nat):Bool:=if 3<=r.length then d5 s (r.headD 0) (r.tail.dropLast) (r.getLastD 0) else false
theorem kN (s:Sg) {a z:Nat} {mid:List Nat} (h3:mid≠[]):isR s ([a]++mid++[z])=d5 s a mid z:=by
 have:0 < mid.length:=List.length_pos_iff.mpr h3
 unfold isR
 rw[if_pos (by simp;omega)]
 have e1:([a]++mid++[z]).getLastD 0=z:=by
  rw[List.getLastD_eq_getLast?,List.getLast?_append]
  rfl
 rw[e1]
 simp
theorem jp (s:Sg) {r:List Nat} (h:r.length < 3):isR s r=false:=if_neg (by omega)
theorem f9 {r:List Nat} (h:3<=r.length):∃ a mid z,r=[a]++mid++[z]/\mid≠[]:=by
 match r,h with
 | a::b::c::t,_ =>
  refine #[a,(b::c::t).dropLast,(b::c::t).getLast (by simp),?_,?_]
  .rw[List.append_assoc,List.dropLast_concat_getLast];rfl
  .simp
theorem tN {ps:List Pt} (g:GoodSh ps) {T:List (List Key×L3.D)} (hT:jD (sgn ps) T) {r:List Nat} (h:Ris ps.length r):bO [(.dt T,.u),(.tup (Nd r),.z),(.int (ps.length:Int),.z)]=some (.ok (.bl (isR (sgn ps) r),.z),[(.dt T,.u),(.tup (Nd r),.z),(.int (ps.length:Int),.z)]):=by
 have d:=g.most
 by_cases h3:3<=r.length
 .obtain ⟨a,mid,z,rfl,hm⟩:=f9 h3
  rw[kN _ hm]
  exact xc hT h hm (show ps.length<=24 by omega)
 .rw[jp _ (by omega)]
  have e:=h.len
  have c:=tM h (by omega)
  have hl:ltI (.int ((Nd r).length:Int)) (.int 3)=#v[.bl true]:=by simp[dF];omega
  have ln:bC [.tup (Nd r)]=#v[.int ((Nd r).length:Int)]:=rfl
  generalize ((Nd r).length:Int)=N at *
  generalize L3.D.tup (Nd r)=R at *
  generalize L3.D.int (ps.length:Int)=LN at *
  .apply aK (Z:=[some (.dt T,.u),#v[R],#v[LN]]) (Z1:=[some (.dt T,.u),#v[R],#v[LN]]) rfl rfl
   .unfold kc
    refine mh (lu (b:=true) (kj (b:=false) (Z1:=[some (.dt T,.u),#v[R],#v[LN]]) ?_ rfl ?_) rfl (bF i_c rfl))
    .exact io (bG (aq c (ae (af rfl) (ae (af rfl) au)) rfl rfl rfl) rfl)
    .exists ln,hl
   .rfl
def lx:Nat->Nat->List (List Nat)
 | 0,_=>[[]]
 | k+1,a=>[]::((lx k (a+1)).map (λr=>a::r)++(lx k (a+1)).tail)
abbrev Pl (l:List (List Nat)):List L3.D:=l.map λp=>L3.D.tup (Nd p)
theorem yn:∀ (k a:Nat),∀ r∈lx k a,r.Pairwise (· < ·)/\∀ x∈r,a<=x/\x < a+k
 | 0,a,r,h=>by
  rcases FJ.mp h with rfl
  exact #[.nil,λx b=>by cases b]
 | k+1,a,r,h=>by
  rcases Fc.mp h with rfl | h
  .exact #[.nil,λx b=>by cases b]
  rcases Ff.mp h with h | h
  .obtain ⟨q,c,rfl⟩:=Fo.mp h
   obtain ⟨h1,h2⟩:=yn k (a+1) q c
   refine #[List.pairwise_cons.mpr #[λx b=>?_,h1],λx b=>?_]
   .have:=h2 x b;lia
   .rcases Fc.mp b with rfl | b
    .lia
    .have:=h2 x b;lia
  .obtain ⟨h1,h2⟩:=yn k (a+1) r (List.mem_of_mem_tail h)
   exact #[h1,λx b=>by have:=h2 x b;lia]
theorem mM {n:Nat} {r:List Nat} (h:r∈lx n 0):Ris n r:=by
 obtain ⟨h1,h2⟩:=yn n 0 r h
 exact #[h1,λx a=>by have:=h2 x a;lia]
abbrev rgs (ps:List Pt):List (List Nat):=(lx ps.length 0).filter (isR (sgn ps))
theorem yI {f c:L3.D->L3.D->Option (L3.D×Fl)} {ma mb mc:EM} {ra rb:R3} {Z Z1 Z2:Sto} {da db:L3.D} {fl:Fl} (h1:ma Z=some (.ok ra,Z1)) (h2:mb Z1=some (.ok rb,Z2)) (h3:der ra Z2=some (.ok da,Z2)) (b:der rb Z2=some (.ok db,Z2)) (a:f da db=some (.bl false,fl)):ff f c ma mb mc Z=some (.ok (.val (.bl false) .z),Z2):=by
 simp only[ff,ag,h1,h2,h3,b,a,bm,Option.bind_some,asB,FH,FK,if_false]
 rfl
theorem o8:∀ r:List Nat,bM (Nd r)=some (r.map λx:Nat=>(x:Int))
 | []=>rfl
 | x::r=>by
  have a:=o8 r
  simp[bM] at a ⊢
  exact a
theorem B9 {α:Type} (f:α->Int):∀ l:List α,∃ qs,mw (l.map λx=>L3.D.int (f x))=some qs/\PyData.canLayAll0 qs=true/\PyData.depthAll qs<=10/\qs.length=l.length
 | []=>#[[],rfl,rfl,by decide,rfl]
 | x::l=>by
  obtain ⟨qs,e1,a,c,b⟩:=B9 f l
  refine #[.int (f x)::qs,?_,?_,?_,?_]
  .show (match pyD (.int (f x)),mw (l.map λx=>L3.D.int (f x)) with | some p,some ps=>some (p::ps) | _,_=>none)=_
   rw[e1];rfl
  .simp[PyData.canLayAll0,PyData.canLay0,a]
  .simp[PyData.depthAll,PyData.depth];lia
  .simp[b]
theorem fR (ps:List Pt):bC [Shd ps]=#v[.int (ps.length:Int)]:=by simp[sM,c1]
theorem Ba (n:Int) {m:Nat} (h:0 < m):∃ x:Nat,x < m/\n % (m:Int)=(x:Int):=by
 have:=eE n (m:Int) (by omega)
 exact #[(n % (m:Int)).toNat,by omega,by omega]
structure Sgn (s:Sg):Prop where
 pm:∀ i j k,s.f i j k=1\/s.f i j k = -1
 ax:∀ i j k l,i < j->j < k->k < l->l < s.length->(s.f i j k=s.f i j l/\s.f i j l=s.f i k l)\/(s.f i j k=s.f i j l/\s.f i k l=s.f j k l)\/(s.f i j l=s.f i k l/\s.f i k l=s.f j k l)
theorem mV {R:List Nat} {x:Nat} (h:x∈R):∃ i,i < R.length/\el R i=x:=by
 obtain ⟨i,hi,e⟩:=List.mem_iff_getElem.mp h
 have:=mW hi
 rw[Fd hi] at this
 exact #[i,hi,(FY this).symm.trans e]
theorem yC {n:Nat} {R:List Nat} (h:Ris n R) {i j:Nat} (hi:i < R.length) (a:j < R.length) (hl:el R i < el R j):i < j:=by
 rcases Nat.lt_trichotomy i j with q | q | q
 .exact q
 .subst q;omega
 .have:=h.at q hi;omega
variable {s:Sg}
theorem j4 (G:Sgn s) {R:List Nat} (h:Ris s.length R) {w:Int} (a:rb s R w=true):∀ d i j k,i < j->j < k->k < R.length->k<=i+d->s.f (el R i) (el R j) (el R k)=w
 | 0,i,j,k,h1,h2,h3,h4=>by omega
 | d+1,i,j,k,h1,h2,h3,h4=>by
  have lt:∀ x,x < R.length->el R x < s.length:=λx b=>h.lt _ (dG b)
  by_cases c1:j=i+1
  .subst c1
   by_cases c2:k=i+2
   .subst c2
    have:=List.all_eq_true.mp a i (List.mem_range.mpr (by omega))
    exact of_decide_eq_true this
   .have a1:=j4 G h a d i (i+1) (k - 1) (by omega) (by omega) (by omega) (by omega)
    have a2:=j4 G h a d (i+1) (k - 1) k (by omega) (by omega) h3 (by omega)
    have:=G.ax (el R i) (el R (i+1)) (el R (k - 1)) (el R k) (h.at (by omega) (by omega)) (h.at (by omega) (by omega)) (h.at (by omega) h3) (lt k h3)
    lia
  .have a1:=j4 G h a d i (i+1) j (by omega) (by omega) (by omega) (by omega)
   have a2:=j4 G h a d (i+1) j k (by omega) h2 h3 (by omega)
   have:=G.ax (el R i) (el R (i+1)) (el R j) (el R k) (h.at (by omega) (by omega)) (h.at (by omega) (by omega)) (h.at h2 h3) (lt k h3)
   lia
theorem j3 (G:Sgn s) {R:List Nat} (h:Ris s.length R) {w:Int} (e:rb s R w=true) {x y z:Nat} (c:x∈R) (d:y∈R) (hz:z∈R) (h1:x < y) (h2:y < z):s.f x y z=w:=by
 obtain ⟨i,hi,rfl⟩:=mV c
 obtain ⟨j,a,rfl⟩:=mV d
 obtain ⟨k,b,rfl⟩:=mV hz
 exact j4 G h e k i j k (yC h hi a h1) (yC h a b h2) b (by omega)
theorem sd_mem {a z y:Nat} {mid:List Nat} {w:Int}:y∈sd s a mid z w ↔ y=a\/(y∈mid/\s.f a y z=w)\/y=z:=by
 simp[sd]
theorem xw (G:Sgn s) {a z:Nat} {mid:List Nat} (h:Ris s.length ([a]++mid++[z])) (n:d5 s a mid z=true) {x y v:Nat} (b:x∈[a]++mid++[z]) (d:y∈mid) (c:v∈[a]++mid++[z]) (h1:x < y) (h2:y < v):s.f x y v=s.f a y z:=by
 obtain ⟨hz,_,hm⟩:=c4 h
 unfold d5 at n
 rw[Bool.and_eq_true] at n
 have p:x=a\/x∈mid:=by
  simp at b
  rcases b with q | q | q
  .exact .inl q
  .exact .inr q
  .have:=hm y d;omega
 have k:v∈mid\/v=z:=by
  simp at c
  rcases c with q | q | q
  .have:=hm y d;omega
  .exact .inl q
  .exact .inr q
 have row:∀ w,(w=1\/w = -1)->∀ x y v,x∈sd s a mid z w->y∈sd s a mid z w->v∈sd s a mid z w->x < y->y < v->s.f x y v=w:=λw hw x y v u t A l m=>by
  rcases hw with rfl | rfl
  .exact j3 G (fN h) n.1 u t A l m
  .exact j3 G (fN h) n.2 u t A l m
 have i:∀ x y,(x=a\/x∈mid)->y∈mid->x < y->s.f x y z=s.f a y z:=λx y b d q=>by
  rcases b with rfl | b
  .rfl
  .have o:=hm x b
   have j:=hm y d
   have B:=G.pm a x z
   have p2:=G.pm a y z
   by_cases e:s.f a x z=s.f a y z
   .exact row _ (G.pm a y z) x y z (sd_mem.mpr (.inr (.inl #[b,e]))) (sd_mem.mpr (.inr (.inl #[d,rfl]))) (sd_mem.mpr (.inr (.inr rfl))) q j.2
   .have:=G.ax a x y z o.1 q j.2 hz
    have:=G.pm x y z
    lia
 have g:∀ y v,y∈mid->(v∈mid\/v=z)->y < v->s.f a y v=s.f a y z:=λy v d c q=>by
  rcases c with c | rfl
  .have r:=hm v c
   have j:=hm y d
   have B:=G.pm a v z
   have p2:=G.pm a y z
   by_cases e:s.f a v z=s.f a y z
   .exact row _ (G.pm a y z) a y v (sd_mem.mpr (.inl rfl)) (sd_mem.mpr (.inr (.inl #[d,rfl]))) (sd_mem.mpr (.inr (.inl #[c,e]))) j.1 q
   .have:=G.ax a y v z j.1 q r.2 hz
    have:=G.pm a y v
    lia
  .rfl
 have j:=hm y d
 clear b c
 rcases p with rfl | b
 .exact g y v d k h2
 rcases k with c | rfl
 .have o:=hm x b
  have r:=hm v c
  by_cases e1:s.f a x z=s.f a y z
  .by_cases C:s.f a v z=s.f a y z
   .exact row _ (G.pm a y z) x y v (sd_mem.mpr (.inr (.inl #[b,e1]))) (sd_mem.mpr (.inr (.inl #[d,rfl]))) (sd_mem.mpr (.inr (.inl #[c,C]))) h1 h2
   .have l:=i x y (.inr b) d h1
    have m:=i x v (.inr b) c (by omega)
    have:=G.ax x y v z h1 h2 r.2 hz
    have:=G.pm x y v
    have:=G.pm a y z
    have:=G.pm a v z
    lia
  .have l:=g x v b (.inl c) (by omega)
   have m:=g y v d (.inl c) h2
   have:=G.ax a x y v o.1 h1 h2 (by omega)
   have:=G.pm x y v
   have:=G.pm a y z
   have:=G.pm a x z
   lia
 .exact i x y (.inr b) d h1
variable {s:Sg}
def jN (s:Sg) (R:List Nat) (p:Nat) (w:Int):Bool:=((List.range (R.length - 1)).filter λi=>decide (el R i < p) && decide (p < el R (i+1))).all λi=>decide (s.f (el R i) p (el R (i+1))=w)
theorem yT {R:List Nat} {p:Nat} {w:Int}:jN s R p w=true ↔ ∀ i,i+1 < R.length->el R i < p->p < el R (i+1)->s.f (el R i) p (el R (i+1))=w:=by
 unfold jN
 rw[List.all_eq_true]
 constructor
 .intro h i h1 h2 h3
  exact of_decide_eq_true (h i (FL.mpr #[List.mem_range.mpr (by omega),by simp[h2,h3]]))
 .intro h i hi
  obtain ⟨b,a⟩:=FL.mp hi
  rw[Bool.and_eq_true] at a
  rw[List.mem_range] at b
  exact Fw (h i (by omega) (of_decide_eq_true a.1) (of_decide_eq_true a.2))
theorem apart {n:Nat} {R:List Nat} (h:Ris n R) {i:Nat} (hi:i+1 < R.length):∀ q∈R,q<=el R i\/el R (i+1)<=q:=λq b=>by
 obtain ⟨j,a,rfl⟩:=mV b
 rcases Nat.lt_trichotomy j i with c | c | c
 .exact .inl (Nat.le_of_lt (h.at c (by omega)))
 .subst c;exact .inl (Fq _)
 .rcases Nat.lt_or_ge (i+1) j with e | e
  .exact .inr (Nat.le_of_lt (h.at e a))
  .have:j=i+1:=by omega
   subst this
   exact .inr (Fq _)
set_option tactic.hygienic true in
theorem qc {s:Sg} {T:List (List Key×L3.D)} (hT:jD s T) {R:List Nat} (h:Ris s.length R) (hn:s.length<=24) {p:Nat} {w:Int}:bo [(.dt T,.u),(.tup (Nd R),.z),(.int (p:Int),.z),(.int w,.z)]=some (.ok (.bl (jN s R p w),.z),[(.dt T,.u),(.tup (Nd R),.z),(.int (p:Int),.z),(.int w,.z)]):=by
 have m:=h.len
 obtain ⟨Y',e,v,rfl⟩:=aR (bnd:=ao 0) (c:=c9) (elt:=c8) (λY=>∃ v,Y=[v,#v[.int w],some (.dt T,.u),#v[.int (p:Int)],#v[.tup (Nd R)]]) (λi:Nat=>L3.D.int (0+(i:Int))) (λi=>decide (el R i < p) && decide (p < el R (i+1))) (λi=>.bl (decide (s.f (el R i) p (el R (i+1))=w))) (xs:=List.range (R.length - 1)) (Y:=[none,#v[.int w],some (.dt T,.u),#v[.int (p:Int)],#v[.tup (Nd R)]]) #[none,rfl] (by
  rintro i hi Y ⟨v,rfl⟩
  rw[List.mem_range] at hi
  rw[Int.zero_add]
  have g1:=oJ (r:=R) (i:=i) (by omega)
  have g2:aC (.tup (Nd R)) (.int ((i:Int)+1))=#v[.int (el R (i+1))]:=by
   have:=oJ (r:=R) (i:=i+1) (by omega)
   rw[Int.natCast_add] at this
   exact this
  have ad:ba (.int (i:Int)) (.int 1)=#v[.int ((i:Int)+1)]:=rfl
  have e1:el R i < s.length:=h.lt _ (dG (by omega))
  have j:el R (i+1) < s.length:=h.lt _ (dG (by omega))
  have hg:el R i < p->p < el R (i+1)->aC (.dt T) (.tup [.int (el R i),.int p,.int (el R (i+1))])=#v[.int (trn s (el R i) p (el R (i+1)))]:=λa b=>z5 (hT _ _ _ a b j)
  have q:eqX (.int (trn s (el R i) p (el R (i+1)))) (.int w)=#v[.bl (decide (s.f (el R i) p (el R (i+1))=w))]:=rfl
  generalize n:decide (s.f (el R i) p (el R (i+1))=w)=b at *
  generalize trn s (el R i) p (el R (i+1))=t at *
  have d:ltI (.int (el R i)) (.int p)=#v[.bl (decide (el R i < p))]:=by simp[dF]
  have k:ltI (.int p) (.int (el R (i+1)))=#v[.bl (decide (p < el R (i+1)))]:=by simp[dF]
  generalize el R i=x at *
  generalize el R (i+1)=y at *
  generalize L3.D.tup (Nd R)=RR at *
  refine #[[#v[.int (i:Int)],#v[.int w],some (.dt T,.u),#v[.int (p:Int)],#v[RR]],[#v[.int (i:Int)],#v[.int w],some (.dt T,.u),#v[.int (p:Int)],#v[RR]],rfl,?_,λ_=>#[_,rfl],λg=>?_]
  .unfold c9
   by_cases c:x < p
   .rw[Fw c] at d ⊢
    rw[Bool.true_and]
    exact bG (lV (aw (af rfl) (af rfl) rfl rfl g1) (af rfl) rfl rfl d (aw (af rfl) (aw (af rfl) i_c rfl rfl ad) rfl rfl g2) rfl rfl k) rfl
   .rw[Fy c] at d ⊢
    rw[Bool.false_and]
    exact bG (yI (aw (af rfl) (af rfl) rfl rfl g1) (af rfl) rfl rfl d) rfl
  .rw[Bool.and_eq_true] at g
   have hg:=hg (of_decide_eq_true g.1) (of_decide_eq_true g.2)
   refine #[.val (.bl b) .z,[#v[.int (i:Int)],#v[.int w],some (.dt T,.u),#v[.int (p:Int)],#v[RR]],(.bl b,.z),[#v[.int (i:Int)],#v[.int w],some (.dt T,.u),#v[.int (p:Int)],#v[RR]],?_,rfl,rfl,_,rfl]
   unfold c8
   (exists g1,g2,ad,hg,q))
 have l:dA [.int (((Nd R).length:Int) - 1)]=some (aJ 0 (R.length - 1)):=cH (by first | (simp;done) | (simp;omega)) (by first | (simp;done) | (simp;omega))
 have j:fI [some (.dt T,.u),#v[.tup (Nd R)],#v[.int (p:Int)],#v[.int w]]=some (.ok (.val (.lst (((List.range (R.length - 1)).filter λi=>decide (el R i < p) && decide (p < el R (i+1))).map λi=>.bl (decide (s.f (el R i) p (el R (i+1))=w)))) .u),[some (.dt T,.u),#v[.tup (Nd R)],#v[.int (p:Int)],#v[.int w]]):=aH (rs:=[]) (Z1:=[some (.dt T,.u),#v[.tup (Nd R)],#v[.int (p:Int)],#v[.int w]]) (ds:=aJ 0 (R.length - 1)) (by (repeat' (first | with_reducible apply bZ (h3:=l) | infer_instance | eq_refl))) e (by rw[aQ];omega) rfl
 have a2:=m9 (λi=>decide (s.f (el R i) p (el R (i+1))=w)) ((List.range (R.length - 1)).filter λi=>decide (el R i < p) && decide (p < el R (i+1)))
 apply aK (Z:=[some (.dt T,.u),#v[.tup (Nd R)],#v[.int (p:Int)],#v[.int w]]) rfl rfl
 .exact bF (aG (ae j au) rfl a2) rfl
 .rfl
theorem in_Nd {p:Nat} {r:List Nat}:decide ((p:Int)∈r.map λx:Nat=>(x:Int))=decide (p∈r):=by
 rw[decide_eq_decide]
 constructor
 .intro h
  obtain ⟨x,a,e⟩:=Fo.mp h
  rw[<- Int.ofNat.inj e];exact a
 .exact λh=>Fo.mpr #[p,h,rfl]
theorem Cd (p:Nat) (r:List Nat):A8 (.int (p:Int)) (.tup (Nd r))=#v[.bl (!decide (p∈r))]:=by
 show (bM (Nd r)).map _=_
 rw[o8,<- in_Nd]
 rfl
def bw (a z:Nat):List Nat:=(List.range (z - (a+1))).map λi=>a+1+i
def wl (s:Sg) (a:Nat) (mid:List Nat) (z:Nat):List Nat:=(((bw a z).filter λp=>!decide (p∈[a]++mid++[z])).filter λp=>jN s (sd s a mid z 1) p (-1)).filter λp=>jN s (sd s a mid z (-1)) p 1
set_option tactic.hygienic true in
theorem xg {s:Sg} {T:List (List Key×L3.D)} (hT:jD s T) {a z:Nat} {mid:List Nat} (h:Ris s.length ([a]++mid++[z])) (hn:s.length<=24):bt [(.dt T,.u),(.tup (Nd ([a]++mid++[z])),.z)]=some (.ok (.lst (Nd (wl s a mid z)),.u),[(.dt T,.u),(.tup (Nd ([a]++mid++[z])),.z)]):=by
 obtain ⟨hz,A,hm⟩:=c4 h
 have s1:=mo hT h hn (way:=1)
 have s2:=mo hT h hn (way:=-1)
 have bl:(bw a z).length<=24:=by simp[bw];omega
 have b1:((bw a z).filter λp=>!decide (p∈[a]++mid++[z])).length<=24:=FR (List.length_filter_le _ _) bl
 have b2:(((bw a z).filter λp=>!decide (p∈[a]++mid++[z])).filter λp=>jN s (sd s a mid z 1) p (-1)).length<=24:=FR (List.length_filter_le _ _) b1
 have e:aC (.tup (Nd ([a]++mid++[z]))) (.int 0)=#v[.int a]:=eL (m8 (i:=0) (by simp))
 have q:aC (.tup (Nd ([a]++mid++[z]))) (.int (-1))=#v[.int z]:=eL (uW (by simp))
 have ad:ba (.int (a:Int)) (.int 1)=#v[.int ((a:Int)+1)]:=rfl
 have d:cN [.int ((a:Int)+1),.int (z:Int)]=some (aJ ((a:Int)+1) (z - (a+1))):=c0 (by omega) (by omega) (by omega)
 have r:aJ ((a:Int)+1) (z - (a+1))=(bw a z).map λi:Nat=>L3.D.int (i:Int):=by
  unfold aJ bw
  rw[FW]
  exact FX λi _=>by simp[Int.natCast_add]
 rw[r] at d
 have m:∀ p:Nat,bo [(.dt T,.u),(.tup (Nd (sd s a mid z 1)),.z),(.int (p:Int),.z),(.int (-1),.z)]=_:=λp=>qc hT (fN h) hn
 have o:∀ p:Nat,bo [(.dt T,.u),(.tup (Nd (sd s a mid z (-1))),.z),(.int (p:Int),.z),(.int 1,.z)]=_:=λp=>qc hT (fN h) hn
 have t:∀ p:Nat,A8 (.int (p:Int)) (.tup (Nd ([a]++mid++[z])))=_:=λp=>Cd p ([a]++mid++[z])
 unfold wl
 generalize L3.D.tup (Nd ([a]++mid++[z]))=R at *
 generalize L3.D.tup (Nd (sd s a mid z 1))=W1 at *
 generalize L3.D.tup (Nd (sd s a mid z (-1)))=W2 at *
 generalize bw a z=B at *
 obtain ⟨Y1,e1,v1,rfl⟩:=aR (bnd:=ao 0) (c:=eZ) (elt:=eW) (λY=>∃ v,Y=[v,#v[R]]) (λi:Nat=>L3.D.int (i:Int)) (λp=>!decide (p∈[a]++mid++[z])) (λi:Nat=>L3.D.int (i:Int)) (xs:=B) (Y:=[none,#v[R]]) #[none,rfl] (by
  rintro p k Y ⟨v,rfl⟩
  have n:=t p
  exact #[[#v[.int (p:Int)],#v[R]],[#v[.int (p:Int)],#v[R]],rfl,bG (aw (af rfl) (af rfl) rfl rfl n) rfl,λ_=>#[_,rfl],λ_=>#[_,_,(.int (p:Int),.z),[#v[.int (p:Int)],#v[R]],af rfl,rfl,rfl,_,rfl]])
 have w:eT [some (.dt T,.u),#v[R],#v[W1],#v[W2],none,none]=some (.ok (.val (.lst (Nd (B.filter λp=>!decide (p∈[a]++mid++[z])))) .u),[some (.dt T,.u),#v[R],#v[W1],#v[W2],none,none]):=aH (rs:=[]) (Z1:=[some (.dt T,.u),#v[R],#v[W1],#v[W2],none,none]) (ds:=B.map λi:Nat=>L3.D.int (i:Int)) (by (repeat' (first | with_reducible apply bZ (h3:=d) | infer_instance | exact e | exact q | exact ad | eq_refl))) e1 (by rw[Fh];omega) rfl
 generalize (B.filter λp=>!decide (p∈[a]++mid++[z]))=B1 at *
 obtain ⟨Y2,j,v2,rfl⟩:=aR (bnd:=ao 0) (c:=eY) (elt:=eV) (λY=>∃ v,Y=[v,some (.dt T,.u),#v[W1]]) (λi:Nat=>L3.D.int (i:Int)) (λp=>jN s (sd s a mid z 1) p (-1)) (λi:Nat=>L3.D.int (i:Int)) (xs:=B1) (Y:=[none,some (.dt T,.u),#v[W1]]) #[none,rfl] (by
  rintro p k Y ⟨v,rfl⟩
  have f:=m p
  generalize jN s (sd s a mid z 1) p (-1)=b at *
  exact #[[#v[.int (p:Int)],some (.dt T,.u),#v[W1]],[#v[.int (p:Int)],some (.dt T,.u),#v[W1]],rfl,bG (aq f (ae (af rfl) (ae (af rfl) (ae (af rfl) (ae i_c au)))) rfl rfl rfl) rfl,λ_=>#[_,rfl],λ_=>#[_,_,(.int (p:Int),.z),[#v[.int (p:Int)],some (.dt T,.u),#v[W1]],af rfl,rfl,rfl,_,rfl]])
 have y:eS [some (.dt T,.u),#v[R],#v[W1],#v[W2],some (.lst (Nd B1),.u),none]=some (.ok (.val (.lst (Nd (B1.filter λp=>jN s (sd s a mid z 1) p (-1)))) .u),[some (.dt T,.u),#v[R],#v[W1],#v[W2],some (.lst (Nd B1),.u),none]):=aH (rs:=[.pl 4]) (Z1:=[some (.dt T,.u),#v[R],#v[W1],#v[W2],some (.lst (Nd B1),.u),none]) (Z2:=[some (.dt T,.u),#v[R],#v[W1],#v[W2],some (.lst (Nd B1),.l),none]) rfl j (by rw[Fh];omega) rfl
 generalize (B1.filter λp=>jN s (sd s a mid z 1) p (-1))=B2 at *
 obtain ⟨Y3,g,v3,rfl⟩:=aR (bnd:=ao 0) (c:=eX) (elt:=eU) (λY=>∃ v,Y=[v,some (.dt T,.u),#v[W2]]) (λi:Nat=>L3.D.int (i:Int)) (λp=>jN s (sd s a mid z (-1)) p 1) (λi:Nat=>L3.D.int (i:Int)) (xs:=B2) (Y:=[none,some (.dt T,.u),#v[W2]]) #[none,rfl] (by
  rintro p k Y ⟨v,rfl⟩
  have f:=o p
  generalize jN s (sd s a mid z (-1)) p 1=b at *
  exact #[[#v[.int (p:Int)],some (.dt T,.u),#v[W2]],[#v[.int (p:Int)],some (.dt T,.u),#v[W2]],rfl,bG (aq f (ae (af rfl) (ae (af rfl) (ae (af rfl) (ae i_c au)))) rfl rfl rfl) rfl,λ_=>#[_,rfl],λ_=>#[_,_,(.int (p:Int),.z),[#v[.int (p:Int)],some (.dt T,.u),#v[W2]],af rfl,rfl,rfl,_,rfl]])
 have x:eR [some (.dt T,.u),#v[R],#v[W1],#v[W2],some (.lst (Nd B1),.u),some (.lst (Nd B2),.u)]=some (.ok (.val (.lst (Nd (B2.filter λp=>jN s (sd s a mid z (-1)) p 1))) .u),[some (.dt T,.u),#v[R],#v[W1],#v[W2],some (.lst (Nd B1),.u),some (.lst (Nd B2),.u)]):=aH (rs:=[.pl 5]) (Z1:=[some (.dt T,.u),#v[R],#v[W1],#v[W2],some (.lst (Nd B1),.u),some (.lst (Nd B2),.u)]) (Z2:=[some (.dt T,.u),#v[R],#v[W1],#v[W2],some (.lst (Nd B1),.u),some (.lst (Nd B2),.l)]) rfl g (by rw[Fh];omega) rfl
 generalize (B2.filter λp=>jN s (sd s a mid z (-1)) p 1)=B3 at *
 clear e1 j g m o t d r e q ad
 apply aK (Z:=[some (.dt T,.u),#v[R],none,none,none,none]) (Z1:=[some (.dt T,.u),#v[R],#v[W1],#v[W2],some (.lst (Nd B1),.u),some (.lst (Nd B2),.u)]) rfl rfl
 .unfold iA
  apply ak (Z1:=[some (.dt T,.u),#v[R],#v[W1],none,none,none])
  .nomatch [s1]
  apply ak (Z1:=[some (.dt T,.u),#v[R],#v[W1],#v[W2],none,none])
  .nomatch [s2]
  apply ak (Z1:=[some (.dt T,.u),#v[R],#v[W1],#v[W2],some (.lst (Nd B1),.u),none])
  .exact bP w rfl (Nat.le_of_ble_eq_true rfl) rfl
  apply ak (Z1:=[some (.dt T,.u),#v[R],#v[W1],#v[W2],some (.lst (Nd B1),.u),some (.lst (Nd B2),.u)])
  .exact bP y rfl (Nat.le_of_ble_eq_true rfl) rfl
  .exact bF x rfl
 .rfl
theorem so {b B s:Int} (a:0 < b) (e:b * B=s) (c:0 < s):0 < B:=by
 rcases Int.lt_or_le 0 B with h | h
 .exact h
 .have:=Int.mul_le_mul_of_nonneg_left h (Int.le_of_lt a)
  rw[Int.mul_zero] at this
  lia
theorem o0 {b B s:Int} (a:0 < b) (e:b * B=s) (c:s<=0):¬ 0 < B:=λh=>by
 have:=Int.mul_pos a h
 lia
theorem o3 {u v A C:Int} (hu:0 < u) (a:0 < v) (hA:0 < A) (b:0 < C):0 < u * A+v * C:=by
 have h1:=Int.mul_pos hu hA
 have h2:=Int.mul_pos a b
 lia
theorem mF {u v A C:Int} (hu:0 < u) (a:0 < v) (hA:¬ 0 < A) (b:¬ 0 < C):u * A+v * C<=0:=by
 have h1:=Int.mul_le_mul_of_nonneg_left (show A<=0 by omega) (Int.le_of_lt hu)
 have h2:=Int.mul_le_mul_of_nonneg_left (show C<=0 by omega) (Int.le_of_lt a)
 rw[Int.mul_zero] at h1 h2
 lia
theorem quad1 (h i j k:Pt):(j.1 - h.1) * aU h i k=(k.1 - h.1) * aU h i j+(i.1 - h.1) * aU h j k:=by
 simp only[aU];grind
theorem quad2 (h i j k:Pt):(k.1 - i.1) * aU h j k=(k.1 - h.1) * aU i j k+(k.1 - j.1) * aU h i k:=by
 simp only[aU];grind
theorem quad3 (h i j k:Pt):(j.1 - i.1) * aU h i k=(k.1 - i.1) * aU h i j+(i.1 - h.1) * aU i j k:=by
 simp only[aU];grind
theorem Cs {ps:List Pt} (g:GoodSh ps) {i j:Nat} (h:i < j) (a:j < ps.length):(fq ps i).1 < (fq ps j).1:=g.rising i j _ _ h (j6 (by omega)) (j6 a)
theorem kG {ps:List Pt} (g:GoodSh ps):Sgn (sgn ps):=by
 refine #[λi j k=>?_,λi j k l h1 h2 h3 m=>?_]
 .show cb _ _ _=1\/cb _ _ _ = -1
  unfold cb
  split
  .exact .inl rfl
  .exact .inr rfl
 .have v:=Cs g h1 (show j < ps.length by have:l < ps.length:=m;omega)
  have t:=Cs g h2 (show k < ps.length by have:l < ps.length:=m;omega)
  have u:=Cs g h3 m
  show (cb _ _ _=cb _ _ _/\cb _ _ _=cb _ _ _)\/(cb _ _ _=cb _ _ _/\cb _ _ _=cb _ _ _)\/(cb _ _ _=cb _ _ _/\cb _ _ _=cb _ _ _)
  generalize fq ps i=h at *
  generalize fq ps j=i at *
  generalize fq ps k=j at *
  generalize fq ps l=k at *
  have n:=quad1 h i j k
  have s:=quad2 h i j k
  have r:=quad3 h i j k
  have q:0 < j.1 - h.1:=by omega
  have p2:0 < k.1 - h.1:=by omega
  have e:0 < i.1 - h.1:=by omega
  have f:0 < k.1 - i.1:=by omega
  have p:0 < k.1 - j.1:=by omega
  have o:0 < j.1 - i.1:=by omega
  unfold cb
  generalize aU h i j=A at *
  generalize aU h i k=B at *
  generalize aU h j k=C at *
  generalize aU i j k=D at *
  by_cases a:0 < A <;> by_cases b:0 < B <;> by_cases c:0 < C <;> by_cases d:0 < D <;> simp only[a,b,c,d,if_true,if_false] <;> first
   | decide
   | exact absurd (so q n (o3 p2 e a c)) b
   | exact absurd b (o0 q n (mF p2 e a c))
   | exact absurd (so f s (o3 p2 p d b)) c
   | exact absurd c (o0 f s (mF p2 p d b))
   | exact absurd (so o r (o3 f e a d)) b
   | exact absurd b (o0 o r (mF f e a d))
theorem ja {r:List Nat} {q:List Nat} {a:Nat} (h:a < r.length):el (r++q) a=el r a:=by
 simp[el,List.getD,FN h]
theorem pq {r:List Nat} {q:List Nat} {a:Nat}:el (r++q) (r.length+a)=el q a:=by
 unfold el List.getD
 rw[List.getElem?_append_right (by omega),show r.length+a - r.length=a by omega]
theorem t6 {s:Sg} {q:List Nat} {h i j:Nat} {w:Int}:rb s ((q++[h,i])++[j]) w=(rb s (q++[h,i]) w && decide (s.f h i j=w)):=by
 unfold rb
 have e:((q++[h,i])++[j]).length - 2=q.length+1:=by simp
 have d:(q++[h,i]).length - 2=q.length:=by simp
 rw[e,d,List.range_succ,List.all_append]
 congr 1
 .rw[Bool.eq_iff_iff,List.all_eq_true,List.all_eq_true]
  constructor <;> intro z a b <;> have g:=z a b <;> rw[List.mem_range] at b <;>
   have h0:a+2 < (q++[h,i]).length:=by simp;omega
  .rwa [ja (r:=q++[h,i]) (by omega),ja (r:=q++[h,i]) (by omega),ja (r:=q++[h,i]) h0] at g
  .rwa [ja (r:=q++[h,i]) (by omega),ja (r:=q++[h,i]) (by omega),ja (r:=q++[h,i]) h0]
 .have k:el ((q++[h,i])++[j]) q.length=h:=by
   rw[ja (by simp)]
   have:=pq (r:=q) (q:=[h,i]) (a:=0)
   exact this
  have e1:el ((q++[h,i])++[j]) (q.length+1)=i:=by
   rw[ja (by simp)]
   exact pq (r:=q) (q:=[h,i]) (a:=1)
  have c:el ((q++[h,i])++[j]) (q.length+2)=j:=by
   have:=pq (r:=q++[h,i]) (q:=[j]) (a:=0)
   rwa [show (q++[h,i]).length+0=q.length+2 by simp] at this
  rw[List.all_cons,List.all_nil,Bool.and_true,k,e1,c]
def fD (s:Sg) (w:Int) (f:Nat):Nat->Nat->Nat->List (List Nat)
 | 0,i,j=>if i=f then [[i,j]] else []
 | m+1,i,j=>(if i=f then [[i,j]] else [])++(List.range i).flatMap λh=>if decide (f<=h) && decide (s.f h i j=w) then (fD s w f m h i).map (·++[j]) else []
structure RowI (s:Sg) (w:Int) (f i j:Nat) (r:List Nat):Prop where
 e:∃ q,r=q++[i,j]
 up:r.Pairwise (· < ·)
 hd:r.head?=some f
 b:rb s r w=true
theorem Dq (s:Sg) (w:Int) (i j:Nat):rb s [i,j] w=true:=rfl
set_option tactic.hygienic true in
theorem cS {s:Sg} {w:Int} {f:Nat}:∀ {m i j:Nat},i<=m->i < j->∀ {r:List Nat},r∈fD s w f m i j ↔ RowI s w f i j r:=by
 have base:∀ {i j:Nat} {r:List Nat},i < j->r∈(if i=f then [[i,j]] else [])->RowI s w f i j r:=by
  intro i j r d p
  split at p
  .rename_i e
   rw[FJ] at p
   subst p e
   exact #[#[[],rfl],by simp[d],rfl,Dq s w _ _]
  .cases p
 intro m
 induction m with
 | zero =>
  intro i j hi d r
  have v:i=0:=by omega
  constructor
  .intro h;exact base d h
  .rintro ⟨⟨q,rfl⟩,up,hd,b⟩
   have z:q=[]:=by
    cases q with
    | nil=>rfl
    | cons a q =>
     rw[List.cons_append,List.pairwise_cons] at up
     have:=up.1 i (by simp)
     lia
   subst z
   have:i=f:=by simpa using hd
   show _∈(if i=f then _ else _)
   rw[if_pos this]
   simp
 | succ m ih =>
  intro i j hi d r
  show r∈(if i=f then [[i,j]] else [])++_ ↔ _
  rw[Ff]
  constructor
  .rintro (h | h)
   .exact base d h
   .obtain ⟨k,u,h⟩:=FV.mp h
    rw[List.mem_range] at u
    split at h
    .rename_i c
     simp only[Bool.and_eq_true,decide_eq_true_eq] at c
     obtain ⟨B,t,rfl⟩:=Fo.mp h
     obtain ⟨⟨q,rfl⟩,up,hd,b⟩:=(ih (by omega) u).mp t
     refine #[#[q++[k],by simp],?_,?_,?_]
     .rw[List.pairwise_append]
      refine #[up,by simp,λx o y A=>?_]
      rw[FJ.mp A]
      have l:=up
      rw[List.pairwise_append] at l
      rcases Ff.mp o with o | o
      .have:=l.2.2 x o i (by simp)
       lia
      .simp at o;omega
     .rw[List.head?_append,hd];rfl
     .rw[t6,b,c.2];simp
    .cases h
  .rintro ⟨⟨q,rfl⟩,up,hd,b⟩
   rcases List.eq_nil_or_concat q with rfl | ⟨q,k,rfl⟩
   .left
    have:i=f:=by simpa using hd
    rw[if_pos this]
    simp
   .right
    have e:(q++[k])++[i,j]=(q++[k,i])++[j]:=by simp
    rw[List.concat_eq_append,e] at up hd b ⊢
    rw[t6,Bool.and_eq_true,decide_eq_true_eq] at b
    rw[List.pairwise_append] at up
    have up1:=up.1
    rw[List.pairwise_append] at up1
    have n:k < i:=by
     have:=up1.2.1
     simp at this
     exact this
    have g:(q++[k,i]).head?=some f:=by
     rw[List.head?_append] at hd
     cases q with
     | nil=>simpa using hd
     | cons a q=>simpa using hd
    have hf:f<=k:=by
     cases q with
     | nil =>
      have:k=f:=by simpa using g
      lia
     | cons a q =>
      have:a=f:=by simpa using g
      subst this
      have:=up1.2.2 a (by simp) k (by simp)
      lia
    refine FV.mpr #[k,List.mem_range.mpr n,?_]
    rw[if_pos (by simp[hf,b.2])]
    exact Fo.mpr #[_,(ih (by omega) n).mpr #[#[q,rfl],up.1,g,b.1],rfl]
set_option tactic.hygienic true in
theorem qy {s:Sg} {w:Int} {f:Nat}:∀ {m i j:Nat},i<=m->i < j->(fD s w f m i j).Nodup:=by
 intro m
 induction m with
 | zero =>
  intro i j _ _
  show (if i=f then [[i,j]] else []).Nodup
  split <;> simp
 | succ m ih =>
  intro i j hi C
  show ((if i=f then [[i,j]] else [])++_).Nodup
  rw[List.nodup_append]
  refine #[by split <;> simp,?_,?_]
  .unfold List.Nodup
   rw[List.pairwise_flatMap]
   refine #[λk n=>?_,?_]
   .rw[List.mem_range] at n
    split
    .exact List.Pairwise.map _ (λa b h e=>h (List.append_cancel_right e)) (ih (by omega) n)
    .exact List.Pairwise.nil
   .refine List.Pairwise.imp_of_mem (λ{a b} r t h=>?_) List.nodup_range
    rw[List.mem_range] at r t
    intro x g y d e
    subst e
    split at g
    .split at d
     .obtain ⟨p,E,e1⟩:=Fo.mp g
      obtain ⟨q,D,B⟩:=Fo.mp d
      have z:=List.append_cancel_right (e1.trans B.symm)
      subst z
      obtain ⟨⟨u,A⟩,_⟩:=(cS (by omega) r).mp E
      obtain ⟨⟨v,F⟩,_⟩:=(cS (by omega) t).mp D
      have o:=A.symm.trans F
      have l:u.length=v.length:=by
       have:=congrArg List.length o
       simpa using this
      have:=(List.append_inj o l).2
      simp at this
      exact h this
     .cases d
    .cases g
  .intro x g y d e
   subst e
   split at g
   .rename_i G
    obtain ⟨k,n,d⟩:=FV.mp d
    rw[List.mem_range] at n
    split at d
    .rename_i c
     simp only[Bool.and_eq_true,decide_eq_true_eq] at c
     lia
    .cases d
   .cases g
theorem cL:∀ {a b:List Nat},a.Pairwise (· < ·)->b.Pairwise (· < ·)->(∀ x,x∈a ↔ x∈b)->a=b
 | [],[],_,_,_=>rfl
 | [],y::b,_,_,h=>absurd ((h y).mpr E5) (by simp)
 | x::a,[],_,_,h=>absurd ((h x).mp E5) (by simp)
 | x::a,y::b,ha,hb,h=>by
  rw[List.pairwise_cons] at ha hb
  have e:x=y:=by
   have h1:=(h x).mp E5
   have h2:=(h y).mpr E5
   rcases Fc.mp h1 with q | q
   .exact q
   .rcases Fc.mp h2 with p | p
    .exact p.symm
    .have:=hb.1 x q
     have:=ha.1 y p
     lia
  subst e
  congr 1
  refine cL ha.2 hb.2 λz=>?_
  constructor
  .intro hz
   rcases Fc.mp ((h z).mp (E6 _ hz)) with q | q
   .have:=ha.1 z hz;omega
   .exact q
  .intro hz
   rcases Fc.mp ((h z).mpr (E6 _ hz)) with q | q
   .have:=hb.1 z hz;omega
   .exact q
variable {s:Sg}
def av (s:Sg) (w:Int) (f z:Nat):List (List Nat):=(List.range z).flatMap λi=>if decide (f<=i) then fD s w f i i z else []
structure RowZ (s:Sg) (w:Int) (f z:Nat) (r:List Nat):Prop where
 e:∃ mid,r=[f]++mid++[z]
 up:r.Pairwise (· < ·)
 b:rb s r w=true
theorem bj {w:Int} {f z:Nat} (hfz:f < z) {r:List Nat}:r∈av s w f z ↔ RowZ s w f z r:=by
 unfold av
 rw[FV]
 constructor
 .rintro ⟨i,hi,h⟩
  rw[List.mem_range] at hi
  split at h
  .obtain ⟨⟨q,rfl⟩,up,hd,b⟩:=(cS (Fq _) hi).mp h
   refine #[?_,up,b]
   cases q with
   | nil =>
    have:i=f:=by simpa using hd
    exact #[[],by rw[this];rfl]
   | cons a q =>
    have:a=f:=by simpa using hd
    exact #[q++[i],by rw[this];simp]
  .cases h
 .rintro ⟨⟨mid,rfl⟩,up,b⟩
  rcases List.eq_nil_or_concat mid with rfl | ⟨q,i,rfl⟩
  .refine #[f,List.mem_range.mpr hfz,?_]
   rw[if_pos (by simp)]
   exact (cS (Fq _) hfz).mpr #[#[[],rfl],up,rfl,b]
  .rw[List.concat_eq_append] at *
   have e:[f]++(q++[i])++[z]=(f::q)++[i,z]:=by simp
   rw[e] at up b ⊢
   have c:i < z:=by
    rw[List.pairwise_append] at up
    have:=up.2.1
    simpa using this
   have d:f<=i:=by
    rw[List.pairwise_append] at up
    have:=up.2.2 f (by simp) i (by simp)
    lia
   refine #[i,List.mem_range.mpr c,?_]
   rw[if_pos (by simpa using d)]
   exact (cS (Fq _) c).mpr #[#[f::q,rfl],up,rfl,b]
theorem j7 {w:Int} {f z:Nat}:(av s w f z).Nodup:=by
 unfold av List.Nodup
 rw[List.pairwise_flatMap]
 refine #[λk i=>?_,?_]
 .rw[List.mem_range] at i
  split
  .exact qy (Fq _) i
  .exact List.Pairwise.nil
 .refine List.Pairwise.imp_of_mem (λ{a b} j m h=>?_) List.nodup_range
  rw[List.mem_range] at j m
  intro x c y d e
  subst e
  split at c
  .split at d
   .obtain ⟨⟨u,n⟩,_⟩:=(cS (Fq _) j).mp c
    obtain ⟨⟨v,o⟩,_⟩:=(cS (Fq _) m).mp d
    have g:=n.symm.trans o
    have l:u.length=v.length:=by
     have:=congrArg List.length g
     simpa using this
    have:=(List.append_inj g l).2
    simp at this
    exact h this
   .cases d
  .cases c
theorem RowZ.ris {w:Int} {f z:Nat} {r:List Nat} (h:RowZ s w f z r) (hz:z < s.length):Ris s.length r:=⟨h.up,λx a=>by
 obtain ⟨mid,rfl⟩:=h.e
 have up:=h.up
 rw[List.pairwise_append] at up
 rcases Ff.mp a with a | a
 .have:=up.2.2 x a z (by simp)
  lia
 .rw[FJ.mp a];exact hz⟩
def mg (n:Nat) (L U:List Nat):List Nat:=(List.range n).filter λx=>decide (x∈L) || decide (x∈U)
theorem ug (n:Nat) (L U:List Nat):(mg n L U).Pairwise (· < ·):=(List.pairwise_lt_range).filter _
theorem yg {n:Nat} {L U:List Nat} (a:∀ x∈L,x < n) (hU:∀ x∈U,x < n) {x:Nat}:x∈mg n L U ↔ x∈L\/x∈U:=by
 unfold mg
 rw[FL,List.mem_range,Bool.or_eq_true,decide_eq_true_eq,decide_eq_true_eq]
 exact #[λh=>h.2,λh=>#[h.elim (a x) (hU x),h]]
theorem gb (G:Sgn s) {f z:Nat} (hfz:f < z) (hz:z < s.length) {L U:List Nat} (g:RowZ s 1 f z L) (hU:RowZ s (-1) f z U):∃ mid,mg s.length L U=[f]++mid++[z]/\sd s f mid z 1=L/\sd s f mid z (-1)=U/\d5 s f mid z=true/\(mg s.length L U).length+2=L.length+U.length:=by
 have m:=g.ris hz
 have rU:=hU.ris hz
 obtain ⟨a,u⟩:=g.e
 obtain ⟨b,t⟩:=hU.e
 have B:=λ{x:Nat}=>yg (n:=s.length) (L:=L) (U:=U) (x:=x) m.lt rU.lt
 have F:∀ x∈L,f<=x/\x<=z:=by
  intro x c
  have h:=m
  rw[u] at h c
  obtain ⟨_,_,hm⟩:=c4 h
  simp at c
  rcases c with rfl | c | rfl
  .lia
  .have:=hm x c;omega
  .lia
 have E:∀ x∈U,f<=x/\x<=z:=by
  intro x c
  have h:=rU
  rw[t] at h c
  obtain ⟨_,_,hm⟩:=c4 h
  simp at c
  rcases c with rfl | c | rfl
  .lia
  .have:=hm x c;omega
  .lia
 have q:f∈L:=by rw[u];simp
 have v:z∈L:=by rw[u];simp
 have I:f∈U:=by rw[t];simp
 have H:z∈U:=by rw[t];simp
 have A:∀ x∈L,f < x->x < z->s.f f x z=1:=λx c h1 h2=>j3 G m g.b q c v h1 h2
 have C:∀ x∈U,f < x->x < z->s.f f x z = -1:=λx c h1 h2=>j3 G rU hU.b I c H h1 h2
 let mid:=(mg s.length L U).filter λx=>decide (f < x) && decide (x < z)
 have d:∀ {x},x∈mid ↔ (x∈L\/x∈U)/\f < x/\x < z:=by
  intro x
  show x∈(mg s.length L U).filter _ ↔ _
  rw[FL,B,Bool.and_eq_true,decide_eq_true_eq,decide_eq_true_eq]
 have k:mid.Pairwise (· < ·):=(ug _ _ _).filter _
 have r:∀ {l:List Nat},l.Pairwise (· < ·)->(∀ x∈l,f < x/\x < z)->([f]++l++[z]).Pairwise (· < ·):=by
  intro l hl D
  rw[List.pairwise_append,List.pairwise_append]
  refine #[#[by simp,hl,λx c y w=>by rw[FJ.mp c];exact (D y w).1],by simp,λx c y w=>?_]
  rw[FJ.mp w]
  simp at c
  rcases c with rfl | c
  .exact hfz
  .exact (D x c).2
 have e1:mg s.length L U=[f]++mid++[z]:=by
  refine cL (ug _ _ _) (r k λx c=>(d.mp c).2) λx=>?_
  rw[B]
  simp only[Ff,FJ]
  rw[d]
  constructor
  .intro h
   have o:f<=x/\x<=z:=h.elim (F x) (E x)
   by_cases h1:x=f
   .exact .inl (.inl h1)
   .by_cases h2:x=z
    .exact .inr h2
    .exact .inl (.inr #[h,by omega,by omega])
  .rintro ((rfl | h) | rfl)
   .exact .inl q
   .exact h.1
   .exact .inl v
 have j:sd s f mid z 1=L:=by
  refine cL (r (k.filter _) λx c=>(d.mp (FL.mp c).1).2) g.up λx=>?_
  rw[sd_mem,d]
  constructor
  .rintro (rfl | ⟨⟨h | h,h1,h2⟩,h3⟩ | rfl)
   .exact q
   .exact h
   .have:=C x h h1 h2;omega
   .exact v
  .intro h
   have:=F x h
   by_cases h1:x=f
   .exact .inl h1
   .by_cases h2:x=z
    .exact .inr (.inr h2)
    .exact .inr (.inl #[#[.inl h,by omega,by omega],A x h (by omega) (by omega)])
 have i:sd s f mid z (-1)=U:=by
  refine cL (r (k.filter _) λx c=>(d.mp (FL.mp c).1).2) hU.up λx=>?_
  rw[sd_mem,d]
  constructor
  .rintro (rfl | ⟨⟨h | h,h1,h2⟩,h3⟩ | rfl)
   .exact I
   .have:=A x h h1 h2;omega
   .exact h
   .exact H
  .intro h
   have:=E x h
   by_cases h1:x=f
   .exact .inl h1
   .by_cases h2:x=z
    .exact .inr (.inr h2)
    .exact .inr (.inl #[#[.inr h,by omega,by omega],C x h (by omega) (by omega)])
 refine #[mid,e1,j,i,?_,?_]
 .unfold d5
  rw[j,i,g.b,hU.b];rfl
 .rw[e1,<- j,<- i]
  unfold sd
  have:(mid.filter λp=>decide (s.f f p z=1)).length+(mid.filter λp=>decide (s.f f p z = -1)).length=mid.length:=by
   clear e1 j i k d
   induction mid with
   | nil=>rfl
   | cons x l ih =>
    rcases G.pm f x z with h | h <;> simp[List.filter_cons,h] <;> omega
  simp only[FD,List.length_singleton]
  lia
theorem vn (G:Sgn s) {f z:Nat} {mid:List Nat} (h:Ris s.length ([f]++mid++[z])) (a:d5 s f mid z=true):RowZ s 1 f z (sd s f mid z 1)/\RowZ s (-1) f z (sd s f mid z (-1))/\mg s.length (sd s f mid z 1) (sd s f mid z (-1))=[f]++mid++[z]:=by
 unfold d5 at a
 rw[Bool.and_eq_true] at a
 have c:=fN (s:=s) (way:=1) h
 have b:=fN (s:=s) (way:=-1) h
 refine #[#[#[_,rfl],c.up,a.1],#[#[_,rfl],b.up,a.2],cL (ug _ _ _) h.up λx=>?_]
 rw[yg c.lt b.lt,sd_mem,sd_mem]
 simp only[Ff,FJ]
 constructor
 .rintro ((h | h | h) | (h | h | h))
  .exact .inl (.inl h)
  .exact .inl (.inr h.1)
  .exact .inr h
  .exact .inl (.inl h)
  .exact .inl (.inr h.1)
  .exact .inr h
 .rintro ((h | h) | h)
  .exact .inl (.inl h)
  .rcases G.pm f x z with p | p
   .exact .inl (.inr (.inl #[h,p]))
   .exact .inr (.inr (.inl #[h,p]))
  .exact .inl (.inr (.inr h))
theorem lx_hd:∀ (k a:Nat),∃ l,lx k a=[]::l
 | 0,_=>#[[],rfl]
 | _+1,_=>#[_,rfl]
theorem kJ:∀ (k a:Nat) (r:List Nat),r.Pairwise (· < ·)->(∀ x∈r,a<=x/\x < a+k)->r∈lx k a
 | 0,a,[],_,_=>FJ.mpr rfl
 | 0,a,x::r,_,h=>by have:=h x E5;lia
 | k+1,a,[],_,_=>E5
 | k+1,a,x::r,hp,h=>by
  refine E6 _ (Ff.mpr ?_)
  have d:=h x E5
  obtain ⟨c,p2⟩:=List.pairwise_cons.mp hp
  by_cases e:x=a
  .subst e
   exact .inl (Fo.mpr #[r,kJ k (x+1) r p2 λy b=>by have:=c y b;have:=h y (E6 _ b);lia,rfl])
  .have:=kJ k (a+1) (x::r) hp λy b=>by
    have:=h y b
    rcases Fc.mp b with rfl | b
    .lia
    .have:=c y b;lia
   obtain ⟨l,hl⟩:=lx_hd k (a+1)
   rw[hl] at this ⊢
   rcases Fc.mp this with h | h
   .cases h
   .exact .inr h
theorem kg:∀ n:Nat,n<=7->(lx n 0).Nodup
 | 0,_=>by decide +kernel
 | 1,_=>by decide +kernel
 | 2,_=>by decide +kernel
 | 3,_=>by decide +kernel
 | 4,_=>by decide +kernel
 | 5,_=>by decide +kernel
 | 6,_=>by decide +kernel
 | 7,_=>by decide +kernel
 | n+8,h=>absurd h (by omega)
variable {s:Sg}
def prR (s:Sg) (m f z:Nat):List (List Nat):=(av s 1 f z).flatMap λL=>((av s (-1) f z).filter λU=>decide (L.length+U.length=m+2)).map λU=>mg s.length L U
def zu (s:Sg) (m:Nat):List (List Nat):=(List.range s.length).flatMap λf=>(List.range s.length).flatMap λz=>if decide (f < z) then prR s m f z else []
structure PrI (s:Sg) (m f z:Nat) (x:List Nat):Prop where
 h:∃ mid,x=[f]++mid++[z]/\d5 s f mid z=true
 l:x.length=m
theorem Bb (G:Sgn s) {m f z:Nat} (hfz:f < z) (hz:z < s.length) {x:List Nat} (h:x∈prR s m f z):PrI s m f z x:=by
 obtain ⟨L,a,h⟩:=FV.mp h
 obtain ⟨U,hU,rfl⟩:=Fo.mp h
 obtain ⟨hU,hl⟩:=FL.mp hU
 have hl:=of_decide_eq_true hl
 obtain ⟨mid,e1,_,_,b,c⟩:=gb G hfz hz ((bj hfz).mp a) ((bj hfz).mp hU)
 exact #[#[mid,e1,b],by omega]
theorem Ex (G:Sgn s) {m f z:Nat} (hfz:f < z) (hz:z < s.length) {mid:List Nat} (b:Ris s.length ([f]++mid++[z])) (a:d5 s f mid z=true) (hl:([f]++mid++[z]).length=m):[f]++mid++[z]∈prR s m f z:=by
 obtain ⟨h1,h2,h3⟩:=vn G b a
 obtain ⟨_,e1,_,_,_,c⟩:=gb G hfz hz h1 h2
 rw[h3] at c
 refine FV.mpr #[_,(bj hfz).mpr h1,Fo.mpr #[_,FL.mpr #[(bj hfz).mpr h2,Fw (by omega)],h3]]
theorem o4 {f z d c:Nat} {a b:List Nat} (h:[f]++a++[z]=[d]++b++[c]):f=d/\a=b/\z=c:=by
 have h1:f=d/\a++[z]=b++[c]:=by simpa using h
 have h2:=List.append_inj' h1.2 rfl
 exact #[h1.1,h2.1,by simpa using h2.2]
theorem vB (G:Sgn s) {m f z:Nat} (hfz:f < z) (hz:z < s.length):(prR s m f z).Nodup:=by
 have inj:∀ {L U L' c:List Nat},L∈av s 1 f z->U∈av s (-1) f z->L'∈av s 1 f z->c∈av s (-1) f z->mg s.length L U=mg s.length L' c->L=L'/\U=c:=by
  intro L U L' c h1 h2 h3 o e
  obtain ⟨a,a1,a2,l,_⟩:=gb G hfz hz ((bj hfz).mp h1) ((bj hfz).mp h2)
  obtain ⟨b,b1,b2,q,_⟩:=gb G hfz hz ((bj hfz).mp h3) ((bj hfz).mp o)
  obtain ⟨_,n,_⟩:=o4 (a1.symm.trans (e.trans b1))
  subst n
  exact #[a2.symm.trans b2,l.symm.trans q]
 unfold prR List.Nodup
 rw[List.pairwise_flatMap]
 refine #[λL j=>?_,?_]
 .rw[List.pairwise_map]
  refine List.Pairwise.imp_of_mem (λ{a b} d g h e=>h ?_) ((j7 (s:=s)).filter _)
  exact (inj j (FL.mp d).1 j (FL.mp g).1 e).2
 .refine List.Pairwise.imp_of_mem (λ{a b} d g h=>?_) (j7 (s:=s))
  intro x k y p e
  obtain ⟨U,hU,rfl⟩:=Fo.mp k
  obtain ⟨c,i,rfl⟩:=Fo.mp p
  exact h (inj d (FL.mp hU).1 g (FL.mp i).1 e).1
set_option tactic.hygienic true in
theorem sD (G:Sgn s) {m:Nat}:(zu s m).Nodup:=by
 unfold zu List.Nodup
 rw[List.pairwise_flatMap]
 have key:∀ {f z x},f < s.length->z < s.length->x∈(if decide (f < z) then prR s m f z else [])->∃ mid,x=[f]++mid++[z]:=by
  intro f z x hf hz d
  split at d
  .rename_i c
   obtain ⟨⟨mid,e,_⟩,_⟩:=Bb G (of_decide_eq_true c) hz d
   exact #[mid,e]
  .cases d
 refine #[λf hf=>?_,?_]
 .rw[List.mem_range] at hf
  rw[List.pairwise_flatMap]
  refine #[λz hz=>?_,?_]
  .rw[List.mem_range] at hz
   split
   .rename_i c
    exact vB G (of_decide_eq_true c) hz
   .exact List.Pairwise.nil
  .refine List.Pairwise.imp_of_mem (λ{a b} i k h=>?_) List.nodup_range
   rw[List.mem_range] at i k
   intro x d y j e
   subst e
   obtain ⟨u,e1⟩:=key hf i d
   obtain ⟨v,l⟩:=key hf k j
   exact h (o4 (e1.symm.trans l)).2.2
 .refine List.Pairwise.imp_of_mem (λ{a b} i k h=>?_) List.nodup_range
  rw[List.mem_range] at i k
  intro x d y j e
  subst e
  obtain ⟨z,hz,d⟩:=FV.mp d
  obtain ⟨n,g,j⟩:=FV.mp j
  rw[List.mem_range] at hz g
  obtain ⟨u,e1⟩:=key i hz d
  obtain ⟨v,l⟩:=key k g j
  exact h (o4 (e1.symm.trans l)).1
set_option tactic.hygienic true in
theorem sf (G:Sgn s) {m:Nat} (hm:3<=m) (h7:s.length<=7):(zu s m).Perm (((lx s.length 0).filter (isR s)).filter λr=>decide (r.length=m)):=by
 rw[List.perm_ext_iff_of_nodup (sD G) (((kg _ h7).filter _).filter _)]
 intro x
 rw[FL,FL]
 constructor
 .intro b
  obtain ⟨f,hf,b⟩:=FV.mp b
  obtain ⟨z,hz,b⟩:=FV.mp b
  rw[List.mem_range] at hf hz
  split at b
  .rename_i c
   have c:=of_decide_eq_true c
   obtain ⟨L,i,b⟩:=FV.mp b
   obtain ⟨U,hU,rfl⟩:=Fo.mp b
   obtain ⟨hU,hl⟩:=FL.mp hU
   have hl:=of_decide_eq_true hl
   obtain ⟨mid,e1,_,_,j,k⟩:=gb G c hz ((bj c).mp i) ((bj c).mp hU)
   have hlen:(mg s.length L U).length=m:=by omega
   have d:mid≠[]:=by
    rintro rfl
    rw[e1] at hlen
    simp at hlen
    lia
   refine #[#[?_,?_],Fw hlen]
   .exact kJ _ _ _ (ug _ _ _) λx b=>by
     have:=List.mem_range.mp (FL.mp b).1
     lia
   .rw[e1,kN _ d];exact j
  .cases b
 .rintro ⟨⟨b,h⟩,hl⟩
  have hl:=of_decide_eq_true hl
  have g:=mM b
  obtain ⟨a,mid,z,rfl,d⟩:=f9 (by omega:3<=x.length)
  rw[kN _ d] at h
  obtain ⟨hz,e,_⟩:=c4 g
  refine FV.mpr #[a,List.mem_range.mpr (by omega),FV.mpr #[z,List.mem_range.mpr hz,?_]]
  rw[if_pos (Fw e)]
  exact Ex G e hz g h hl
def cn (A:List (List Nat)) (p:Nat):Nat:=(A.filter λr=>decide (r.length=p)).length
theorem uQ (r:List Nat) (A:List (List Nat)) (p:Nat):cn (r::A) p=(if r.length=p then 1 else 0)+cn A p:=by
 unfold cn
 rw[List.filter_cons]
 by_cases h:r.length=p
 .rw[if_pos (by simpa using h),if_pos h,FE];omega
 .rw[if_neg (by simpa using h),if_neg h];omega
def smP (A B:List (List Nat)) (m:Nat):Nat:=((List.range (m - 1)).map λk=>cn A (2+k) * cn B (m+2 - (2+k))).sum
theorem tH {α:Type} (f g:α->Nat):∀ l:List α,(l.map λx=>f x+g x).sum=(l.map f).sum+(l.map g).sum
 | []=>rfl
 | x::l=>by
  simp only[Fv,List.sum_cons]
  rw[tH f g l];omega
theorem tG {d:Nat} (v:Nat->Nat):∀ k:Nat,((List.range k).map λx=>if d=x then v x else 0).sum=if d < k then v d else 0
 | 0=>by simp
 | k+1=>by
  rw[List.range_succ,List.map_append,List.sum_append,tG v k]
  simp only[Fv,List.map_nil,List.sum_cons,List.sum_nil,Nat.add_zero]
  by_cases h:d < k
  .rw[if_pos h,if_neg (by omega),if_pos (by omega)];omega
  .by_cases h2:d=k
   .rw[if_neg h,if_pos h2,if_pos (by omega),h2];omega
   .rw[if_neg h,if_neg h2,if_neg (by omega)]
theorem nZ {m:Nat} {B:List (List Nat)} (d:∀ r∈B,2<=r.length):∀ {A:List (List Nat)},(∀ r∈A,2<=r.length)->(A.map λL=>(B.filter λU=>decide (L.length+U.length=m+2)).length).sum=smP A B m
 | [],_=>by
  unfold smP
  have:∀ l:List Nat,(l.map λk=>cn [] (2+k) * cn B (m+2 - (2+k))).sum=0:=λl=>by
   induction l with
   | nil=>rfl
   | cons x l b=>rw[Fv,List.sum_cons,b];show 0 * _+0=0;omega
  rw[this];rfl
 | L::A,h=>by
  have b:=nZ (m:=m) d (A:=A) λr a=>h r (E6 _ a)
  have f:=h L E5
  rw[Fv,List.sum_cons,b]
  have e:smP (L::A) B m=((List.range (m - 1)).map λk=>(if L.length - 2=k then cn B (m+2 - (2+k)) else 0)+cn A (2+k) * cn B (m+2 - (2+k))).sum:=by
   unfold smP
   congr 1
   refine FX λk _=>?_
   rw[uQ,Nat.add_mul]
   congr 1
   by_cases c:L.length=2+k
   .rw[if_pos c,if_pos (by omega)];omega
   .rw[if_neg c,if_neg (by omega)];omega
  rw[e,tH,tG (λk=>cn B (m+2 - (2+k)))]
  show _+smP A B m=_+smP A B m
  congr 1
  by_cases c:L.length - 2 < m - 1
  .rw[if_pos c]
   unfold cn
   congr 1
   refine List.filter_congr λr _=>?_
   rw[decide_eq_decide]
   lia
  .rw[if_neg c,FZ,List.filter_eq_nil_iff]
   intro r a
   have:=d r a
   simp
   lia
abbrev k2 (i j:Nat):List Key:=[.inl (i:Int),.inl (j:Int)]
theorem Et {i j a b:Nat} (h:k2 i j=k2 a b):i=a/\j=b:=by
 simp only[k2,List.cons.injEq,Sum.inl.injEq,and_true] at h
 lia
theorem yP (a:List (List Key×L3.D)) (k c:List Key) (v:L3.D):gi (iG a k v) c=if c=k then some v else gi a c:=by
 unfold iG
 by_cases d:(a.any λb=>decide (b.1=k))=true
 .rw[if_pos d]
  induction a with
  | nil=>simp at d
  | cons p r ih =>
   unfold gi at *
   rw[Fv,List.find?_cons,List.find?_cons]
   by_cases h1:p.1=k
   .by_cases h2:c=k
    .simp[h1,h2]
    .have h3:¬ (k=c):=λe=>h2 e.symm
     simp only[h1,if_pos,decide_eq_true_eq,h3,decide_false,if_neg h2]
     by_cases g:(r.any λb=>decide (b.1=k))=true
     .have:=ih g
      simpa[h2] using this
     .have i:r.map (λb=>if b.1=k then (b.1,v) else b)=r:=by
       conv=>rhs;rw[<- List.map_id r]
       refine FX λx f=>?_
       have:¬ x.1=k:=λe=>g (List.any_eq_true.mpr #[x,f,Fw e])
       simp[this]
      rw[i]
   .have g:(r.any λb=>decide (b.1=k))=true:=by simpa[h1] using d
    have:=ih g
    simp only[h1,if_false]
    by_cases h:p.1=c
    .have j:¬ (c=k):=λe=>h1 (h.trans e)
     simp[h,j]
    .simp only[h,decide_false]
     exact this
 .rw[if_neg d]
  have hn:∀ x∈a,¬ x.1=k:=λx f e=>d (List.any_eq_true.mpr #[x,f,Fw e])
  unfold gi
  rw[List.find?_append]
  by_cases h2:c=k
  .subst h2
   have:a.find? (λb=>decide (b.1=c))=none:=List.find?_eq_none.mpr λx f=>by simpa using hn x f
   simp[this]
  .have h3:¬ (k=c):=λe=>h2 e.symm
   simp[h2,h3]
theorem sub2 {a:List (List Key×L3.D)} {i j:Nat} {d:L3.D} (h:gi a (k2 i j)=some d):aC (.dt a) (.tup [.int i,.int j])=#v[d]:=by
 show qU (.dt a) (.tup [.int i,.int j])=_
 show (gi a (k2 i j)).map (λd=>(d,Fl.z))=_
 rw[h];rfl
theorem set2 {a:List (List Key×L3.D)} {i j:Nat} {d:L3.D} (h:a.length < 16777216):nq (.dt a) [.tup [.int i,.int j],d]=some (.dt (iG a (k2 i j) d),.non):=by
 show (if a.length < 16777216 then some (L3.D.dt (iG a (k2 i j) d),L3.D.non) else none)=_
 rw[if_pos h]
theorem eqN {i j:Int}:eqX (.int i) (.int j)=#v[.bl (decide (i=j))]:=rfl
theorem EB {i:Nat} {mk b:EM} {Z:Sto} {xs:List L3.D} {k x y:Int} {c a:R3} {d d':L3.D} (h0:(Z[i]?).join=some (.lst xs,.u)) (h1:mk Z=some (.ok c,Z)) (h2:der c Z=some (.ok (.int k),Z)) (h3:L2.atI xs k=some (.int x)) (f:b Z=some (.ok a,Z)) (e:der a Z=some (.ok (.int y),Z)) (g:p7 (.lst xs) [.int k,.int (x+y)]=some (d,d')):qa i mk b Z=some (.ok .nx,Z.set i (some (d,.u))):=by
 simp only[qa,ag,ac,h0,FH,h1,h2,h3,f,e,g]
def lI (g:Nat->Nat):List L3.D:=(List.range 25).map λp=>.int (g p:Int)
theorem En (g:Nat->Nat):(lI g).length=25:=by simp[lI]
theorem qO {g:Nat->Nat} {p:Nat} (h:p < 25):L2.atI (lI g) (p:Int)=some (.int (g p:Int)):=m8 (by simp[lI,h])
def upN (g:Nat->Nat) (p v:Nat) (q:Nat):Nat:=if q=p then v else g q
theorem Em {g:Nat->Nat} {p v:Nat} (h:p < 25):p7 (.lst (lI g)) [.int (p:Int),.int (v:Int)]=some (.lst (lI (upN g p v)),.non):=by
 show (ixN (lI g).length (p:Int)).map _=_
 have:ixN (lI g).length (p:Int)=some p:=by
  unfold ixN
  rw[En,if_pos (by omega),if_pos (by omega)]
  rfl
 rw[this]
 show some (L3.D.lst ((lI g).set p (.int (v:Int))),L3.D.non)=_
 congr 3
 apply List.ext_getElem?
 intro q
 rw[List.getElem?_set]
 unfold lI upN
 by_cases b:p=q
 .subst b
  simp[h]
 .rw[if_neg b]
  simp only[Fp]
  by_cases a:q < 25
  .rw[List.getElem?_range a]
   simp only[FH]
   rw[if_neg (Ne.symm b)]
  .rw[List.getElem?_eq_none (by simp;omega)]
   rfl
theorem mO {g h:Nat->Nat} (e:∀ p,p < 25->g p=h p):lI g=lI h:=FX λp a=>by rw[e p (List.mem_range.mp a)]
abbrev tS' (T:List (List Key×L3.D)) (n f w:L3.D) (U:List (List Key×L3.D)) (i j t h p:Option (L3.D×Fl)):Sto:=[some (.dt T,.u),#v[n],#v[f],#v[w],some (.dt U,.u),i,j,t,h,p]
def iu (g c:Nat->Nat) (m:Nat) (q:Nat):Nat:=if 3<=q/\q < 3+m then g q+c (q - 1) else g q
section
variable {T U:List (List Key×L3.D)} {N F W:L3.D} {h i j:Nat} {g c:Nat->Nat}
theorem zw (hg:gi U (k2 h i)=some (.lst (lI c))) {v9:Option (L3.D×Fl)}:∃ a,dw (aX cN (aa (mC (.int 2)) (aa (mC (.int (24))) aj))) (ao 9) bx (tS' T N F W U #v[.int i] #v[.int j] (some (.lst (lI g),.u)) #v[.int h] v9)=some (.ok .nx,tS' T N F W U #v[.int i] #v[.int j] (some (.lst (lI (iu g c 22)),.u)) #v[.int h] a):=by
 have n:cN [.int 2,.int 24]=some (aJ 2 22):=c0 (by decide) (by decide) rfl
 have s2:aC (.dt U) (.tup [.int h,.int i])=#v[.lst (lI c)]:=sub2 hg
 obtain ⟨Z',e,a,rfl⟩:=bb (bnd:=ao 9) (b:=bx) (λm Z=>∃ a,Z=tS' T N F W U #v[.int i] #v[.int j] (some (.lst (lI (iu g c m)),.u)) #v[.int h] a) (ds:=aJ 2 22) (Z:=tS' T N F W U #v[.int i] #v[.int j] (some (.lst (lI g),.u)) #v[.int h] v9) (k:=0) #[v9,by rw[show lI (iu g c 0)=lI g from mO λp _=>by unfold iu;rw[if_neg (by omega)]]] (by
  rintro m d Z hd ⟨a,rfl⟩
  obtain ⟨hm,rfl⟩:=bv hd
  rw[FA]
  have a1:ba (.int (2+(m:Int))) (.int 1)=#v[.int (((3+m:Nat):Nat):Int)]:=by
   show some (L3.D.int (2+(m:Int)+1),Fl.z)=_
   congr 3;omega
  have t1:=qO (g:=iu g c m) (p:=3+m) (by omega)
  have l:aC (.lst (lI c)) (.int (2+(m:Int)))=#v[.int (c (2+m):Int)]:=by
   have:=qO (g:=c) (p:=2+m) (by omega)
   rw[show (((2+m:Nat):Nat):Int)=2+(m:Int) by omega] at this
   exact jU this
  have st:=Em (g:=iu g c m) (p:=3+m) (v:=iu g c m (3+m)+c (2+m)) (by omega)
  have o:lI (upN (iu g c m) (3+m) (iu g c m (3+m)+c (2+m)))=lI (iu g c (m+1)):=mO λq _=>by
   unfold upN iu
   by_cases f:q=3+m
   .subst f
    rw[if_pos rfl,if_neg (by omega),if_pos (by omega),show 3+m - 1=2+m by omega]
   .rw[if_neg f]
    by_cases h2:3<=q/\q < 3+m
    .rw[if_pos h2,if_pos (by omega)]
    .rw[if_neg h2,if_neg (by omega)]
  rw[o] at st
  rw[show (((iu g c m (3+m)+c (2+m):Nat):Nat):Int)=((iu g c m (3+m):Nat):Int)+(c (2+m):Int) by omega] at st
  have step:bx (tS' T N F W U #v[.int i] #v[.int j] (some (.lst (lI (iu g c m)),.u)) #v[.int h] #v[.int (2+(m:Int))])=some (.ok .nx,tS' T N F W U #v[.int i] #v[.int j] (some (.lst (lI (iu g c (m+1))),.u)) #v[.int h] #v[.int (2+(m:Int))]):=by
   generalize lI (iu g c (m+1))=X2 at *
   generalize lI (iu g c m)=X1 at *
   generalize lI c=XC at *
   generalize 2+(m:Int)=M at *
   unfold bx
   exact EB (i:=7) rfl (aw (af rfl) i_c rfl rfl a1) rfl t1 (aw (aw (af rfl) (cQ (ae (af rfl) (ae (af rfl) au)) rfl (Nat.le_of_ble_eq_true rfl)) rfl rfl s2) (af rfl) rfl rfl l) rfl st
  exact #[_,_,rfl,.inl step,_,rfl])
 rw[aQ,FA] at e
 exact #[a,dR (bZ (ae i_c (ae i_c au)) rfl n) rfl e]
end
theorem ze (A B:List (List Nat)) (p:Nat):cn (A++B) p=cn A p+cn B p:=by
 unfold cn;rw[List.filter_append,FD]
theorem EL (A:List (List Nat)) (j p:Nat):cn (A.map (·++[j])) (p+1)=cn A p:=by
 unfold cn
 rw[List.filter_map,Fh]
 congr 1
 refine List.filter_congr λr _=>?_
 simp
theorem BD (A:List (List Nat)) (j:Nat):cn (A.map (·++[j])) 0=0:=by
 unfold cn
 rw[FZ,List.filter_eq_nil_iff]
 intro r a
 obtain ⟨q,_,rfl⟩:=Fo.mp a
 simp
theorem EN {A:List (List Nat)} (h:∀ r∈A,2<=r.length) {p:Nat} (b:p < 2):cn A p=0:=by
 unfold cn
 rw[FZ,List.filter_eq_nil_iff]
 intro r a
 have:=h r a
 simp;omega
theorem xv {s:Sg} {w:Int} {f m i j:Nat} (hi:i<=m) (a:i < j):∀ r∈fD s w f m i j,2<=r.length:=λr b=>by
 obtain ⟨⟨q,rfl⟩,_⟩:=(cS hi a).mp b
 simp
theorem grow {A R:List (List Nat)} (j:Nat) (a:∀ r∈R,2<=r.length):lI (iu (cn A) (cn R) 22)=lI (cn (A++R.map (·++[j]))):=mO λp b=>by
 rw[ze]
 unfold iu
 cases p with
 | zero=>rw[if_neg (by omega),BD];omega
 | succ p =>
  rw[EL]
  by_cases h:3<=p+1/\p+1 < 3+22
  .rw[if_pos h];rfl
  .rw[if_neg h,EN a (by omega)];omega
theorem uC {α β:Type} {f g:α->List β}:∀ {l:List α},(∀ x∈l,f x=g x)->l.flatMap f=l.flatMap g
 | [],_=>rfl
 | x::l,h=>by rw[List.flatMap_cons,List.flatMap_cons,h x E5,uC λy a=>h y (E6 _ a)]
theorem r6 {s:Sg} {w:Int} {f:Nat}:∀ m a i j:Nat,i<=m->i<=a->fD s w f m i j=fD s w f a i j:=by
 have z:∀ a j:Nat,fD s w f 0 0 j=fD s w f a 0 j:=by
  intro a j
  cases a with
  | zero=>rfl
  | succ a=>show _=_++[];rw[List.append_nil];rfl
 intro m
 induction m with
 | zero =>
  intro a i j hi b
  have:i=0:=by omega
  subst this
  exact z a j
 | succ m ih =>
  intro a i j hi b
  cases a with
  | zero =>
   have:i=0:=by omega
   subst this
   exact (z (m+1) j).symm
  | succ a =>
   show _++_=_++_
   congr 1
   refine uC λh c=>?_
   rw[List.mem_range] at c
   rw[ih a h i (by omega) (by omega)]
abbrev rw' (s:Sg) (w:Int) (f i j:Nat):List (List Nat):=fD s w f i i j
def bs (f i j:Nat):List (List Nat):=if i=f then [[i,j]] else []
def pre (s:Sg) (w:Int) (f i j m:Nat):List (List Nat):=bs f i j++(List.range m).flatMap λd=>if decide (s.f (f+d) i j=w) then (rw' s w f (f+d) i).map (·++[j]) else []
theorem qm (s:Sg) (w:Int) (f i j m:Nat):pre s w f i j (m+1)=pre s w f i j m++(if decide (s.f (f+m) i j=w) then (rw' s w f (f+m) i).map (·++[j]) else []):=by
 unfold pre
 rw[List.range_succ,List.flatMap_append,<- List.append_assoc]
 congr 1
 simp
theorem AG {s:Sg} {w:Int} {f i j:Nat} (h:f<=i):pre s w f i j (i - f)=rw' s w f i j:=by
 unfold pre rw' bs
 cases i with
 | zero=>show _++(List.range (0 - f)).flatMap _=(if _ then _ else _);simp
 | succ i =>
  show _++_=_++_
  congr 1
  have e:List.range (i+1)=List.range f++(List.range (i+1 - f)).map (f+·):=by
   rw[<- List.range_add];congr 1;omega
  rw[e,List.flatMap_append]
  have z:(List.range f).flatMap (λh=>if decide (f<=h) && decide (s.f h (i+1) j=w) then (fD s w f i h (i+1)).map (·++[j]) else [])=[]:=by
   rw[List.flatMap_eq_nil_iff]
   intro x a
   rw[List.mem_range] at a
   rw[if_neg (by simp;omega)]
  rw[z,List.nil_append,List.flatMap_map]
  refine uC λd hd=>?_
  rw[List.mem_range] at hd
  show (if decide (s.f (f+d) (i+1) j=w) then _ else _)=(if decide (f<=f+d) && decide (s.f (f+d) (i+1) j=w) then _ else _)
  rw[r6 (f+d) i (f+d) (i+1) (Fq _) (by omega)]
  simp
structure TbL (s:Sg) (w:Int) (f:Nat) (U:List (List Key×L3.D)) (D:Nat->Nat->Prop) (c:Nat):Prop where
 get:∀ i j,D i j->gi U (k2 i j)=some (.lst (lI (cn (rw' s w f i j))))
 len:U.length<=c
theorem xC (a:List (List Key×L3.D)) (k:List Key) (v:L3.D):(iG a k v).length<=a.length+1:=by
 unfold iG
 split <;> simp
theorem TbL.put {s:Sg} {w:Int} {f:Nat} {U:List (List Key×L3.D)} {D D':Nat->Nat->Prop} {c i j:Nat} (h:TbL s w f U D c) (g:∀ a b,D' a b->(a=i/\b=j)\/D a b):TbL s w f (iG U (k2 i j) (.lst (lI (cn (rw' s w f i j))))) D' (c+1):=⟨λa b d=>by
 rw[yP]
 by_cases e:k2 a b=k2 i j
 .obtain ⟨rfl,rfl⟩:=Et e
  rw[if_pos e]
 .rw[if_neg e]
  rcases g a b d with ⟨rfl,rfl⟩ | q
  .exact absurd rfl e
  .exact h.get a b q,FR (xC _ _ _) (by have:=h.len;omega)⟩
section
variable {s:Sg} {T:List (List Key×L3.D)} (hT:jD s T) (hn:s.length<=24) {w:Int} {f:Nat}
include hT hn
theorem t_b3 {U:List (List Key×L3.D)} {i j:Nat} (hf:f<=i) (hi:i < j) (r:j < s.length) (hU:∀ h,f<=h->h < i->gi U (k2 h i)=some (.lst (lI (cn (rw' s w f h i))))) (hl:U.length < 16777216) {v7 v8 v9:Option (L3.D×Fl)} :
  ∃ v n a,bW (tS' T (.int s.length) (.int f) (.int w) U #v[.int i] #v[.int j] v7 v8 v9)=some (.ok .nx,tS' T (.int s.length) (.int f) (.int w) (iG U (k2 i j) (.lst (lI (cn (rw' s w f i j))))) #v[.int i] #v[.int j] v n a):=by
 obtain ⟨Z',e,n,a,rfl⟩:=bb (bnd:=ao 8) (b:=bX) (λm Z=>∃ n a,Z=tS' T (.int s.length) (.int f) (.int w) U #v[.int i] #v[.int j] (some (.lst (lI (cn (pre s w f i j m))),.u)) n a) (ds:=aJ f (i - f)) (Z:=tS' T (.int s.length) (.int f) (.int w) U #v[.int i] #v[.int j] (some (.lst (lI (cn (bs f i j))),.u)) v8 v9) (k:=0) #[v8,v9,by rw[show pre s w f i j 0=bs f i j by simp[pre]]] (by
  rintro m d Z hd ⟨n,a,rfl⟩
  obtain ⟨hm,rfl⟩:=bv hd
  rw[FA]
  rw[show (f:Int)+(m:Int)=((f+m:Nat):Int) by omega]
  have q:aC (.dt T) (.tup [.int ((f+m:Nat):Int),.int i,.int j])=#v[.int (s.f (f+m) i j)]:=z5 (hT (f+m) i j (by omega) hi r)
  have eq:=eqN (i:=s.f (f+m) i j) (j:=w)
  obtain ⟨t,ad⟩:=zw (T:=T) (U:=U) (N:=.int s.length) (F:=.int f) (W:=.int w) (h:=f+m) (i:=i) (j:=j) (g:=cn (pre s w f i j m)) (hU (f+m) (by omega) (by omega)) (v9:=a)
  rw[grow j (xv (Fq _) (by omega:f+m < i))] at ad
  by_cases c:s.f (f+m) i j=w
  .rw[Fw c] at eq
   have ps:=qm s w f i j m
   rw[if_pos (Fw c)] at ps
   rw[<- ps] at ad
   refine #[_,_,rfl,.inl ?_,#v[.int ((f+m:Nat):Int)],t,rfl]
   clear ps
   generalize lI (cn (pre s w f i j (m+1)))=X2 at *
   generalize lI (cn (pre s w f i j m))=X1 at *
   generalize L3.D.int (s.f (f+m) i j)=SV at *
   generalize L3.D.int ((f+m:Nat):Int)=HH at *
   unfold bX
   exact lu (b:=true) (bG (aw (aw (af rfl) (cQ (ae (af rfl) (ae (af rfl) (ae (af rfl) au))) rfl (Nat.le_of_ble_eq_true rfl)) rfl rfl q) (af rfl) rfl rfl eq) rfl) rfl ad
  .rw[Fy c] at eq
   have ps:=qm s w f i j m
   rw[if_neg (by simpa using c),List.append_nil] at ps
   refine #[_,_,rfl,.inl ?_,#v[.int ((f+m:Nat):Int)],a,by rw[ps]]
   clear ps ad
   generalize lI (cn (pre s w f i j m))=X1 at *
   generalize L3.D.int (s.f (f+m) i j)=SV at *
   generalize L3.D.int ((f+m:Nat):Int)=HH at *
   unfold bX
   exact b7 (b:=false) (bG (aw (aw (af rfl) (cQ (ae (af rfl) (ae (af rfl) (ae (af rfl) au))) rfl (Nat.le_of_ble_eq_true rfl)) rfl rfl q) (af rfl) rfl rfl eq) rfl) rfl rfl)
 rw[aQ,FA,AG hf] at e
 have y:cN [.int f,.int i]=some (aJ f (i - f)):=c0 (by omega) (by omega) (by omega)
 have st:nq (.dt U) [.tup [.int i,.int j],.lst (lI (cn (rw' s w f i j)))]=some (.dt (iG U (k2 i j) (.lst (lI (cn (rw' s w f i j))))),.non):=set2 hl
 have x:Di (.lst [.int 0]) (.int 25)=some (.lst (lI λ_=>0),.u):=by kernel_rfl
 have l:=eqN (i:=(i:Int)) (j:=(f:Int))
 refine #[#v[.lst (lI (cn (rw' s w f i j)))],n,a,?_]
 generalize A:lI (cn (rw' s w f i j))=X at *
 unfold bW
 apply ak (Z1:=tS' T (.int s.length) (.int f) (.int w) U #v[.int i] #v[.int j] (some (.lst (lI λ_=>0),.u)) v8 v9)
 .exact bP (aw (cQ (ae i_c au) rfl (Nat.le_of_ble_eq_true rfl)) (aw i_c i_c rfl rfl rfl) rfl rfl x) rfl (Nat.le_of_ble_eq_true rfl) rfl
 apply ak (Z1:=tS' T (.int s.length) (.int f) (.int w) U #v[.int i] #v[.int j] (some (.lst (lI (cn (bs f i j))),.u)) v8 v9)
 .by_cases c:i=f
  .rw[Fw (by omega)] at l
   have sl:nq (.lst (lI λ_=>0)) [.int 2,.int 1]=some (.lst (lI (cn (bs f i j))),.non):=by
    have h1:nq (.lst (lI λ_=>0)) [.int 2,.int 1]=some (.lst (lI (upN (λ_=>0) 2 1)),.non):=by kernel_rfl
    rw[h1,show lI (upN (λ_=>0) 2 1)=lI (cn (bs f i j)) from mO λp _=>by
     unfold bs upN
     rw[if_pos c,uQ]
     show _=_+0
     by_cases o:p=2
     .rw[if_pos o,if_pos (by rw[o];rfl)]
     .rw[if_neg o,if_neg (λz:[i,j].length=p=>o z.symm)]]
   generalize lI (cn (bs f i j))=X2 at *
   generalize (lI λ_=>0)=X0 at *
   refine lu (b:=true) (bG (aw (af rfl) (af rfl) rfl rfl l) rfl) rfl ?_
   exact ux (i:=7) (Z1:=tS' T (.int s.length) (.int f) (.int w) U #v[.int i] #v[.int j] (some (.lst X0,.u)) v8 v9) (Z2:=tS' T (.int s.length) (.int f) (.int w) U #v[.int i] #v[.int j] (some (.lst X0,.u)) v8 v9) (Z3:=tS' T (.int s.length) (.int f) (.int w) U #v[.int i] #v[.int j] (some (.lst X0,.u)) v8 v9) i_c rfl i_c rfl rfl sl
  .rw[Fy (by omega)] at l
   rw[show lI (cn (bs f i j))=lI λ_=>0 from mO λp _=>by unfold bs;rw[if_neg c];rfl]
   generalize (lI λ_=>0)=X0 at *
   exact b7 (b:=false) (bG (aw (af rfl) (af rfl) rfl rfl l) rfl) rfl rfl
 apply ak (dR (bZ (ae (af rfl) (ae (af rfl) au)) rfl y) rfl e)
 generalize iG U (k2 i j) (.lst X)=U2 at *
 exact ux (i:=4) (Z1:=tS' T (.int s.length) (.int f) (.int w) U #v[.int i] #v[.int j] (some (.lst X,.u)) n a) (Z2:=tS' T (.int s.length) (.int f) (.int w) U #v[.int i] #v[.int j] (some (.lst X,.u)) n a) (Z3:=tS' T (.int s.length) (.int f) (.int w) U #v[.int i] #v[.int j] #v[.lst X] n a) (af rfl) rfl (cQ (ae (af rfl) (ae (af rfl) au)) rfl (Nat.le_of_ble_eq_true rfl)) rfl rfl st
end
section
variable {s:Sg} {T:List (List Key×L3.D)} (hT:jD s T) (hn:s.length<=24) {w:Int} {f:Nat}
include hT hn
theorem TbL.mono {U:List (List Key×L3.D)} {D D':Nat->Nat->Prop} {c d:Nat} (h:TbL s w f U D c) (h1:∀ a b,D' a b->D a b) (h2:c<=d):TbL s w f U D' d:=#[λi j q=>h.get i j (h1 i j q),FR h.len h2]
theorem t_b4 {U:List (List Key×L3.D)} {i:Nat} (hf:f<=i) (hi:i < s.length) (hU:TbL s w f U (λa b=>f<=a/\a < b/\b < s.length/\a < i) (25 * i)) {v6 v7 v8 v9:Option (L3.D×Fl)} :
  ∃ o n l g c,bV (tS' T (.int s.length) (.int f) (.int w) U #v[.int i] v6 v7 v8 v9)=some (.ok .nx,tS' T (.int s.length) (.int f) (.int w) o #v[.int i] n l g c)/\TbL s w f o (λa b=>f<=a/\a < b/\b < s.length/\a < i+1) (25 * (i+1)):=by
 obtain ⟨Z',e,o,n,l,g,c,rfl,tb⟩:=bb (bnd:=ao 6) (b:=bW) (λm Z=>∃ U n l g c,Z=tS' T (.int s.length) (.int f) (.int w) U #v[.int i] n l g c/\TbL s w f U (λa b=>f<=a/\a < b/\b < s.length/\(a < i\/(a=i/\b < i+1+m))) (25 * i+m)) (ds:=aJ ((i:Int)+1) (s.length - (i+1))) (Z:=tS' T (.int s.length) (.int f) (.int w) U #v[.int i] v6 v7 v8 v9) (k:=0) #[U,v6,v7,v8,v9,rfl,hU.mono hT hn (λa b q=>by omega) (by omega)] (by
  rintro m d Z hd ⟨U,n,l,g,c,rfl,tb⟩
  obtain ⟨hm,rfl⟩:=bv hd
  rw[FA] at tb ⊢
  rw[show (i:Int)+1+(m:Int)=((i+1+m:Nat):Int) by omega]
  obtain ⟨t,u,r,st⟩:=t_b3 hT hn (w:=w) (f:=f) (U:=U) (i:=i) (j:=i+1+m) hf (by omega) (by omega) (λh h1 h2=>tb.get h i #[h1,h2,by omega,.inl h2]) (by have:=tb.len;omega) (v7:=l) (v8:=g) (v9:=c)
  refine #[_,_,rfl,.inl st,_,_,_,_,_,rfl,?_]
  exact (tb.put (i:=i) (j:=i+1+m) (D':=λa b=>f<=a/\a < b/\b < s.length/\(a < i\/(a=i/\b < i+1+(m+1)))) λa b q=>by omega).mono hT hn (λa b q=>q) (by omega))
 rw[aQ,FA] at tb
 have p:cN [.int ((i:Int)+1),.int s.length]=some (aJ ((i:Int)+1) (s.length - (i+1))):=c0 (by omega) (by omega) (by omega)
 refine #[o,n,l,g,c,?_,tb.mono hT hn (λa b q=>by omega) (by omega)]
 unfold bV
 exact dR (bZ (ae (aw (af rfl) i_c rfl rfl rfl) (ae (af rfl) au)) rfl p) rfl e
theorem tK (hf:f<=s.length):∃ U,cf [(.dt T,.u),(.int s.length,.z),(.int f,.z),(.int w,.z)]=some (.ok (.dt U,.u),[(.dt T,.u),(.int s.length,.z),(.int f,.z),(.int w,.z)])/\TbL s w f U (λa b=>f<=a/\a < b/\b < s.length) 1000:=by
 obtain ⟨Z',e,l,o,j,h,g,c,rfl,tb⟩:=bb (bnd:=ao 5) (b:=bV) (λm Z=>∃ U o j h g c,Z=tS' T (.int s.length) (.int f) (.int w) U o j h g c/\TbL s w f U (λa b=>f<=a/\a < b/\b < s.length/\a < f+m) (25 * (f+m))) (ds:=aJ f (s.length - f)) (Z:=tS' T (.int s.length) (.int f) (.int w) [] none none none none none) (k:=0) #[[],none,none,none,none,none,rfl,#[λa b q=>by omega,Nat.zero_le _]] (by
  rintro m d Z hd ⟨U,o,j,h,g,c,rfl,tb⟩
  obtain ⟨hm,rfl⟩:=bv hd
  rw[FA] at tb ⊢
  rw[show (f:Int)+(m:Int)=((f+m:Nat):Int) by omega]
  obtain ⟨l,r,v,x,t,st,n⟩:=t_b4 hT hn (w:=w) (f:=f) (U:=U) (i:=f+m) (by omega) (by omega) tb (v6:=j) (v7:=h) (v8:=g) (v9:=c)
  exact #[_,_,rfl,.inl st,l,_,_,_,_,_,rfl,n])
 rw[aQ,FA] at tb
 have p:cN [.int f,.int s.length]=some (aJ f (s.length - f)):=c0 (by omega) (by omega) (by omega)
 refine #[l,?_,tb.mono hT hn (λa b q=>by omega) (by omega)]
 apply aK (Z:=[some (.dt T,.u),#v[.int s.length],#v[.int f],#v[.int w],none,none,none,none,none,none]) rfl rfl
 .unfold iT
  apply ak (Z1:=tS' T (.int s.length) (.int f) (.int w) [] none none none none none)
  .rfl
  apply ak (dR (bZ (ae (af rfl) (ae (af rfl) au)) rfl p) rfl e)
  exact bF (af rfl) rfl
 .rfl
end
theorem kn {α:Type} (l:List α):l.filter (λ_=>true)=l:=FU.mpr λ_ _=>rfl
theorem uw {α:Type} (f:α->Int):∀ xs:List α,bM (xs.map λx=>L3.D.int (f x))=some (xs.map f)
 | []=>rfl
 | x::xs=>by
  show (bM (xs.map λx=>L3.D.int (f x))).map _=_
  rw[uw f xs];rfl
theorem pX {α:Type} (f:α->Nat):∀ l:List α,(l.map λx=>(f x:Int)).sum=((l.map f).sum:Nat)
 | []=>rfl
 | x::l=>by
  simp only[Fv,List.sum_cons]
  rw[pX f l];omega
theorem tJ {α:Type} (f:α->Nat) (l:List α):zZ [.lst (l.map λx=>L3.D.int (f x:Int))]=#v[.int (((l.map f).sum:Nat):Int)]:=by
 show (bM (l.map λx=>L3.D.int (f x:Int))).map _=_
 rw[uw (λx=>(f x:Int)) l]
 show some (L3.D.int (l.map λx=>(f x:Int)).sum,Fl.z)=_
 rw[pX]
theorem Cp {α:Type} (F:α->List (List Nat)) (p:Nat):∀ l:List α,cn (l.flatMap F) p=(l.map λx=>cn (F x) p).sum
 | []=>rfl
 | x::l=>by
  rw[List.flatMap_cons,ze,Cp F p l,Fv,List.sum_cons]
theorem wJ {s:Sg} {w:Int} {f z:Nat} (h:f<=z):av s w f z=(List.range (z - f)).flatMap λd=>rw' s w f (f+d) z:=by
 unfold av
 have e:List.range z=List.range f++(List.range (z - f)).map (f+·):=by
  rw[<- List.range_add];congr 1;omega
 rw[e,List.flatMap_append]
 have q:(List.range f).flatMap (λi=>if decide (f<=i) then fD s w f i i z else [])=[]:=by
  rw[List.flatMap_eq_nil_iff]
  intro x a
  rw[List.mem_range] at a
  rw[if_neg (by simp;omega)]
 rw[q,List.nil_append,List.flatMap_map]
 refine uC λd _=>?_
 rw[if_pos (by simp)]
section
variable {s:Sg} (hn:s.length<=24) {w:Int} {f z:Nat} {U:List (List Key×L3.D)} (hU:TbL s w f U (λa b=>f<=a/\a < b/\b < s.length) 1000) (hfz:f < z) (hz:z < s.length)
include hn hU hfz hz
theorem tw_in {p:Nat} (b:p < 25):eP [#v[.int (p:Int)],some (.dt U,.u),#v[.int f],#v[.int z]]=some (.ok (.val (.lst ((List.range (z - f)).map λd=>.int (cn (rw' s w f (f+d) z) p:Int))) .u),[#v[.int (p:Int)],some (.dt U,.u),#v[.int f],#v[.int z]]):=by
 have a:cN [.int f,.int z]=some (aJ f (z - f)):=c0 (by omega) (by omega) (by omega)
 obtain ⟨Y',e,g,rfl⟩:=aR (bnd:=ao 0) (c:=b9) (elt:=bJ) (λY=>∃ v,Y=[v,#v[.int (p:Int)],some (.dt U,.u),#v[.int z]]) (λk:Nat=>L3.D.int ((f:Int)+(k:Int))) (λ_=>true) (λk:Nat=>L3.D.int (cn (rw' s w f (f+k) z) p:Int)) (xs:=List.range (z - f)) (Y:=[none,#v[.int (p:Int)],some (.dt U,.u),#v[.int z]]) #[none,rfl] (by
  rintro m hm Y ⟨v,rfl⟩
  rw[List.mem_range] at hm
  rw[show (f:Int)+(m:Int)=((f+m:Nat):Int) by omega]
  have g1:aC (.dt U) (.tup [.int ((f+m:Nat):Int),.int z])=#v[.lst (lI (cn (rw' s w f (f+m) z)))]:=sub2 (hU.get (f+m) z #[by omega,by omega,hz])
  have g2:aC (.lst (lI (cn (rw' s w f (f+m) z)))) (.int (p:Int))=#v[.int (cn (rw' s w f (f+m) z) p:Int)]:=jU (qO b)
  generalize lI (cn (rw' s w f (f+m) z))=X at *
  generalize L3.D.int (cn (rw' s w f (f+m) z) p:Int)=τ at *
  generalize L3.D.int ((f+m:Nat):Int)=FM at *
  refine #[[#v[FM],#v[.int (p:Int)],some (.dt U,.u),#v[.int z]],[#v[FM],#v[.int (p:Int)],some (.dt U,.u),#v[.int z]],rfl,rfl,λh=>(by cases h),λ_=>#[.val τ .z,_,(τ,.z),_,?_,rfl,rfl,#v[FM],rfl]]
  unfold bJ
  exact aw (aw (af rfl) (cQ (ae (af rfl) (ae (af rfl) au)) rfl (Nat.le_of_ble_eq_true rfl)) rfl rfl g1) (af rfl) rfl rfl g2)
 rw[kn] at e
 have e:bf (ao 0) b9 bJ (aJ f (z - f)) _=_:=e
 refine aH (rs:=[]) (Z1:=[#v[.int (p:Int)],some (.dt U,.u),#v[.int f],#v[.int z]]) ?_ e (by rw[aQ];omega) rfl
 exact bZ (ae (af rfl) (ae (af rfl) au)) rfl a
theorem wZ:bQ [(.dt U,.u),(.int f,.z),(.int z,.z)]=some (.ok (.lst (lI (cn (av s w f z))),.u),[(.dt U,.u),(.int f,.z),(.int z,.z)]):=by
 have i:dA [.int 25]=some (aJ 0 25):=cH (by decide) (by decide)
 obtain ⟨Y',e,j,rfl⟩:=aR (bnd:=ao 0) (c:=b9) (elt:=bI) (λY=>∃ v,Y=[v,some (.dt U,.u),#v[.int f],#v[.int z]]) (λk:Nat=>L3.D.int ((0:Int)+(k:Int))) (λ_=>true) (λk:Nat=>L3.D.int (cn (av s w f z) k:Int)) (xs:=List.range 25) (Y:=[none,some (.dt U,.u),#v[.int f],#v[.int z]]) #[none,rfl] (by
  rintro p a Y ⟨v,rfl⟩
  rw[List.mem_range] at a
  rw[Int.zero_add]
  have b:=tw_in hn hU hfz hz a
  have sm:=tJ (λd=>cn (rw' s w f (f+d) z) p) (List.range (z - f))
  rw[<- Cp (λd=>rw' s w f (f+d) z) p,<- wJ (by omega:f<=z)] at sm
  refine #[[#v[.int (p:Int)],some (.dt U,.u),#v[.int f],#v[.int z]],[#v[.int (p:Int)],some (.dt U,.u),#v[.int f],#v[.int z]],rfl,rfl,λh=>(by cases h),λ_=>#[.val (.int (cn (av s w f z) p:Int)) .z,_,(.int (cn (av s w f z) p:Int),.z),_,?_,rfl,rfl,#v[.int (p:Int)],rfl]]
  unfold bI
  exact aG (ae b au) rfl sm)
 rw[kn] at e
 have e:bf (ao 0) b9 bI (aJ 0 25) _=some (.ok (lI (cn (av s w f z))),_):=e
 generalize lI (cn (av s w f z))=X at *
 have g:eO [some (.dt U,.u),#v[.int f],#v[.int z]]=some (.ok (.val (.lst X) .u),[some (.dt U,.u),#v[.int f],#v[.int z]]):=by
  refine aH (rs:=[]) (Z1:=[some (.dt U,.u),#v[.int f],#v[.int z]]) ?_ e (by rw[aQ];decide) rfl
  exact bZ (ae (aw i_c i_c rfl rfl rfl) au) rfl i
 apply aK (Z:=[some (.dt U,.u),#v[.int f],#v[.int z]]) (Z1:=[some (.dt U,.u),#v[.int f],#v[.int z]]) rfl rfl
 .exact bF g rfl
 .rfl
end
section
variable {s:Sg}
def Abv (s:Sg) (R:List Nat) (p:Nat) (w:Int):Prop:=∀ l∈R,∀ a∈R,l < p->p < a->(∀ r∈R,r<=l\/a<=r)->s.f l p a=w
theorem yo:∀ {R:List Nat} {x:Nat},(∃ r∈R,r < x)->∃ l∈R,l < x/\∀ r∈R,r < x->r<=l
 | [],_,#[_,h,_]=>nomatch h
 | a::R,x,#[r,hr,hx]=>by
  by_cases c:∃ r∈R,r < x
  .obtain ⟨l,h1,h2,h3⟩:=yo c
   by_cases d:a < x/\l < a
   .exact ⟨a,E5,d.1,λq b f=>by
     rcases Fc.mp b with rfl | b
     .exact Fq _
     .have:=h3 q b f;omega⟩
   .exact ⟨l,E6 _ h1,h2,λq b f=>by
     rcases Fc.mp b with rfl | b
     .omega
     .exact h3 q b f⟩
  .have e:r=a:=by
    rcases Fc.mp hr with h | h
    .exact h
    .exact absurd #[r,h,hx] c
   subst e
   exact ⟨r,E5,hx,λq b f=>by
    rcases Fc.mp b with rfl | b
    .exact Fq _
    .exact absurd ⟨q,b,f⟩ c⟩
theorem pi:∀ {R:List Nat} {x:Nat},(∃ r∈R,x < r)->∃ l∈R,x < l/\∀ r∈R,x < r->l<=r
 | [],_,#[_,h,_]=>nomatch h
 | a::R,x,#[r,hr,hx]=>by
  by_cases c:∃ r∈R,x < r
  .obtain ⟨l,h1,h2,h3⟩:=pi c
   by_cases d:x < a/\a < l
   .exact ⟨a,E5,d.1,λq b f=>by
     rcases Fc.mp b with rfl | b
     .exact Fq _
     .have:=h3 q b f;omega⟩
   .exact ⟨l,E6 _ h1,h2,λq b f=>by
     rcases Fc.mp b with rfl | b
     .omega
     .exact h3 q b f⟩
  .have e:r=a:=by
    rcases Fc.mp hr with h | h
    .exact h
    .exact absurd #[r,h,hx] c
   subst e
   exact ⟨r,E5,hx,λq b f=>by
    rcases Fc.mp b with rfl | b
    .exact Fq _
    .exact absurd ⟨q,b,f⟩ c⟩
structure Hull (s:Sg) (w:Int) (A R:List Nat):Prop where
 sub:∀ r∈R,r∈A
 lo:∀ x∈A,∃ r∈R,r<=x
 hi:∀ x∈A,∃ r∈R,x<=r
 row:∀ x∈R,∀ y∈R,∀ z∈R,x < y->y < z->s.f x y z=w
 abv:∀ x∈A,x ∉ R->Abv s R x (-w)
theorem Hull.nb {w:Int} {A R:List Nat} (h:Hull s w A R) {x:Nat} (c:x∈A) (hn:x ∉ R):∃ l∈R,∃ b∈R,l < x/\x < b/\(∀ r∈R,r<=l\/b<=r)/\s.f l x b = -w:=by
 have ne:∀ r∈R,r≠x:=λr a e=>hn (e ▸ a)
 obtain ⟨i,a1,a2⟩:=h.lo x c
 obtain ⟨g,b1,b2⟩:=h.hi x c
 obtain ⟨l,d,k,o⟩:=yo (R:=R) (x:=x) #[i,a1,by have:=ne i a1;omega]
 obtain ⟨m,n,j,p⟩:=pi (R:=R) (x:=x) #[g,b1,by have:=ne g b1;omega]
 have all:∀ r∈R,r<=l\/m<=r:=λr a=>by
  rcases Nat.lt_or_gt_of_ne (ne r a) with q | q
  .exact .inl (o r a q)
  .exact .inr (p r a q)
 exact #[l,d,m,n,k,j,all,h.abv x c hn l d m n k j all]
variable (G:Sgn s) {w:Int} (hw:w=1\/w = -1)
include G hw
theorem Hull.left {A R:List Nat} (h:Hull s w A R) (hl:∀ x∈A,x < s.length) {a x b:Nat} (r:a∈A) (g:x∈R) (d:b∈R) (h1:a < x) (h2:x < b):s.f a x b=w:=by
 by_cases c:a∈R
 .exact h.row a c x g b d h1 h2
 .obtain ⟨l,k,m,n,j,i,o,u⟩:=h.nb r c
  have hm:m<=x:=by
   rcases o x g with q | q
   .lia
   .exact q
  have e:=hl b (h.sub b d)
  rcases Nat.lt_or_eq_of_le hm with q | q
  .have e1:=h.row l k m n x g (by omega) q
   have y:=h.row m n x g b d q h2
   have p:=G.ax l a m x j i q (by omega)
   have t:=G.ax a m x b i q h2 e
   have v:=G.pm a m x
   have p2:=G.pm a x b
   lia
  .subst q
   have e1:=h.row l k m g b d (by omega) h2
   have p:=G.ax l a m b j i h2 e
   have p2:=G.pm a m b
   lia
theorem Hull.right {A R:List Nat} (h:Hull s w A R) (hl:∀ x∈A,x < s.length) {c x x0:Nat} (p:c∈A) (b:x∈R) (a:x0∈R) (h1:x0 < x) (h2:x < c):s.f x0 x c=w:=by
 by_cases d:c∈R
 .exact h.row x0 a x b c d h1 h2
 .obtain ⟨l,j,m,i,g,k,n,t⟩:=h.nb p d
  have hm:x<=l:=by
   rcases n x b with q | q
   .exact q
   .lia
  have e:=hl m (h.sub m i)
  rcases Nat.lt_or_eq_of_le hm with q | q
  .have e1:=h.row x b l j m i q (by omega)
   have v:=h.row x0 a x b l j h1 q
   have o:=G.ax x l c m q g k e
   have r:=G.ax x0 x l c h1 q g (by omega)
   have u:=G.pm x l c
   have p2:=G.pm x0 x c
   lia
  .subst q
   have e1:=h.row x0 a x b m i h1 (by omega)
   have o:=G.ax x0 x c m h1 g k e
   have p2:=G.pm x0 x c
   lia
theorem Hull.all {A R:List Nat} (h:Hull s w A R) (hl:∀ x∈A,x < s.length) {a x c:Nat} (v:a∈A) (d:x∈R) (b:c∈A) (h1:a < x) (h2:x < c):s.f a x c=w:=by
 obtain ⟨z,l,B⟩:=h.hi c b
 obtain ⟨m,n,g,k⟩:=pi (R:=R) (x:=x) #[z,l,by omega]
 have e:=h.left G hw hl v d n h1 g
 have o:=hl z (h.sub z l)
 have y:=k z l (by omega)
 rcases Nat.lt_trichotomy c m with q | q | q
 .have cn:c ∉ R:=λj=>by have:=k c j h2;omega
  have t:=h.abv c b cn x d m n h2 q λr j=>by
   rcases Nat.lt_or_ge x r with q | q
   .exact .inr (k r j q)
   .exact .inl q
  have u:=G.ax a x c m h1 h2 q (by omega)
  have p:=G.pm a x c
  lia
 .rw[q];exact e
 .have t:=h.right G hw hl b n d g q
  have i:=hl c b
  have u:=G.ax a x m c h1 g q i
  have p:=G.pm a x c
  lia
theorem uy:∀ (k:Nat) {A:List Nat},A.length=k->Ris s.length A->∃ R,Hull s w A R
 | 0,A,hk,_=>by
  have:A=[]:=FZ.mp hk
  subst this
  exact #[[],λ_ h=>(nomatch h),λ_ h=>(nomatch h),λ_ h=>(nomatch h),λ_ h=>(nomatch h),λ_ h=>(nomatch h)]
 | k+1,A,hk,hA=>by
  by_cases c:rb s A w=true
  .exact #[A,λ_ h=>h,λx g=>#[x,g,Fq _],λx g=>#[x,g,Fq _],λx g y J z hz h1 h2=>j3 G hA c g J hz h1 h2,λx g hn=>absurd g hn]
  .have:∃ i,i < A.length - 2/\s.f (el A i) (el A (i+1)) (el A (i+2))≠w:=by
    refine Classical.byContradiction λn=>c ?_
    refine List.all_eq_true.mpr λi hi=>Fw ?_
    refine Classical.byContradiction λm=>n #[i,List.mem_range.mp hi,m]
   obtain ⟨i,hi,ar⟩:=this
   have N:=hA.at (i:=i) (j:=i+1) (by omega) (by omega)
   have E:=hA.at (i:=i+1) (j:=i+2) (by omega) (by omega)
   have U:el A i∈A:=dG (by omega)
   have V:el A (i+1)∈A:=dG (by omega)
   have M:el A (i+2)∈A:=dG (by omega)
   have side:∀ y∈A,y<=el A i\/y=el A (i+1)\/el A (i+2)<=y:=λy J=>by
    obtain ⟨j,Q,rfl⟩:=mV J
    rcases Nat.lt_trichotomy j (i+1) with q | q | q
    .left
     rcases Nat.lt_or_eq_of_le (show j<=i by omega) with q | q
     .exact Nat.le_of_lt (hA.at q (by omega))
     .rw[q] <;> exact Fq _
    .exact .inr (.inl (by rw[q]))
    .right;right
     rcases Nat.lt_or_eq_of_le (show i+2<=j by omega) with q | q
     .exact Nat.le_of_lt (hA.at q Q)
     .rw[q] <;> exact Fq _
   have az:el A (i+2) < s.length:=hA.lt _ M
   have K:=G.pm (el A i) (el A (i+1)) (el A (i+2))
   generalize el A i=a at *
   generalize el A (i+1)=b at *
   generalize el A (i+2)=d at *
   have hlen:(A.filter λx=>!decide (x=b)).length=k:=by
    have h1:A.Nodup:=hA.up.imp λh=>Ft h
    have:(A.filter λx=>decide (x=b)).length=1:=by
     have h2:A.filter (λx=>decide (x=b))=[b]:=by
      have h3:(A.filter λx=>decide (x=b)).Nodup:=h1.filter _
      have u:∀ x∈A.filter (λx=>decide (x=b)),x=b:=λx g=>of_decide_eq_true (FL.mp g).2
      have D:b∈A.filter (λx=>decide (x=b)):=FL.mpr #[V,by simp]
      match hf:A.filter (λx=>decide (x=b)),h3,u,D with
      | [],_,_,D=>cases D
      | [x],_,u,_=>rw[u x (by simp)]
      | x::y::l,h3,u,_ =>
       have e1:=u x (by simp)
       have S:=u y (by simp)
       simp[e1,S] at h3
     rw[h2];rfl
    have h2:=List.filter_append_perm (λx=>decide (x=b)) A
    have:=h2.length_eq
    rw[FD] at this
    lia
   obtain ⟨R,p⟩:=uy k (A:=A.filter λx=>!decide (x=b)) hlen #[hA.up.filter _,λx g=>hA.lt x (FL.mp g).1]
   have o:∀ x,x∈A.filter (λx=>!decide (x=b)) ↔ x∈A/\x≠b:=λx=>by rw[FL];simp
   have B:=(o a).mpr #[U,by omega]
   have v:=(o d).mpr #[M,by omega]
   refine #[R,λr hr=>((o r).mp (p.sub r hr)).1,λx g=>?_,λx g=>?_,p.row,λx g hn=>?_]
   .by_cases e:x=b
    .obtain ⟨r,I,X⟩:=p.lo a B
     exact #[r,I,by omega]
    .exact p.lo x ((o x).mpr #[g,e])
   .by_cases e:x=b
    .obtain ⟨r,I,X⟩:=p.hi d v
     exact #[r,I,by omega]
    .exact p.hi x ((o x).mpr #[g,e])
   .by_cases e:x=b
    .subst e
     intro l H m F q1 q2 C
     obtain ⟨W,ln⟩:=(o l).mp (p.sub l H)
     obtain ⟨σ,mn⟩:=(o m).mp (p.sub m F)
     have ρ:l<=a:=by rcases side l W with q | q | q <;> omega
     have L:d<=m:=by rcases side m σ with q | q | q <;> omega
     have t:=hA.lt m σ
     have T:l < a->s.f l a m = -w:=λq=>p.abv a B (λr=>by rcases C a r with q | q <;> omega) l H m F q (by omega) C
     have fd:d < m->s.f l d m = -w:=λq=>p.abv d v (λr=>by rcases C d r with q | q <;> omega) l H m F (by omega) q C
     have P:=G.pm l x m
     rcases Nat.lt_or_eq_of_le ρ with c1 | c1
     .have f1:=T c1
      have x1:=G.ax l a x m c1 N (by omega) t
      have p1:=G.pm a x m
      rcases Nat.lt_or_eq_of_le L with c2 | c2
      .have f2:=fd c2
       have τ:=G.ax l x d m (by omega) E c2 t
       have x3:=G.ax a x d m N E c2 t
       have p2:=G.pm x d m
       lia
      .subst c2
       lia
     .subst c1
      rcases Nat.lt_or_eq_of_le L with c2 | c2
      .have f2:=fd c2
       have τ:=G.ax l x d m (by omega) E c2 t
       lia
      .subst c2
       lia
    .exact p.abv x ((o x).mpr #[g,e]) hn
def NN (s:Sg) (A:List Nat) (w:Int) (x:Nat):Bool:=A.all λa=>A.all λc=>!(decide (a < x) && decide (x < c)) || decide (s.f a x c=w)
omit G hw in
theorem NN_iff {A:List Nat} {x:Nat}:NN s A w x=true ↔ ∀ a∈A,∀ c∈A,a < x->x < c->s.f a x c=w:=by
 unfold NN
 rw[List.all_eq_true]
 refine forall_congr' λa=>forall_congr' λb=>?_
 rw[List.all_eq_true]
 refine forall_congr' λc=>forall_congr' λd=>?_
 simp only[Bool.or_eq_true,Bool.not_eq_true',Bool.and_eq_false_iff,decide_eq_false_iff_not,decide_eq_true_eq]
 constructor
 .intro h h1 h2
  rcases h with (h | h) | h
  .exact absurd h1 h
  .exact absurd h2 h
  .exact h
 .intro h
  by_cases h1:a < x
  .by_cases h2:x < c
   .exact .inr (h h1 h2)
   .exact .inl (.inr h2)
  .exact .inl (.inl h1)
theorem Hull.mem {A R:List Nat} (h:Hull s w A R) (hl:∀ x∈A,x < s.length) {x:Nat}:x∈R ↔ x∈A/\NN s A w x=true:=by
 constructor
 .intro b
  exact #[h.sub x b,NN_iff.mpr λa f c g h1 h2=>h.all G hw hl f b g h1 h2]
 .rintro ⟨b,hn⟩
  refine Classical.byContradiction λn=>?_
  obtain ⟨l,e,m,j,d,i,o,k⟩:=h.nb b n
  have:=NN_iff.mp hn l (h.sub l e) m (h.sub m j) d i
  lia
end
section
variable {s:Sg}
theorem uD {n:Nat} {R:List Nat} (h:Ris n R) {p:Nat} {w:Int}:jN s R p w=true ↔ Abv s R p w:=by
 rw[yT]
 constructor
 .intro H l hl e b h1 h2 h3
  obtain ⟨i,hi,rfl⟩:=mV hl
  obtain ⟨j,a,rfl⟩:=mV b
  have d:=yC h hi a (by omega)
  have:j=i+1:=by
   refine Classical.byContradiction λc=>?_
   have a1:=h.at (i:=i) (j:=i+1) (by omega) (by omega)
   have a2:=h.at (i:=i+1) (j:=j) (by omega) a
   rcases h3 (el R (i+1)) (dG (by omega)) with q | q <;> omega
  subst this
  exact H i a h1 h2
 .intro H i hi h1 h2
  exact H _ (dG (by omega)) _ (dG hi) h1 h2 (apart h hi)
def ext (s:Sg) (A:List Nat):List Nat:=A.filter λx=>NN s A 1 x || NN s A (-1) x
theorem ext_mem {A:List Nat} {x:Nat}:x∈ext s A ↔ x∈A/\(NN s A 1 x=true\/NN s A (-1) x=true):=by
 unfold ext
 rw[FL,Bool.or_eq_true]
theorem k7 {A B:List Nat} {w:Int} {x:Nat} (h:∀ y∈B,y∈A) (hn:NN s A w x=true):NN s B w x=true :=
 NN_iff.mpr λa b c d=>NN_iff.mp hn a (h a b) c (h c d)
theorem uF (A:List Nat):ext s (ext s A)=ext s A:=by
 refine FU.mpr λx b=>?_
 obtain ⟨h1,h2⟩:=ext_mem.mp b
 have sub:∀ y∈ext s A,y∈A:=λy a=>(ext_mem.mp a).1
 rw[Bool.or_eq_true]
 exact h2.imp (k7 sub) (k7 sub)
variable (G:Sgn s) {f z:Nat} {mid:List Nat} (h:Ris s.length ([f]++mid++[z]))
include G h
theorem BS {y:Nat} (a:y∈[f]++mid++[z]):y∈sd s f mid z 1\/y∈sd s f mid z (-1):=by
 rw[sd_mem,sd_mem]
 simp only[Ff,FJ] at a
 rcases a with (rfl | a) | rfl
 .exact .inl (.inl rfl)
 .rcases G.pm f y z with q | q
  .exact .inl (.inr (.inl #[a,q]))
  .exact .inr (.inr (.inl #[a,q]))
 .exact .inl (.inr (.inr rfl))
omit G in
theorem mi {w:Int} {y:Nat} (a:y∈sd s f mid z w):y∈[f]++mid++[z]:=by
 rw[sd_mem] at a
 simp only[Ff,FJ]
 rcases a with q | ⟨q,_⟩ | q
 .exact .inl (.inl q)
 .exact .inl (.inr q)
 .exact .inr q
omit G in
theorem fW {y:Nat} (a:y∈[f]++mid++[z]):f<=y/\y<=z:=by
 obtain ⟨h1,h2,h3⟩:=c4 h
 simp only[Ff,FJ] at a
 rcases a with (rfl | a) | rfl
 .lia
 .have:=h3 y a;omega
 .lia
theorem ow (d:ext s ([f]++mid++[z])=[f]++mid++[z]) {y:Nat} (c:y∈mid):NN s ([f]++mid++[z]) (s.f f y z) y=true:=by
 obtain ⟨h1,h2,h3⟩:=c4 h
 have b:y∈[f]++mid++[z]:=by simp[c]
 have a:=h3 y c
 have:=b
 rw[<- d] at this
 rcases (ext_mem.mp this).2 with q | q
 .have e:=NN_iff.mp q f (by simp) z (by simp) a.1 a.2
  rw[e];exact q
 .have e:=NN_iff.mp q f (by simp) z (by simp) a.1 a.2
  rw[e];exact q
theorem lB (k:ext s ([f]++mid++[z])=[f]++mid++[z]) {w:Int} (hw:w=1\/w = -1) {A:List Nat} (h1:∀ x∈[f]++mid++[z],x∈A) (h2:∀ x∈A,x∈[f]++mid++[z]\/(f < x/\x < z/\Abv s (sd s f mid z w) x (-w))):Hull s w A (sd s f mid z w):=by
 obtain ⟨B,u,C⟩:=c4 h
 have fin:f∈sd s f mid z w:=sd_mem.mpr (.inl rfl)
 have g:z∈sd s f mid z w:=sd_mem.mpr (.inr (.inr rfl))
 have c:=λ{y:Nat} (j:y∈sd s f mid z w)=>mi h j
 refine #[λr t=>h1 r (c t),λx d=>#[f,fin,?_],λx d=>#[z,g,?_],λx d y j v m n o=>?_,λx d hn=>?_]
 .rcases h2 x d with q | q
  .exact (fW h q).1
  .lia
 .rcases h2 x d with q | q
  .exact (fW h q).2
  .lia
 .have a1:=fW h (c d)
  have a2:=fW h (c m)
  rcases sd_mem.mp j with q | ⟨q,e⟩ | q
  .lia
  .have:=ow G h k q
   rw[e] at this
   exact NN_iff.mp this x (c d) v (c m) n o
  .lia
 .rcases h2 x d with q | ⟨_,_,q⟩
  .simp only[Ff,FJ] at q
   rcases q with (rfl | q) | rfl
   .exact absurd fin hn
   .have e:s.f f x z = -w:=by
     rcases G.pm f x z with e | e
     .rcases hw with rfl | rfl
      .exact absurd (sd_mem.mpr (.inr (.inl #[q,e]))) hn
      .omega
     .rcases hw with rfl | rfl
      .exact e
      .exact absurd (sd_mem.mpr (.inr (.inl #[q,e]))) hn
    have:=ow G h k q
    rw[e] at this
    exact λl hl p i a b _=>NN_iff.mp this l (c hl) p (c i) a b
   .exact absurd g hn
  .exact q
omit G in
theorem kD {x:Nat}:x∈wl s f mid z ↔ f < x/\x < z/\x ∉ [f]++mid++[z]/\Abv s (sd s f mid z 1) x (-1)/\Abv s (sd s f mid z (-1)) x 1:=by
 unfold wl bw
 rw[FL,FL,FL,uD (fN h),uD (fN h),Fo]
 constructor
 .rintro ⟨⟨⟨⟨i,hi,rfl⟩,h2⟩,h3⟩,a⟩
  have:=List.mem_range.mp hi
  exact #[by omega,by omega,by simpa using h2,h3,a]
 .rintro ⟨h1,h2,h3,a,b⟩
  exact #[#[#[#[x - (f+1),List.mem_range.mpr (by omega),by omega],by simpa using h3],a],b]
theorem ip (o:ext s ([f]++mid++[z])=[f]++mid++[z]) {A:List Nat} (hA:Ris s.length A):ext s A=[f]++mid++[z] ↔ (∀ x∈[f]++mid++[z],x∈A)/\∀ x∈A,x∈[f]++mid++[z]\/x∈wl s f mid z:=by
 obtain ⟨S,P,F⟩:=c4 h
 constructor
 .intro e
  have sub:∀ x∈[f]++mid++[z],x∈A:=λx j=>by rw[<- e] at j;exact (ext_mem.mp j).1
  refine #[sub,λx j=>?_]
  by_cases c:x∈[f]++mid++[z]
  .exact .inl c
  .right
   have side:∀ w:Int,(w=1\/w = -1)->f < x/\x < z/\Abv s (sd s f mid z w) x (-w):=λw hw=>by
    obtain ⟨R,t⟩:=uy G hw A.length rfl hA
    have mem:=λ{y:Nat}=>t.mem G hw hA.lt (x:=y)
    have i:∀ y∈R,y∈[f]++mid++[z]:=λy g=>by
     rw[<- e]
     obtain ⟨a,b⟩:=mem.mp g
     refine ext_mem.mpr #[a,?_]
     rcases hw with rfl | rfl
     .exact .inl b
     .exact .inr b
    have first:∀ y∈A,f<=y:=λy g=>by
     obtain ⟨r,B,L⟩:=t.lo y g
     have:=(fW h (i r B)).1;omega
    have last:∀ y∈A,y<=z:=λy g=>by
     obtain ⟨r,B,L⟩:=t.hi y g
     have:=(fW h (i r B)).2;omega
    have same:∀ y,y∈R ↔ y∈sd s f mid z w:=λy=>by
     constructor
     .intro g
      have k:=i y g
      simp only[Ff,FJ] at k
      rw[sd_mem]
      rcases k with (q | q) | q
      .exact .inl q
      .have:=F y q
       exact .inr (.inl #[q,NN_iff.mp (mem.mp g).2 f (sub f (by simp)) z (sub z (by simp)) this.1 this.2])
      .exact .inr (.inr q)
     .intro g
      have N:=sub y (mi h g)
      refine mem.mpr #[N,?_]
      rcases sd_mem.mp g with q | ⟨q,Q⟩ | q
      .exact NN_iff.mpr λa D c o H J=>by have:=first a D;omega
      .have σ:y∈ext s A:=by rw[e];exact mi h g
       have m:=F y q
       rcases (ext_mem.mp σ).2 with n | n
       .have:=NN_iff.mp n f (sub f (by simp)) z (sub z (by simp)) m.1 m.2
        have:w=1:=by omega
        rw[this];exact n
       .have:=NN_iff.mp n f (sub f (by simp)) z (sub z (by simp)) m.1 m.2
        have:w = -1:=by omega
        rw[this];exact n
      .exact NN_iff.mpr λa D c o H J=>by have:=last c o;omega
    have I:x ∉ R:=λr=>c (i x r)
    have f1:=first x j
    have f2:=last x j
    have T:x≠f:=λq=>c (by rw[q];simp)
    have f4:x≠z:=λq=>c (by rw[q];simp)
    refine #[by omega,by omega,λl hl E u a b K=>?_]
    exact t.abv x j I l ((same l).mpr hl) E ((same E).mpr u) a b λr M=>K r ((same r).mp M)
   have a:=side 1 (.inl rfl)
   have b:=side (-1) (.inr rfl)
   exact (kD h).mpr #[a.1,a.2.1,c,a.2.2,b.2.2]
 .rintro ⟨sub,v⟩
  have C:∀ w:Int,(w=1\/w = -1)->Hull s w A (sd s f mid z w):=λw hw=>lB G h o hw sub λx j=>by
   rcases v x j with q | q
   .exact .inl q
   .obtain ⟨a,b,_,c,d⟩:=(kD h).mp q
    refine .inr #[a,b,?_]
    rcases hw with rfl | rfl
    .exact c
    .exact d
  have a:=C 1 (.inl rfl)
  have b:=C (-1) (.inr rfl)
  refine cL (hA.up.filter _) h.up λx=>?_
  have e:x∈ext s A ↔ x∈sd s f mid z 1\/x∈sd s f mid z (-1):=by
   rw[ext_mem,a.mem G (.inl rfl) hA.lt,b.mem G (.inr rfl) hA.lt]
   exact #[λ#[p,q]=>q.imp (λr=>#[p,r]) λr=>#[p,r],λq=>q.elim (λr=>#[r.1,.inl r.2]) λr=>#[r.1,.inr r.2]]
  show x∈ext s A ↔ _
  rw[e]
  exact #[λq=>q.elim (mi h) (mi h),λq=>BS G h q]
theorem iO:d5 s f mid z=true ↔ ext s ([f]++mid++[z])=[f]++mid++[z]:=by
 obtain ⟨v,t,u⟩:=c4 h
 constructor
 .intro p
  refine FU.mpr λy r=>?_
  rw[Bool.or_eq_true]
  have g:=r
  simp only[Ff,FJ] at g
  rcases g with (rfl | q) | rfl
  .exact .inl (NN_iff.mpr λa j c b k m=>by have:=(fW h j).1;omega)
  .have n:∀ a∈[f]++mid++[z],∀ c∈[f]++mid++[z],a < y->y < c->s.f a y c=s.f f y z:=λa j c b k m=>xw G h p j q b k m
   rcases G.pm f y z with e | e
   .rw[e] at n;exact .inl (NN_iff.mpr n)
   .rw[e] at n;exact .inr (NN_iff.mpr n)
  .exact .inl (NN_iff.mpr λa j c b k m=>by have:=(fW h b).2;omega)
 .intro b
  have d:∀ w:Int,(w=1\/w = -1)->rb s (sd s f mid z w) w=true:=λw hw=>by
   have hu:=lB G h b hw (A:=[f]++mid++[z]) (λx l=>l) λx l=>.inl l
   have o:=fN (s:=s) (way:=w) h
   refine List.all_eq_true.mpr λi hi=>Fw ?_
   have hi:=List.mem_range.mp hi
   exact hu.row _ (dG (by omega)) _ (dG (by omega)) _ (dG (by omega)) (o.at (by omega) (by omega)) (o.at (by omega) (by omega))
  unfold d5
  rw[d 1 (.inl rfl),d (-1) (.inr rfl)]
  rfl
end
def sgI (r:List Nat):Int:=if r.length % 2=0 then 1 else -1
def pt2 (n:Nat):List (List Nat):=(lx n 0).filter λr=>decide (2<=r.length)
def jF (n w:Nat) (A:List Nat):List Nat:=(List.range n).filter λx=>(decide (x∈A)).xor (decide (x=w))
theorem AB:∀ n:Nat,n<=7->1<=n->((pt2 n).map sgI).sum=(n:Int) - 1:=by decide +kernel
theorem Cy:∀ n:Nat,n<=7->∀ w,w < n->∀ A∈lx n 0,sgI (jF n w A) = - sgI A:=by decide +kernel
theorem oH:∀ n:Nat,n<=7->∀ w,w < n->∀ A∈lx n 0,jF n w (jF n w A)=A:=by decide +kernel
theorem mem_pt2 {n:Nat} {r:List Nat}:r∈pt2 n ↔ Ris n r/\2<=r.length:=by
 unfold pt2
 rw[FL,decide_eq_true_eq]
 constructor
 .rintro ⟨h1,h2⟩
  exact #[mM h1,h2]
 .rintro ⟨h1,h2⟩
  exact #[kJ _ _ _ h1.up λx a=>by have:=h1.lt x a;omega,h2]
theorem nX {n:Nat} (h:n<=7):(pt2 n).Nodup:=(kg n h).filter _
theorem mem_tog {n w:Nat} {A:List Nat} {x:Nat}:x∈jF n w A ↔ x < n/\((x∈A/\x≠w)\/(x ∉ A/\x=w)):=by
 unfold jF
 rw[FL,List.mem_range]
 by_cases a:x∈A <;> by_cases b:x=w <;> simp[a,b]
theorem jT {α:Type} {f:α->Int}:∀ {l:List α},(∀ x∈l,f x=0)->(l.map f).sum=0
 | [],_=>rfl
 | x::l,h=>by
  rw[Fv,List.sum_cons,h x E5,jT λy a=>h y (E6 _ a)];rfl
theorem jG {α:Type} {f g:α->Int} {l:List α} (h:∀ x∈l,f x=g x):(l.map f).sum=(l.map g).sum:=by
 rw[FX h]
theorem rW {α:Type} [DecidableEq α] {f:α->Int} {a:α}:∀ {l:List α},l.Nodup->a∈l->(l.map λx=>if x=a then f x else 0).sum=f a
 | x::l,hn,h=>by
  rw[List.nodup_cons] at hn
  rw[Fv,List.sum_cons]
  by_cases e:x=a
  .subst e
   rw[if_pos rfl,jT λy b=>if_neg λ(q:y=x)=>hn.1 (q ▸ b),Int.add_zero]
  .rw[if_neg e,Int.zero_add]
   exact rW hn.2 ((Fc.mp h).resolve_left λq=>e q.symm)
theorem l8 {α:Type} (f g:α->Int):∀ l:List α,(l.map λx=>f x+g x).sum=(l.map f).sum+(l.map g).sum
 | []=>rfl
 | x::l=>by
  simp only[Fv,List.sum_cons,l8 f g l]
  lia
theorem pW {α β:Type} (F:α->β->Int):∀ (l:List α) (m:List β),(l.map λa=>(m.map λb=>F a b).sum).sum=(m.map λb=>(l.map λa=>F a b).sum).sum
 | [],m=>by
  rw[jT (l:=m)]
  .rfl
  .intro x _;rfl
 | a::l,m=>by
  simp only[Fv,List.sum_cons]
  rw[pW F l m,l8]
theorem wV {α:Type} {f:α->Int} {l m:List α} (h:l.Perm m):(l.map f).sum=(m.map f).sum:=by
 induction h with
 | nil=>rfl
 | cons x _ ih=>simp only[Fv,List.sum_cons,ih]
 | swap x y l=>simp only[Fv,List.sum_cons];omega
 | trans _ _ a b=>exact a.trans b
section
variable {s:Sg} (G:Sgn s) (h7:s.length<=7)
def wK (s:Sg) (K:List Nat):List Nat:=wl s (K.headD 0) (K.tail.dropLast) (K.getLastD 0)
theorem pO (f z:Nat) (mid:List Nat):wK s ([f]++mid++[z])=wl s f mid z:=by
 have e:([f]++mid++[z]).getLastD 0=z:=by rw[List.getLastD_eq_getLast?,List.getLast?_append];rfl
 have a:([f]++mid++[z]).tail.dropLast=mid:=by
  show (mid++[z]).dropLast=mid
  rw[List.dropLast_concat]
 unfold wK
 rw[e,a]
 rfl
theorem oW {r:List Nat} (h:2<=r.length):∃ f mid z,r=[f]++mid++[z]:=by
 match r,h with
 | a::b::l,_ =>
  refine #[a,(b::l).dropLast,(b::l).getLast (by simp),?_]
  show a::b::l=a::((b::l).dropLast++[(b::l).getLast _])
  rw[List.dropLast_concat_getLast]
include G
theorem yU {A:List Nat} (hA:A∈pt2 s.length):ext s A∈pt2 s.length:=by
 obtain ⟨h1,h2⟩:=mem_pt2.mp hA
 obtain ⟨f,mid,z,rfl⟩:=oW h2
 obtain ⟨l,j,k⟩:=c4 h1
 refine mem_pt2.mpr #[h1.sub List.filter_sublist,?_]
 have hf:f∈ext s ([f]++mid++[z]):=ext_mem.mpr #[by simp,.inl (NN_iff.mpr λa d c g h i=>by have:=(fW h1 d).1;omega)]
 have hz:z∈ext s ([f]++mid++[z]):=ext_mem.mpr #[by simp,.inl (NN_iff.mpr λa d c g h i=>by have:=(fW h1 g).2;omega)]
 match e:ext s ([f]++mid++[z]),hf,hz with
 | [],hf,_=>cases hf
 | [x],hf,hz =>
  have a:=FJ.mp hf
  have b:=FJ.mp hz
  lia
 | _::_::_,_,_=>simp
include h7
theorem qR {K:List Nat} (t:K∈pt2 s.length):((pt2 s.length).map λA=>if ext s A=K then sgI A else 0).sum=if ext s K=K/\wK s K=[] then sgI K else 0:=by
 obtain ⟨h1,h2⟩:=mem_pt2.mp t
 obtain ⟨f,mid,z,rfl⟩:=oW h2
 rw[pO]
 by_cases c:ext s ([f]++mid++[z])=[f]++mid++[z]
 .have is:=λ{A:List Nat} (hA:A∈pt2 s.length)=>ip G h1 c (mem_pt2.mp hA).1
  by_cases d:wl s f mid z=[]
  .rw[if_pos #[c,d]]
   have:∀ A∈pt2 s.length,(if ext s A=[f]++mid++[z] then sgI A else 0)=if A=[f]++mid++[z] then sgI A else 0:=λA hA=>by
    by_cases e:ext s A=[f]++mid++[z]
    .obtain ⟨a,b⟩:=(is hA).mp e
     have:A=[f]++mid++[z]:=cL (mem_pt2.mp hA).1.up h1.up λx=>#[λg=>(b x g).resolve_right (by rw[d];exact λh=>nomatch h),a x]
     rw[if_pos e,if_pos this]
    .rw[if_neg e]
     by_cases k:A=[f]++mid++[z]
     .subst k;exact absurd c e
     .rw[if_neg k]
   rw[jG this]
   exact rW (nX h7) t
  .rw[if_neg λq=>d q.2]
   obtain ⟨w,hw⟩:=List.exists_mem_of_ne_nil _ d
   obtain ⟨F,J,o,_⟩:=(kD h1).mp hw
   obtain ⟨H,E,I⟩:=c4 h1
   have i:w < s.length:=by omega
   have key:∀ A∈lx s.length 0,(if 2<=(jF s.length w A).length/\ext s (jF s.length w A)=[f]++mid++[z] then sgI (jF s.length w A) else 0) = - (if 2<=A.length/\ext s A=[f]++mid++[z] then sgI A else 0):=λA hA=>by
    have p:=mM hA
    have u:Ris s.length (jF s.length w A):=#[List.pairwise_lt_range.filter _,λx g=>(mem_tog.mp g).1]
    have two:∀ B:List Nat,Ris s.length B->((2<=B.length/\ext s B=[f]++mid++[z]) ↔ ((∀ x∈[f]++mid++[z],x∈B)/\∀ x∈B,x∈[f]++mid++[z]\/x∈wl s f mid z)):=λB m=>by
     rw[ip G h1 c m]
     refine #[λq=>q.2,λq=>#[?_,q]]
     have a:=q.1 f (by simp)
     have b:=q.1 z (by simp)
     match B,a,b with
     | [],a,_=>cases a
     | [x],a,b =>
      have a:=FJ.mp a
      have b:=FJ.mp b
      lia
     | _::_::_,_,_=>simp
    have iff:(2<=(jF s.length w A).length/\ext s (jF s.length w A)=[f]++mid++[z]) ↔ (2<=A.length/\ext s A=[f]++mid++[z]):=by
     rw[two _ u,two _ p]
     constructor
     .rintro ⟨a,b⟩
      refine #[λx g=>?_,λx g=>?_]
      .rcases (mem_tog.mp (a x g)).2 with q | q
       .exact q.1
       .exact absurd (q.2 ▸ g) o
      .by_cases e:x=w
       .exact .inr (e ▸ hw)
       .exact b x (mem_tog.mpr #[p.lt x g,.inl #[g,e]])
     .rintro ⟨a,b⟩
      refine #[λx g=>mem_tog.mpr #[h1.lt x g,.inl #[a x g,λe=>o (e ▸ g)]],λx g=>?_]
      rcases (mem_tog.mp g).2 with q | q
      .exact b x q.1
      .exact .inr (q.2 ▸ hw)
    by_cases e:2<=A.length/\ext s A=[f]++mid++[z]
    .rw[if_pos e,if_pos (iff.mpr e)]
     exact Cy _ h7 w i A hA
    .rw[if_neg e,if_neg λq=>e (iff.mp q)];rfl
   have all:((lx s.length 0).map λA=>if 2<=A.length/\ext s A=[f]++mid++[z] then sgI A else 0).sum=0:=by
    have pm:((lx s.length 0).map (jF s.length w)).Perm (lx s.length 0):=by
     refine (List.perm_ext_iff_of_nodup ?_ (kg _ h7)).mpr λB=>?_
     .refine (List.pairwise_map.mpr ?_)
      refine (kg _ h7).imp_of_mem λy C n e=>n ?_
      rw[<- oH _ h7 w i _ y,e,oH _ h7 w i _ C]
     .rw[Fo]
      have j:∀ A,jF s.length w A∈lx s.length 0:=λA=>kJ _ _ _ (List.pairwise_lt_range.filter _) λx g=>by have:=(mem_tog.mp g).1;omega
      constructor
      .rintro ⟨A,_,rfl⟩;exact j A
      .intro m;exact #[jF s.length w B,j B,oH _ h7 w i B m]
    have e1:=wV (f:=λA=>if 2<=A.length/\ext s A=[f]++mid++[z] then sgI A else 0) pm
    rw[FW] at e1
    have k:((lx s.length 0).map ((λA=>if 2<=A.length/\ext s A=[f]++mid++[z] then sgI A else 0) ∘ jF s.length w)).sum=((lx s.length 0).map λA=>- (if 2<=A.length/\ext s A=[f]++mid++[z] then sgI A else 0)).sum:=jG key
    have v:∀ l:List (List Nat),(l.map λA=>- (if 2<=A.length/\ext s A=[f]++mid++[z] then sgI A else 0)).sum = - (l.map λA=>if 2<=A.length/\ext s A=[f]++mid++[z] then sgI A else 0).sum:=λl=>by
     induction l with
     | nil=>rfl
     | cons x l ih=>simp only[Fv,List.sum_cons,ih];omega
    rw[k,v] at e1
    lia
   have D:∀ l:List (List Nat),((l.filter λr=>decide (2<=r.length)).map λA=>if ext s A=[f]++mid++[z] then sgI A else 0).sum=(l.map λA=>if 2<=A.length/\ext s A=[f]++mid++[z] then sgI A else 0).sum:=λl=>by
    induction l with
    | nil=>rfl
    | cons x l ih =>
     rw[List.filter_cons,Fv,List.sum_cons,<- ih]
     by_cases q:2<=x.length
     .rw[if_pos (Fw q),Fv,List.sum_cons]
      simp[q]
     .rw[if_neg (by simpa using q),if_neg λr=>q r.1,Int.zero_add]
   show ((pt2 s.length).map _).sum=0
   unfold pt2
   rw[D,all]
 .rw[if_neg λq=>c q.1]
  refine jT λA hA=>if_neg λe=>c ?_
  rw[<- e,uF]
theorem wa (h1:1<=s.length):((pt2 s.length).map λK=>if ext s K=K/\wK s K=[] then sgI K else 0).sum=(s.length:Int) - 1:=by
 rw[<- jG λK b=>qR G h7 b,pW]
 rw[jG (g:=sgI) λA hA=>?_]
 .exact AB _ h7 h1
 .have:=rW (f:=λ_=>sgI A) (a:=ext s A) (nX h7) (yU G hA)
  refine Eq.trans (jG λK _=>?_) this
  by_cases e:ext s A=K
  .rw[if_pos e,if_pos e.symm]
  .rw[if_neg e,if_neg λq=>e q.symm]
end
def emS (s:Sg) (r:List Nat):Bool:=isR s r && decide (wK s r=[])
def fT (n x:Nat) (P:List Nat):List Nat:=(List.range n).filter λy=>decide (y∈P) || decide (y=x)
theorem jo {n x:Nat} {P:List Nat} (b:x < n) (a:∀ y∈P,y < n) {y:Nat}:y∈fT n x P ↔ y∈P\/y=x:=by
 unfold fT
 rw[FL,List.mem_range,Bool.or_eq_true,decide_eq_true_eq,decide_eq_true_eq]
 refine #[λh=>h.2,λh=>#[?_,h]]
 rcases h with h | h
 .exact a y h
 .lia
theorem ins_ris {n x:Nat} {P:List Nat}:Ris n (fT n x P):=#[List.pairwise_lt_range.filter _,λy a=>List.mem_range.mp (FL.mp a).1]
theorem ul {P K:List Nat} (a:P.Pairwise (· < ·)) (b:K.Pairwise (· < ·)) (sub:∀ x∈P,x∈K):P.length<=K.length:=by
 have e:P=K.filter λy=>decide (y∈P):=cL a (b.filter _) λx=>by
  rw[FL,decide_eq_true_eq]
  exact #[λh=>#[sub x h,h],λh=>h.2]
 rw[e]
 exact List.length_filter_le _ _
section
variable {s:Sg} (G:Sgn s)
include G
theorem ko {K:List Nat} (d:Ris s.length K) (h3:3<=K.length):emS s K=true ↔ ext s K=K/\∀ A,Ris s.length A->ext s A=K->A=K:=by
 obtain ⟨f,mid,z,rfl,hm⟩:=f9 h3
 unfold emS
 rw[Bool.and_eq_true,kN _ hm,iO G d,decide_eq_true_eq,pO]
 refine and_congr_right λc=>?_
 constructor
 .intro e A hA q
  obtain ⟨a,b⟩:=(ip G d c hA).mp q
  exact cL hA.up d.up λx=>#[λg=>(b x g).resolve_right (by rw[e];exact λh=>nomatch h),a x]
 .intro H
  refine List.eq_nil_iff_forall_not_mem.mpr λx g=>?_
  obtain ⟨l,o,k,_⟩:=(kD d).mp g
  obtain ⟨m,_,_⟩:=c4 d
  have i:x < s.length:=by omega
  have mem:=λ{y:Nat}=>jo (n:=s.length) (y:=y) i d.lt
  have e:=H (fT s.length x ([f]++mid++[z])) ins_ris ((ip G d c ins_ris).mpr ⟨λy j=>mem.mpr (.inl j),λy j=>by
   rcases mem.mp j with h | h
   .exact .inl h
   .exact .inr (h ▸ g)⟩)
  have:x∈fT s.length x ([f]++mid++[z]):=mem.mpr (.inr rfl)
  rw[e] at this
  exact k this
theorem pK {P:List Nat} (d:Ris s.length P) (h2:2<=P.length) (c:ext s P=P) {A:List Nat} (hA:Ris s.length A) (e:ext s A=P) {x:Nat} (i:x∈A):ext s (fT s.length x P)=P:=by
 obtain ⟨f,mid,z,rfl⟩:=oW h2
 obtain ⟨a,b⟩:=(ip G d c hA).mp e
 have mem:=λ{y:Nat}=>jo (n:=s.length) (y:=y) (hA.lt x i) d.lt
 refine (ip G d c ins_ris).mpr #[λy g=>mem.mpr (.inl g),λy g=>?_]
 rcases mem.mp g with h | h
 .exact .inl h
 .rw[h];exact b x i
omit G in
theorem pL {A:List Nat} {x:Nat} (a:x∈ext s A):∃ w,(w=1\/w = -1)/\NN s A w x=true:=by
 rcases (ext_mem.mp a).2 with h | h
 .exact #[1,.inl rfl,h]
 .exact #[-1,.inr rfl,h]
omit G in
theorem pp {A:List Nat} {x:Nat} (a:x∈A) {w:Int} (hw:w=1\/w = -1) (h:NN s A w x=true):x∈ext s A:=by
 refine ext_mem.mpr #[a,?_]
 rcases hw with rfl | rfl
 .exact .inl h
 .exact .inr h
theorem y6 {K P:List Nat} (i:Ris s.length K) (j:Ris s.length P) (h3:3<=P.length) (sub:∀ x∈P,x∈K) (h:emS s K=true):emS s P=true:=by
 have k3:3<=K.length:=by
  have:=ul j.up i.up sub
  lia
 obtain ⟨c,H⟩:=(ko G i k3).mp h
 have t:ext s P=P:=FU.mpr λx f=>by
  have:x∈ext s K:=by rw[c];exact sub x f
  obtain ⟨w,hw,n⟩:=pL this
  have n:=k7 (B:=P) sub n
  rw[Bool.or_eq_true]
  rcases hw with rfl | rfl
  .exact .inl n
  .exact .inr n
 refine (ko G j h3).mpr #[t,λA hA e=>?_]
 refine Classical.byContradiction λne=>?_
 have:∃ x∈A,x ∉ P:=by
  refine Classical.byContradiction λq=>ne ?_
  refine cL hA.up j.up λx=>#[λf=>Classical.byContradiction λr=>q #[x,f,r],λf=>?_]
  rw[<- e] at f
  exact (ext_mem.mp f).1
 obtain ⟨x,f,p⟩:=this
 have e1:=pK G j (by omega) t hA e f
 have k:=hA.lt x f
 have b:=λ{y:Nat}=>jo (n:=s.length) (P:=P) (y:=y) k j.lt
 by_cases l:x∈K
 .have:x∈ext s K:=by rw[c];exact l
  obtain ⟨w,hw,n⟩:=pL this
  have n:=k7 (B:=fT s.length x P) (λy d=>by
   rcases b.mp d with q | q
   .exact sub y q
   .rw[q];exact l) n
  have:=pp (b.mpr (.inr rfl)) hw n
  rw[e1] at this
  exact p this
 .have a:=λ{y:Nat}=>jo (n:=s.length) (P:=K) (y:=y) k i.lt
  have D:x ∉ ext s (fT s.length x K):=λq=>by
   obtain ⟨w,hw,n⟩:=pL q
   have n:=k7 (B:=fT s.length x P) (λy d=>by
    rcases b.mp d with q | q
    .exact a.mpr (.inl (sub y q))
    .exact a.mpr (.inr q)) n
   have:=pp (b.mpr (.inr rfl)) hw n
   rw[e1] at this
   exact p this
  have o:∀ y∈ext s (fT s.length x K),y∈K:=λy d=>by
   rcases a.mp (ext_mem.mp d).1 with q | q
   .exact q
   .exact absurd (q ▸ d) D
  have z:fT s.length x K∈pt2 s.length:=mem_pt2.mpr ⟨ins_ris,by
   have:=ul (K:=fT s.length x K) i.up ins_ris.up λy d=>a.mpr (.inl d)
   lia⟩
  obtain ⟨hE,m⟩:=mem_pt2.mp (yU G z)
  have F:∀ y∈K,y∈ext s (fT s.length x K):=λy d=>by
   refine Classical.byContradiction λr=>?_
   have C:=pK G hE m (uF _) (A:=fT s.length x K) ins_ris rfl (x:=y) (a.mpr (.inl d))
   have g:=λ{v:Nat}=>jo (n:=s.length) (P:=ext s (fT s.length x K)) (y:=v) (i.lt y d) hE.lt
   have:y∈ext s K:=by rw[c];exact d
   obtain ⟨w,hw,n⟩:=pL this
   have n:=k7 (B:=fT s.length y (ext s (fT s.length x K))) (λv E=>by
    rcases g.mp E with q | q
    .exact o v q
    .rw[q];exact d) n
   have:=pp (g.mpr (.inr rfl)) hw n
   rw[C] at this
   exact r this
  have u:ext s (fT s.length x K)=K:=cL hE.up i.up λy=>#[o y,F y]
  have:=H _ ins_ris u
  have q:x∈fT s.length x K:=a.mpr (.inr rfl)
  rw[this] at q
  exact l q
omit G in
theorem vW:∀ j e c g a b h f d i:Bool,
  ((j == e && e == g) || (j == e && g == h) || (e == g && g == h))=true ->
  ((j == c && c == a) || (j == c && a == f) || (c == a && a == f))=true ->
  ((e == c && c == b) || (e == c && b == d) || (c == b && b == d))=true ->
  ((g == a && a == b) || (g == a && b == i) || (a == b && b == i))=true ->
  ((h == f && f == d) || (h == f && d == i) || (f == d && d == i))=true ->
  ((h == f && d == i) || (j == e && g == h) || (g == a && b == i && j == e && e == c) || (e == c && b == d && g == a && a == h && h == f) || (j == c && a == f && b == d && d == i))=true:=by decide +kernel
theorem i9 {a b c d x:Nat} (h1:a < b) (h2:b < c) (h3:c < d) (hd:d < s.length) (C:x < s.length) (only:∀ y,a < y->y < d->y ∉ [a,b,c,d]->y=x) (e1:s.f a b c=s.f a b d) (D:s.f a c d=s.f b c d) (H:x ∉ [a,b,c,d])
  {w:Int} (hw:w=1\/w = -1) (hn:∀ y∈[a,b,c,d,x],∀ v∈[a,b,c,d,x],y < x->x < v->s.f y x v=w):emS s [a,b,c,d]=true:=by
 have m:Ris s.length [a,b,c,d]:=#[by simp;omega,λy g=>by simp at g;omega]
 have cl:ext s [a,b,c,d]=[a,b,c,d]:=FU.mpr λy g=>by
  have:∀ w:Int,(w=1\/w = -1)->NN s [a,b,c,d] w y=true->(NN s [a,b,c,d] 1 y || NN s [a,b,c,d] (-1) y)=true:=λw hw n=>by
   rw[Bool.or_eq_true]
   rcases hw with rfl | rfl
   .exact .inl n
   .exact .inr n
  simp only[Fc,List.not_mem_nil,or_false] at g
  rcases g with rfl | rfl | rfl | rfl
  .exact this 1 (.inl rfl) (NN_iff.mpr λu hu v h j k=>by simp at hu;omega)
  .refine this (s.f a y c) (G.pm _ _ _) (NN_iff.mpr λu hu v h j k=>?_)
   have p:u=a:=by simp at hu;omega
   have ev:v=c\/v=d:=by simp at h;omega
   subst p
   rcases ev with rfl | rfl
   .rfl
   .exact e1.symm
  .refine this (s.f a y d) (G.pm _ _ _) (NN_iff.mpr λu hu v h j k=>?_)
   have ev:v=d:=by simp at h;omega
   have p:u=a\/u=b:=by simp at hu;omega
   subst ev
   rcases p with rfl | rfl
   .rfl
   .exact D.symm
  .exact this 1 (.inl rfl) (NN_iff.mpr λu hu v h j k=>by simp at h;omega)
 refine (ko G m (by simp)).mpr #[cl,λA hA e=>?_]
 refine Classical.byContradiction λne=>?_
 have l:Ris s.length ([a]++[b,c]++[d]):=m
 have:∃ y∈A,y ∉ [a,b,c,d]:=by
  refine Classical.byContradiction λq=>ne ?_
  refine cL hA.up m.up λy=>#[λg=>Classical.byContradiction λr=>q #[y,g,r],λg=>?_]
  rw[<- e] at g
  exact (ext_mem.mp g).1
 obtain ⟨y,g,t⟩:=this
 have z:=((ip G l cl hA).mp e).2 y g
 have z:=z.resolve_left t
 obtain ⟨j,k,_⟩:=(kD l).mp z
 have F:=only y j k t
 subst F
 have B:=pK G m (by simp) cl hA e g
 have mem:=λ{v:Nat}=>jo (n:=s.length) (P:=[a,b,c,d]) (y:=v) C m.lt
 have o:y∈fT s.length y [a,b,c,d]:=mem.mpr (.inr rfl)
 have i:∀ v∈fT s.length y [a,b,c,d],v∈[a,b,c,d,y]:=λv h=>by
  rcases mem.mp h with q | q
  .simp at q ⊢;omega
  .simp[q]
 have:=pp o hw (NN_iff.mpr λu hu v h E v1=>hn u (i u hu) v (i v h) E v1)
 rw[B] at this
 exact t this
end
section
variable {s:Sg} (G:Sgn s)
def bS (s:Sg) (i j k:Nat):Bool:=decide (s.f i j k=1)
include G
theorem eqB {i j k a c b:Nat} (h:(bS s i j k == bS s a c b)=true):s.f i j k=s.f a c b:=by
 have h:=eq_of_beq h
 unfold bS at h
 rw[decide_eq_decide] at h
 have:=G.pm i j k
 have:=G.pm a c b
 lia
theorem axB {i j k l:Nat} (h1:i < j) (h2:j < k) (h3:k < l) (c:l < s.length):((bS s i j k == bS s i j l && bS s i j l == bS s i k l) || (bS s i j k == bS s i j l && bS s i k l == bS s j k l) || (bS s i j l == bS s i k l && bS s i k l == bS s j k l))=true:=by
 unfold bS
 rcases G.ax i j k l h1 h2 h3 c with ⟨a,b⟩ | ⟨a,b⟩ | ⟨a,b⟩ <;> simp[a,b]
theorem Bu (u:5<=s.length):∃ r∈lx s.length 0,emS s r=true/\r.length=4:=by
 have p:=vW (bS s 0 1 2) (bS s 0 1 3) (bS s 0 1 4) (bS s 0 2 3) (bS s 0 2 4) (bS s 0 3 4) (bS s 1 2 3) (bS s 1 2 4) (bS s 1 3 4) (bS s 2 3 4)
  (axB G (by decide) (by decide) (by decide) (by omega)) (axB G (by decide) (by decide) (by decide) (by omega)) (axB G (by decide) (by decide) (by decide) (by omega)) (axB G (by decide) (by decide) (by decide) (by omega)) (axB G (by decide) (by decide) (by decide) (by omega))
 have fin:∀ a b c d,a < b->b < c->c < d->d < 5->emS s [a,b,c,d]=true->∃ r∈lx s.length 0,emS s r=true/\r.length=4:=λa b c d h k i z e=>#[[a,b,c,d],kJ _ _ _ (by simp;omega) (λx t=>by simp at t;omega),e,rfl]
 simp only[Bool.or_eq_true,Bool.and_eq_true] at p
 rcases p with (((⟨a1,a2⟩ | ⟨a1,a2⟩) | ⟨⟨⟨a1,a2⟩,l⟩,m⟩) | ⟨⟨⟨⟨a1,a2⟩,l⟩,m⟩,q⟩) | ⟨⟨⟨a1,a2⟩,l⟩,m⟩
 .refine fin 1 2 3 4 (by decide) (by decide) (by decide) (by decide) (i9 G (x:=0) (w:=1) (by decide) (by decide) (by decide) (by omega) (by omega) (λy h k i=>by simp at i;omega) (eqB G a1) (eqB G a2) (by decide) (.inl rfl) λy j v g h k=>by omega)
 .refine fin 0 1 2 3 (by decide) (by decide) (by decide) (by decide) (i9 G (x:=4) (w:=1) (by decide) (by decide) (by decide) (by omega) (by omega) (λy h k i=>by simp at i;omega) (eqB G a1) (eqB G a2) (by decide) (.inl rfl) λy j v g h k=>by simp at g;omega)
 .have n:=eqB G l
  have o:=eqB G m
  refine fin 0 2 3 4 (by decide) (by decide) (by decide) (by decide) (i9 G (x:=1) (w:=s.f 0 1 2) (by decide) (by decide) (by decide) (by omega) (by omega) (λy h k i=>by simp at i;omega) (eqB G a1) (eqB G a2) (by decide) (G.pm _ _ _) λy j v g h k=>?_)
  simp only[Fc,List.not_mem_nil,or_false] at j g
  rcases j with rfl | rfl | rfl | rfl | rfl <;> rcases g with rfl | rfl | rfl | rfl | rfl <;> omega
 .have n:=eqB G l
  have o:=eqB G m
  have A:=eqB G q
  refine fin 0 1 3 4 (by decide) (by decide) (by decide) (by decide) (i9 G (x:=2) (w:=s.f 0 2 3) (by decide) (by decide) (by decide) (by omega) (by omega) (λy h k i=>by simp at i;omega) (eqB G a1) (eqB G a2) (by decide) (G.pm _ _ _) λy j v g h k=>?_)
  simp only[Fc,List.not_mem_nil,or_false] at j g
  rcases j with rfl | rfl | rfl | rfl | rfl <;> rcases g with rfl | rfl | rfl | rfl | rfl <;> omega
 .have n:=eqB G l
  have o:=eqB G m
  refine fin 0 1 2 4 (by decide) (by decide) (by decide) (by decide) (i9 G (x:=3) (w:=s.f 0 3 4) (by decide) (by decide) (by decide) (by omega) (by omega) (λy h k i=>by simp at i;omega) (eqB G a1) (eqB G a2) (by decide) (G.pm _ _ _) λy j v g h k=>?_)
  simp only[Fc,List.not_mem_nil,or_false] at j g
  rcases j with rfl | rfl | rfl | rfl | rfl <;> rcases g with rfl | rfl | rfl | rfl | rfl <;> omega
end
def cE (l:List (List Nat)) (m:Nat):Int:=((l.filter λr=>decide (r.length=m)).length:Nat)
theorem BL (r:List Nat) (l:List (List Nat)) (m:Nat):cE (r::l) m=(if r.length=m then 1 else 0)+cE l m:=by
 unfold cE
 rw[List.filter_cons]
 by_cases h:r.length=m
 .rw[if_pos (Fw h),if_pos h,FE];omega
 .rw[if_neg (by simpa using h),if_neg h];omega
theorem zn:∀ {l:List (List Nat)},(∀ r∈l,3<=r.length/\r.length<=8)->(l.map sgI).sum = - cE l 3+cE l 4 - cE l 5+cE l 6 - cE l 7+cE l 8
 | [],_=>rfl
 | r::l,h=>by
  have b:=zn (l:=l) λq a=>h q (E6 _ a)
  obtain ⟨h1,h2⟩:=h r E5
  rw[Fv,List.sum_cons,b]
  simp only[BL]
  unfold sgI
  have:r.length=3\/r.length=4\/r.length=5\/r.length=6\/r.length=7\/r.length=8:=by omega
  rcases this with e | e | e | e | e | e <;> rw[e] <;> simp <;> omega
section
variable {s:Sg} (G:Sgn s) (h7:s.length<=7)
include G h7
theorem uK {r:List Nat} (a:r∈lx s.length 0) (h:emS s r=true):3<=r.length/\r.length<=7:=by
 have:=(mM a).len
 refine #[?_,by omega]
 unfold emS at h
 rw[Bool.and_eq_true] at h
 refine Classical.byContradiction λc=>?_
 rw[jp _ (by omega)] at h
 cases h.1
theorem yZ {K:List Nat} (k:K∈lx s.length 0):(if 2<=K.length/\(ext s K=K/\wK s K=[]) then sgI K else 0)=(if K.length=2 then (1:Int) else 0)+(if emS s K=true then sgI K else 0):=by
 have g:=mM k
 by_cases c:3<=K.length
 .rw[if_neg (by omega:¬ K.length=2),Int.zero_add]
  obtain ⟨f,mid,z,rfl,hm⟩:=f9 c
  have:emS s ([f]++mid++[z])=true ↔ 2<=([f]++mid++[z]).length/\(ext s ([f]++mid++[z])=[f]++mid++[z]/\wK s ([f]++mid++[z])=[]):=by
   unfold emS
   rw[Bool.and_eq_true,kN _ hm,iO G g,decide_eq_true_eq]
   exact #[λh=>#[by omega,h],λh=>h.2]
  by_cases e:emS s ([f]++mid++[z])=true
  .rw[if_pos e,if_pos (this.mp e)]
  .rw[if_neg e,if_neg λq=>e (this.mpr q)]
 .have ne:¬ emS s K=true:=λq=>by have:=(uK G h7 k q).1;omega
  rw[if_neg ne,Int.add_zero]
  by_cases d:K.length=2
  .rw[if_pos d]
   obtain ⟨f,mid,z,rfl⟩:=oW (r:=K) (by omega)
   have hm:mid=[]:=by simpa using d
   subst hm
   have cl:=(iO G g).mp rfl
   have n:wK s ([f]++[]++[z])=[]:=by
    rw[pO]
    refine List.eq_nil_iff_forall_not_mem.mpr λx o=>?_
    obtain ⟨j,l,_,m,p⟩:=(kD g).mp o
    have a:=m f (sd_mem.mpr (.inl rfl)) z (sd_mem.mpr (.inr (.inr rfl))) j l (λr i=>by
     rcases sd_mem.mp i with q | ⟨q,_⟩ | q
     .omega
     .cases q
     .omega)
    have b:=p f (sd_mem.mpr (.inl rfl)) z (sd_mem.mpr (.inr (.inr rfl))) j l (λr i=>by
     rcases sd_mem.mp i with q | ⟨q,_⟩ | q
     .omega
     .cases q
     .omega)
    lia
   rw[if_pos #[by omega,cl,n]]
   unfold sgI
   rw[d];rfl
  .rw[if_neg d,if_neg λq=>by omega]
omit G h7 in
theorem zK:∀ n:Nat,n<=7->((lx n 0).map λK=>if K.length=2 then (1:Int) else 0).sum=(n:Int) * (n - 1) / 2:=by decide +kernel
omit G h7 in
theorem l7 {α:Type} {f:α->Int} {p:α->Bool}:∀ l:List α,((l.filter p).map f).sum=(l.map λx=>if p x=true then f x else 0).sum
 | []=>rfl
 | x::l=>by
  rw[List.filter_cons,Fv,List.sum_cons,<- l7 l]
  by_cases h:p x=true
  .rw[if_pos h,if_pos h,Fv,List.sum_cons]
  .rw[if_neg h,if_neg h,Int.zero_add]
theorem BO (h1:1<=s.length):cE ((lx s.length 0).filter (emS s)) 3 - cE ((lx s.length 0).filter (emS s)) 4+cE ((lx s.length 0).filter (emS s)) 5 - cE ((lx s.length 0).filter (emS s)) 6+cE ((lx s.length 0).filter (emS s)) 7 - cE ((lx s.length 0).filter (emS s)) 8=(s.length:Int) * (s.length - 1) / 2 - (s.length - 1):=by
 have a:=wa G h7 h1
 have b:((pt2 s.length).map λK=>if ext s K=K/\wK s K=[] then sgI K else 0).sum=((lx s.length 0).map λK=>if 2<=K.length/\(ext s K=K/\wK s K=[]) then sgI K else 0).sum:=by
  unfold pt2
  rw[l7]
  refine jG λK _=>?_
  by_cases q:2<=K.length
  .rw[if_pos (Fw q)]
   by_cases r:ext s K=K/\wK s K=[]
   .rw[if_pos r,if_pos #[q,r]]
   .rw[if_neg r,if_neg λt=>r t.2]
  .rw[if_neg (by simpa using q),if_neg λt=>q t.1]
 rw[b,jG λK e=>yZ G h7 e,l8,zK _ h7,<- l7] at a
 have c:=zn (l:=(lx s.length 0).filter (emS s)) λr d=>by
  obtain ⟨p,q⟩:=FL.mp d
  have:=uK G h7 p q
  lia
 lia
end
def upx (g i:Nat):Nat:=if i < g then i else i+1
theorem upx_lt {g i j:Nat}:upx g i < upx g j ↔ i < j:=by unfold upx;split <;> split <;> omega
theorem zI {g i j:Nat} (h:upx g i=upx g j):i=j:=by unfold upx at h;split at h <;> split at h <;> omega
section
variable {s s':Sg} (G:Sgn s) (G':Sgn s') {g:Nat} (hl:s'.length+1=s.length) (hg:g < s.length) (hf:∀ i j k,i < j->j < k->k < s'.length->s'.f i j k=s.f (upx g i) (upx g j) (upx g k))
include hl hg hf
theorem ui {A:List Nat} (h:Ris s'.length A):Ris s.length (A.map (upx g)):=⟨List.pairwise_map.mpr (h.up.imp λq=>upx_lt.mpr q),λx b=>by
 obtain ⟨y,a,rfl⟩:=Fo.mp b
 have:=h.lt y a
 unfold upx;split <;> omega⟩
theorem zC {A:List Nat} (h:Ris s'.length A) (w:Int) {x:Nat} (m:x∈A):NN s (A.map (upx g)) w (upx g x)=NN s' A w x:=by
 rw[Bool.eq_iff_iff,NN_iff,NN_iff]
 constructor
 .intro H a j c f b e
  rw[hf a x c b e (h.lt c f)]
  exact H _ (List.mem_map_of_mem j) _ (List.mem_map_of_mem f) (upx_lt.mpr b) (upx_lt.mpr e)
 .intro H a j c f b e
  obtain ⟨l,i,rfl⟩:=Fo.mp j
  obtain ⟨k,d,rfl⟩:=Fo.mp f
  have:=H l i k d (upx_lt.mp b) (upx_lt.mp e)
  rw[hf l x k (upx_lt.mp b) (upx_lt.mp e) (h.lt k d)] at this
  exact this
theorem uE {A:List Nat} (h:Ris s'.length A):ext s (A.map (upx g))=(ext s' A).map (upx g):=by
 unfold ext
 rw[List.filter_map]
 congr 1
 refine List.filter_congr λx a=>?_
 show (NN s (A.map (upx g)) 1 (upx g x) || NN s (A.map (upx g)) (-1) (upx g x))=_
 rw[zC hl hg hf h 1 a,zC hl hg hf h (-1) a]
include G G'
theorem qY {K:List Nat} (a:Ris s'.length K) (h3:3<=K.length) (h:emS s (K.map (upx g))=true):emS s' K=true:=by
 have inj:∀ {A B:List Nat},A.map (upx g)=B.map (upx g)->A=B:=λ{A B} e=>(List.map_inj_right (f:=upx g) λ_ _ q=>zI q).mp e
 obtain ⟨c,H⟩:=(ko G (ui hl hg hf a) (by rw[Fh];exact h3)).mp h
 refine (ko G' a h3).mpr #[?_,λA hA e=>?_]
 .rw[uE hl hg hf a] at c
  exact inj c
 .have:=H _ (ui hl hg hf hA) (by rw[uE hl hg hf hA,e])
  exact inj this
end
variable {k:Int}
theorem tO (h1:3<=k) (h2:k<=24):bH [(.int k,.z),(.int 3,.z),(.int 24,.z)]=some (.ok (.non,.z),[(.int k,.z),(.int 3,.z),(.int 24,.z)]):=by
 have c:leI (.int 3) (.int k)=#v[.bl true]:=by simp[dF,h1]
 have a:leI (.int k) (.int 24)=#v[.bl true]:=by simp[dF,h2]
 have f:=kH k
 apply BT (Z:=[#v[.int k],#v[.int 3],#v[.int 24]]) rfl rfl
 .apply b7
  .apply kj (b:=false)
   .apply io (b:=true)
    nomatch [f]
   .rfl
   .exact io (bG (lV (af rfl) (af rfl) rfl rfl c (af rfl) rfl rfl a) rfl)
  .rfl
  .rfl
 .rfl
theorem By (W:List Nat):eqX (.lst (Nd W)) (.lst [])=#v[.bl (decide (Nd W=[]))]:=by
 obtain ⟨qs,e1,b,d,a⟩:=B9 (λi:Nat=>(i:Int)) W
 have a:qs.length=(Nd W).length:=by rw[a,Fh]
 have e1:mw (Nd W)=some qs:=e1
 generalize Nd W=X at *
 have c:pyD (.lst X)=some (.list qs):=by unfold pyD;rw[e1];rfl
 have h:eqP (.lst X) (.lst [])=some (decide (X=[])):=by
  have p2:pyD (.lst [])=some (.list []):=rfl
  unfold eqP
  rw[c,p2]
  have:((PyData.list qs).canLay0 && (PyData.list []).canLay0 && decide (min (PyData.list qs).depth (PyData.list []).depth<=30))=true:=by
   simp[PyData.canLay0,b,PyData.depth,PyData.canLayAll0];lia
  show (if _ then _ else _)=_
  rw[if_pos this]
  cases X with
  | nil =>
   have:qs=[]:=FZ.mp a
   subst this
   rfl
  | cons x L =>
   cases qs with
   | nil=>simp at a
   | cons y qs =>
    have:decide (x::L=[])=false:=by simp
    rw[this];rfl
 show (eqA (.lst X) (.lst [])).map _=_
 have h1:eqA (.lst X) (.lst [])=some (decide (X=[])):=h
 rw[h1];rfl
theorem uI (W:List Nat):eqX (.lst (Nd W)) (.lst [])=#v[.bl (decide (W=[]))]:=by
 rw[By,show decide (Nd W=[])=decide (W=[]) by rw[decide_eq_decide,List.map_eq_nil_iff]]
theorem sP {α β:Type} {F:α->List β} {c:Nat}:∀ {l:List α},(∀ x∈l,(F x).length<=c)->(l.flatMap F).length<=l.length * c
 | [],_=>by simp
 | x::l,h=>by
  have h1:=h x E5
  have h2:=sP (F:=F) (c:=c) (l:=l) λy a=>h y (E6 _ a)
  rw[List.flatMap_cons,FD,FE,Nat.succ_mul]
  lia
theorem nQ {s:Sg} {w:Int} {f:Nat}:∀ {m i j:Nat},i<=24->(fD s w f m i j).length<=25 ^ m
 | 0,i,j,_=>by
  show (if i=f then [[i,j]] else []).length<=1
  split <;> simp
 | m+1,i,j,hi=>by
  show ((if i=f then [[i,j]] else [])++_).length<=_
  rw[FD]
  have h1:(if i=f then [[i,j]] else []).length<=1:=by split <;> simp
  have h2:=sP (l:=List.range i) (c:=25 ^ m) (F:=λh=>if decide (f<=h) && decide (s.f h i j=w) then (fD s w f m h i).map (·++[j]) else []) λx a=>by
   rw[List.mem_range] at a
   split
   .rw[Fh];exact nQ (by omega)
   .exact Nat.zero_le _
  rw[List.length_range] at h2
  have h3:i * 25 ^ m<=24 * 25 ^ m:=Nat.mul_le_mul_right _ hi
  have b:1<=25 ^ m:=Nat.pow_le_pow_right (n:=25) (by decide) (Nat.zero_le m)
  rw[Nat.pow_succ]
  lia
theorem Cz {s:Sg} {w:Int} {f z:Nat} (hz:z<=8):(av s w f z).length<=8 * 25 ^ 8:=by
 unfold av
 refine FR (sP (c:=25 ^ 8) λi hi=>?_) ?_
 .rw[List.mem_range] at hi
  split
  .exact FR (nQ (by omega)) (Nat.pow_le_pow_right (by decide) (by omega))
  .exact Nat.zero_le _
 .rw[List.length_range];exact Nat.mul_le_mul_right _ hz
theorem EO (A:List (List Nat)) (p:Nat):cn A p<=A.length:=List.length_filter_le _ _
theorem wI {s:Sg} {w:Int} {f z:Nat} (h:f < z):∀ r∈av s w f z,2<=r.length:=λr a=>by
 obtain ⟨⟨mid,rfl⟩,_⟩:=(bj h).mp a
 simp
abbrev rS (H M:L3.D) (T:List (List Key×L3.D)) (a v4 v5 v6 v7 v8 v9:Option (L3.D×Fl)):Sto:=[#v[H],#v[M],some (.dt T,.u),a,v4,v5,v6,v7,v8,v9]
section
variable {A B:List (List Nat)} {m:Nat} (h3:3<=m) (hm:m<=24) (hA:A.length<=8 * 25 ^ 8)
include h3 hm hA
theorem CW {H:L3.D} {T:List (List Key×L3.D)} {v3 v4 v5 v6 v7:Option (L3.D×Fl)}:iz (rS H (.int m) T v3 v4 v5 v6 v7 (some (.lst (lI (cn A)),.u)) (some (.lst (lI (cn B)),.u)))=some (.ok (.val (.lst ((List.range (m - 1)).map λk=>.int ((cn A (2+k) * cn B (m+2 - (2+k)):Nat):Int))) .u),rS H (.int m) T v3 v4 v5 v6 v7 (some (.lst (lI (cn A)),.u)) (some (.lst (lI (cn B)),.u))):=by
 have b:cN [.int 2,.int ((m:Int)+1)]=some (aJ 2 (m - 1)):=c0 (by decide) (by omega) (by omega)
 obtain ⟨Y',e,d,rfl⟩:=aR (bnd:=ao 0) (c:=b9) (elt:=cI) (λY=>∃ v,Y=[v,some (.lst (lI (cn A)),.u),some (.lst (lI (cn B)),.u),#v[.int (m:Int)]]) (λk:Nat=>L3.D.int ((2:Int)+(k:Int))) (λ_=>true) (λk:Nat=>L3.D.int ((cn A (2+k) * cn B (m+2 - (2+k)):Nat):Int)) (xs:=List.range (m - 1)) (Y:=[none,some (.lst (lI (cn A)),.u),some (.lst (lI (cn B)),.u),#v[.int (m:Int)]]) #[none,rfl] (by
  rintro k a Y ⟨v,rfl⟩
  rw[List.mem_range] at a
  have g1:aC (.lst (lI (cn A))) (.int (2+(k:Int)))=#v[.int (cn A (2+k):Int)]:=by
   have:=qO (g:=cn A) (p:=2+k) (by omega)
   rw[show ((2+k:Nat):Int)=2+(k:Int) by omega] at this
   exact jU this
  have a1:ba (.int (m:Int)) (.int 2)=#v[.int ((m:Int)+2)]:=rfl
  have a2:cy (.int ((m:Int)+2)) (.int (2+(k:Int)))=#v[.int ((m+2 - (2+k):Nat):Int)]:=by
   rw[show ((m+2 - (2+k):Nat):Int)=(m:Int)+2 - (2+(k:Int)) by omega]
   rfl
  have g2:aC (.lst (lI (cn B))) (.int ((m+2 - (2+k):Nat):Int))=#v[.int (cn B (m+2 - (2+k)):Int)]:=jU (qO (by omega))
  have bd:=FR (EO A (2+k)) hA
  have g3:=fE (i:=(cn A (2+k):Int)) (j:=(cn B (m+2 - (2+k)):Int)) #[by omega,by omega]
  rw[<- Int.natCast_mul] at g3
  generalize lI (cn A)=XA at *
  generalize lI (cn B)=XB at *
  generalize L3.D.int ((cn A (2+k) * cn B (m+2 - (2+k)):Nat):Int)=τ at *
  generalize L3.D.int ((m+2 - (2+k):Nat):Int)=τ2 at *
  generalize L3.D.int (cn A (2+k):Int)=τ3 at *
  generalize L3.D.int (cn B (m+2 - (2+k)):Int)=τ4 at *
  generalize L3.D.int (2+(k:Int))=P at *
  refine #[[#v[P],some (.lst XA,.u),some (.lst XB,.u),#v[.int (m:Int)]],[#v[P],some (.lst XA,.u),some (.lst XB,.u),#v[.int (m:Int)]],rfl,rfl,λh=>(by cases h),λ_=>#[.val τ .z,_,(τ,.z),_,?_,rfl,rfl,#v[P],rfl]]
  unfold cI
  exact aw (aw (af rfl) (af rfl) rfl rfl g1) (aw (af rfl) (aw (aw (af rfl) i_c rfl rfl a1) (af rfl) rfl rfl a2) rfl rfl g2) rfl rfl g3)
 rw[kn] at e
 have e:bf (ao 0) b9 cI (aJ 2 (m - 1)) _=_:=e
 refine aH (rs:=[]) (Z1:=rS H (.int m) T v3 v4 v5 v6 v7 (some (.lst (lI (cn A)),.u)) (some (.lst (lI (cn B)),.u))) ?_ e (by rw[aQ];omega) rfl
 exact bZ (ae i_c (ae (aw (af rfl) i_c rfl rfl rfl) au)) rfl b
end
section
variable {s:Sg} {T:List (List Key×L3.D)} (hT:jD s T) (hn:s.length<=8) {H:L3.D} (hH:bC [H]=#v[.int (s.length:Int)]) {m:Nat} (h3:3<=m) (hm:m<=24)
include hT hn hH h3 hm
theorem rm_b2 {f a:Nat} (hf:f < s.length) {v5 v6 v7 v8 v9:Option (L3.D×Fl)}:∃ v t h g c,cJ (rS H (.int m) T #v[.int (a:Int)] #v[.int f] v5 v6 v7 v8 v9)=some (.ok .nx,rS H (.int m) T #v[.int ((a+((List.range (s.length - (f+1))).map λd=>smP (av s 1 f (f+1+d)) (av s (-1) f (f+1+d)) m).sum:Nat):Int)] #v[.int f] v t h g c):=by
 obtain ⟨U,r,hU⟩:=tK hT (by omega) (w:=1) (f:=f) (by omega)
 obtain ⟨V,l,n⟩:=tK hT (by omega) (w:=-1) (f:=f) (by omega)
 obtain ⟨Z',e,h,g,c,rfl⟩:=bb (bnd:=ao 7) (b:=dW) (λk Z=>∃ h g c,Z=rS H (.int m) T #v[.int ((a+((List.range k).map λd=>smP (av s 1 f (f+1+d)) (av s (-1) f (f+1+d)) m).sum:Nat):Int)] #v[.int f] (some (.dt U,.u)) (some (.dt V,.u)) h g c) (ds:=aJ ((f:Int)+1) (s.length - (f+1))) (Z:=rS H (.int m) T #v[.int (a:Int)] #v[.int f] (some (.dt U,.u)) (some (.dt V,.u)) v7 v8 v9) (k:=0) #[v7,v8,v9,by simp] (by
  rintro k d Z hd ⟨h,g,c,rfl⟩
  obtain ⟨x,rfl⟩:=bv hd
  rw[FA]
  rw[show (f:Int)+1+(k:Int)=((f+1+k:Nat):Int) by omega]
  have lo:=wZ (by omega) hU (show f < f+1+k by omega) (show f+1+k < s.length by omega)
  have hi:=wZ (by omega) n (show f < f+1+k by omega) (show f+1+k < s.length by omega)
  have j:=CW (A:=av s 1 f (f+1+k)) (B:=av s (-1) f (f+1+k)) h3 hm (Cz (by omega)) (H:=H) (T:=T) (v3:=#v[.int ((a+((List.range k).map λd=>smP (av s 1 f (f+1+d)) (av s (-1) f (f+1+d)) m).sum:Nat):Int)]) (v4:=#v[.int f]) (v5:=some (.dt U,.u)) (v6:=some (.dt V,.u)) (v7:=#v[.int ((f+1+k:Nat):Int)])
  have i:=tJ (λq=>cn (av s 1 f (f+1+k)) (2+q) * cn (av s (-1) f (f+1+k)) (m+2 - (2+q))) (List.range (m - 1))
  have i:_=some (L3.D.int ((smP (av s 1 f (f+1+k)) (av s (-1) f (f+1+k)) m:Nat):Int),Fl.z):=i
  have ad:zx (.int ((a+((List.range k).map λd=>smP (av s 1 f (f+1+d)) (av s (-1) f (f+1+d)) m).sum:Nat):Int)) (.int ((smP (av s 1 f (f+1+k)) (av s (-1) f (f+1+k)) m:Nat):Int))=#v[.int ((a+((List.range (k+1)).map λd=>smP (av s 1 f (f+1+d)) (av s (-1) f (f+1+d)) m).sum:Nat):Int)]:=by
   have o:a+((List.range (k+1)).map λd=>smP (av s 1 f (f+1+d)) (av s (-1) f (f+1+d)) m).sum=(a+((List.range k).map λd=>smP (av s 1 f (f+1+d)) (av s (-1) f (f+1+d)) m).sum)+smP (av s 1 f (f+1+k)) (av s (-1) f (f+1+k)) m:=by
    rw[List.range_succ,List.map_append,List.sum_append]
    simp only[Fv,List.map_nil,List.sum_cons,List.sum_nil]
    lia
   rw[o,Int.natCast_add]
   rfl
  refine #[_,_,rfl,.inl ?_,#v[.int ((f+1+k:Nat):Int)],some (.lst (lI (cn (av s 1 f (f+1+k)))),.u),some (.lst (lI (cn (av s (-1) f (f+1+k)))),.u),rfl]
  generalize lI (cn (av s 1 f (f+1+k)))=XA at *
  generalize lI (cn (av s (-1) f (f+1+k)))=XB at *
  generalize ((List.range (m - 1)).map λq=>L3.D.int ((cn (av s 1 f (f+1+k)) (2+q) * cn (av s (-1) f (f+1+k)) (m+2 - (2+q)):Nat):Int))=XS at *
  generalize L3.D.int ((a+((List.range (k+1)).map λd=>smP (av s 1 f (f+1+d)) (av s (-1) f (f+1+d)) m).sum:Nat):Int)=N2 at *
  generalize L3.D.int ((a+((List.range k).map λd=>smP (av s 1 f (f+1+d)) (av s (-1) f (f+1+d)) m).sum:Nat):Int)=N1 at *
  generalize L3.D.int ((smP (av s 1 f (f+1+k)) (av s (-1) f (f+1+k)) m:Nat):Int)=N3 at *
  generalize L3.D.int ((f+1+k:Nat):Int)=ρ at *
  unfold dW
  apply ak (Z1:=rS H (.int m) T #v[N1] #v[.int f] (some (.dt U,.u)) (some (.dt V,.u)) #v[ρ] (some (.lst XA,.u)) c)
  .exact bP (aq lo (ae (af rfl) (ae (af rfl) (ae (af rfl) au))) rfl rfl rfl) rfl (Nat.le_of_ble_eq_true rfl) rfl
  apply ak (Z1:=rS H (.int m) T #v[N1] #v[.int f] (some (.dt U,.u)) (some (.dt V,.u)) #v[ρ] (some (.lst XA,.u)) (some (.lst XB,.u)))
  .exact bP (aq hi (ae (af rfl) (ae (af rfl) (ae (af rfl) au))) rfl rfl rfl) rfl (Nat.le_of_ble_eq_true rfl) rfl
  exact bP (aw (af rfl) (aG (ae j au) rfl i) rfl rfl ad) rfl (Nat.le_of_ble_eq_true rfl) rfl)
 rw[aQ,FA] at e
 have p:cN [.int ((f:Int)+1),.int s.length]=some (aJ ((f:Int)+1) (s.length - (f+1))):=c0 (by omega) (by omega) (by omega)
 refine #[some (.dt U,.u),some (.dt V,.u),h,g,c,?_]
 generalize L3.D.int ((a+((List.range (s.length - (f+1))).map λd=>smP (av s 1 f (f+1+d)) (av s (-1) f (f+1+d)) m).sum:Nat):Int)=N2 at *
 unfold cJ
 apply ak (Z1:=rS H (.int m) T #v[.int (a:Int)] #v[.int f] (some (.dt U,.u)) v6 v7 v8 v9)
 .exact bP (aq r (ae (af rfl) (ae (aG (ae (af rfl) au) rfl hH) (ae (af rfl) (ae i_c au)))) rfl rfl rfl) rfl (Nat.le_of_ble_eq_true rfl) rfl
 apply ak (Z1:=rS H (.int m) T #v[.int (a:Int)] #v[.int f] (some (.dt U,.u)) (some (.dt V,.u)) v7 v8 v9)
 .exact bP (aq l (ae (af rfl) (ae (aG (ae (af rfl) au) rfl hH) (ae (af rfl) (ae i_c au)))) rfl rfl rfl) rfl (Nat.le_of_ble_eq_true rfl) rfl
 exact dR (bZ (ae (aw (af rfl) i_c rfl rfl rfl) (ae (aG (ae (af rfl) au) rfl hH) au)) rfl p) rfl e
end
def pQ (s:Sg) (m f:Nat):Nat:=((List.range (s.length - (f+1))).map λd=>smP (av s 1 f (f+1+d)) (av s (-1) f (f+1+d)) m).sum
theorem AI {s:Sg} {m f z:Nat} (h:f < z):(prR s m f z).length=smP (av s 1 f z) (av s (-1) f z) m:=by
 unfold prR
 rw[List.length_flatMap,<- nZ (wI h) (wI h)]
 congr 1
 refine FX λL _=>?_
 rw[Fh]
theorem zt {s:Sg} {m:Nat}:(zu s m).length=((List.range s.length).map (pQ s m)).sum:=by
 unfold zu
 rw[List.length_flatMap]
 congr 1
 refine FX λf hf=>?_
 rw[List.mem_range] at hf
 have e:List.range s.length=List.range (f+1)++(List.range (s.length - (f+1))).map (f+1+·):=by
  rw[<- List.range_add];congr 1;omega
 have q:(List.range (f+1)).flatMap (λz=>if decide (f < z) then prR s m f z else [])=[]:=by
  rw[List.flatMap_eq_nil_iff]
  intro x a
  rw[List.mem_range] at a
  rw[if_neg (by simp;omega)]
 rw[e,List.flatMap_append,q,List.nil_append,List.flatMap_map,List.length_flatMap]
 unfold pQ
 congr 1
 refine FX λd _=>?_
 rw[if_pos (by simp;omega)]
 exact AI (by omega)
abbrev ofN (m:Nat) (r:List Nat):Bool:=decide (r.length=m)
theorem C6 {ps:List Pt} (g:GoodSh ps) (h7:ps.length<=7) {m:Nat} (h3:3<=m) (hm:m<=24):eG [(Shd ps,.z),(.int (m:Int),.z)]=some (.ok (.int (((rgs ps).filter (ofN m)).length:Int),.z),[(Shd ps,.z),(.int (m:Int),.z)]):=by
 have c:((rgs ps).filter (ofN m)).length=((List.range ps.length).map (pQ (sgn ps) m)).sum:=by
  have:=(sf (kG g) h3 (show (sgn ps).length<=7 from h7)).length_eq
  rw[zt] at this
  exact this.symm
 rw[c]
 have i:=fZ g
 have h:=tO (k:=(m:Int)) (by omega) (by omega)
 have tT:=j2 g (by omega)
 have hT:=iL ps
 have hH:bC [Shd ps]=#v[.int ((sgn ps).length:Int)]:=fR ps
 generalize tb ps (cx ps.length)=T at *
 have hl:(sgn ps).length=ps.length:=rfl
 obtain ⟨Z',e,v4,v5,v6,v7,v8,v9,rfl⟩:=bb (bnd:=ao 4) (b:=cJ) (λk Z=>∃ v4 v5 v6 v7 v8 v9,Z=rS (Shd ps) (.int m) T #v[.int ((((List.range k).map (pQ (sgn ps) m)).sum:Nat):Int)] v4 v5 v6 v7 v8 v9) (ds:=aJ 0 ps.length) (Z:=rS (Shd ps) (.int m) T #v[.int 0] none none none none none none) (k:=0) #[none,none,none,none,none,none,rfl] (by
  rintro f d Z hd ⟨v4,v5,v6,v7,v8,v9,rfl⟩
  obtain ⟨hf,rfl⟩:=bv hd
  rw[FA,Int.zero_add]
  obtain ⟨o,r,n,q,p,b⟩:=rm_b2 hT (show (sgn ps).length<=8 by omega) hH h3 hm (f:=f) (a:=((List.range f).map (pQ (sgn ps) m)).sum) hf (v5:=v5) (v6:=v6) (v7:=v7) (v8:=v8) (v9:=v9)
  have j:((List.range (f+1)).map (pQ (sgn ps) m)).sum=((List.range f).map (pQ (sgn ps) m)).sum+((List.range ((sgn ps).length - (f+1))).map λd=>smP (av (sgn ps) 1 f (f+1+d)) (av (sgn ps) (-1) f (f+1+d)) m).sum:=by
   rw[List.range_succ,List.map_append,List.sum_append]
   simp only[Fv,List.map_nil,List.sum_cons,List.sum_nil,Nat.add_zero]
   rfl
  rw[<- j] at b
  exact #[_,_,rfl,.inl b,_,_,_,_,_,_,rfl])
 rw[aQ,FA] at e
 have l:dA [.int (ps.length:Int)]=some (aJ 0 ps.length):=cH (by omega) (by omega)
 have hH:bC [Shd ps]=#v[.int (ps.length:Int)]:=hH
 generalize L3.D.int ((((List.range ps.length).map (pQ (sgn ps) m)).sum:Nat):Int)=N at *
 generalize Shd ps=H at *
 apply aK (Z:=[#v[H],#v[.int m],none,none,none,none,none,none,none,none]) rfl rfl
 .unfold j8
  apply ak (Z1:=[#v[H],#v[.int m],none,none,none,none,none,none,none,none])
  .exact fk (aq i (ae (af rfl) au) rfl rfl rfl)
  apply ak (Z1:=[#v[H],#v[.int m],none,none,none,none,none,none,none,none])
  .exact fk (aq h (ae (af rfl) (ae i_c (ae i_c au))) rfl rfl rfl)
  apply ak (Z1:=rS H (.int m) T none none none none none none none)
  .exact bP (aq tT (ae (af rfl) au) rfl rfl rfl) rfl (Nat.le_of_ble_eq_true rfl) rfl
  apply ak (Z1:=rS H (.int m) T #v[.int 0] none none none none none none)
  .exact bP i_c rfl (Nat.le_of_ble_eq_true rfl) rfl
  apply ak (dR (bZ (ae (aG (ae (af rfl) au) rfl hH) au) rfl l) rfl e)
  exact bF (af rfl) rfl
 .rfl
def pr:Nat->List (List Nat)
 | 0=>[[]]
 | k+1=>pr k++(pr k).map (·++[k])
theorem nY:∀ k,∀ r∈pr k,Ris k r
 | 0,r,h=>by
  rcases FJ.mp h with rfl
  exact #[.nil,λx c=>by cases c]
 | k+1,r,h=>by
  rcases Ff.mp h with h | h
  .have:=nY k r h
   exact #[this.up,λx c=>by have:=this.lt x c;omega]
  .obtain ⟨q,d,rfl⟩:=Fo.mp h
   have:=nY k q d
   refine #[List.pairwise_append.mpr #[this.up,by simp,λa e b f=>?_],λx c=>?_]
   .rw[FJ.mp f];exact this.lt a e
   .rcases Ff.mp c with c | c
    .have:=this.lt x c;omega
    .rw[FJ.mp c];omega
theorem xJ:∀ k,(pr k).length=2 ^ k
 | 0=>rfl
 | k+1=>by
  show (pr k++(pr k).map (·++[k])).length=_
  rw[FD,Fh,xJ k,Nat.pow_succ]
  lia
theorem oT {n:Nat} (h:n<=7):(pr n).length<=128:=by
 rw[xJ]
 exact Nat.pow_le_pow_right (by decide) h
theorem AH:∀ n:Nat,n<=7->(pr n).Perm (lx n 0)
 | 0,_=>List.isPerm_iff.mp (by decide +kernel)
 | 1,_=>List.isPerm_iff.mp (by decide +kernel)
 | 2,_=>List.isPerm_iff.mp (by decide +kernel)
 | 3,_=>List.isPerm_iff.mp (by decide +kernel)
 | 4,_=>List.isPerm_iff.mp (by decide +kernel)
 | 5,_=>List.isPerm_iff.mp (by decide +kernel)
 | 6,_=>List.isPerm_iff.mp (by decide +kernel)
 | 7,_=>List.isPerm_iff.mp (by decide +kernel)
 | n+8,h=>absurd h (by omega)
abbrev ers (ps:List Pt):List (List Nat):=(pr ps.length).filter (emS (sgn ps))
section
variable {ps:List Pt} (g:GoodSh ps) (h7:ps.length<=7)
include g
theorem tW {r:List Nat} (h:Ris ps.length r):bR [(.dt (tb ps (cx ps.length)),.u),(.tup (Nd r),.z),(.int (ps.length:Int),.z)]=some (.ok (.bl (emS (sgn ps) r),.z),[(.dt (tb ps (cx ps.length)),.u),(.tup (Nd r),.z),(.int (ps.length:Int),.z)]):=by
 have q:=tN g (iL ps) h
 unfold emS
 cases d:isR (sgn ps) r with
 | false =>
  rw[d] at q
  generalize L3.D.tup (Nd r)=R at *
  generalize tb ps (cx ps.length)=T at *
  generalize L3.D.int (ps.length:Int)=LN at *
  apply aK (Z:=[some (.dt T,.u),#v[R],#v[LN]]) (Z1:=[some (.dt T,.u),#v[R],#v[LN]]) rfl rfl
  .unfold fQ
   exact bF (r:=.val (.bl false) .z) (Bs (b:=false) (aq q (ae (af rfl) (ae (af rfl) (ae (af rfl) au))) rfl rfl rfl) rfl rfl) rfl
  .rfl
 | true =>
  have h3:3<=r.length:=by
   rcases Nat.lt_or_ge r.length 3 with c | c
   .rw[jp _ c] at d;cases d
   .exact c
  rw[d] at q
  obtain ⟨a,mid,z,rfl,hm⟩:=f9 h3
  have f:d5 (sgn ps) a mid z=true:=by rw[kN _ hm] at d;exact d
  rw[pO,Bool.true_and]
  have s:=xg (iL ps) h (show (sgn ps).length<=24 from g.most)
  have e:=uI (wl (sgn ps) a mid z)
  generalize decide (wl (sgn ps) a mid z=[])=b at *
  generalize L3.D.lst (Nd (wl (sgn ps) a mid z))=W at *
  generalize L3.D.tup (Nd ([a]++mid++[z]))=R at *
  generalize tb ps (cx ps.length)=T at *
  generalize L3.D.int (ps.length:Int)=LN at *
  apply aK (Z:=[some (.dt T,.u),#v[R],#v[LN]]) (Z1:=[some (.dt T,.u),#v[R],#v[LN]]) rfl rfl
  .unfold fQ
   refine bF (r:=.val (.bl b) .z) (Z1:=[some (.dt T,.u),#v[R],#v[LN]]) (lT (b:=true) (aq q (ae (af rfl) (ae (af rfl) (ae (af rfl) au))) rfl rfl rfl) rfl rfl ?_) rfl
   exact aw (aq s (ae (af rfl) (ae (af rfl) au)) rfl rfl rfl) (cQ au rfl (Nat.le_of_ble_eq_true rfl)) rfl rfl e
  .rfl
include h7
theorem Bw:∃ v,fV (ao 3) cr (aJ 0 ps.length) [#v[Shd ps],some (.dt (tb ps (cx ps.length)),.u),some (.lst [.tup []],.u),none]=some (.ok .nx,[#v[Shd ps],some (.dt (tb ps (cx ps.length)),.u),some (.lst (Pl (pr ps.length)),.u),v]):=by
 obtain ⟨Z',e,v,rfl⟩:=bb (bnd:=ao 3) (b:=cr) (λm Z=>∃ v,Z=[#v[Shd ps],some (.dt (tb ps (cx ps.length)),.u),some (.lst (Pl (pr m)),.u),v]) (ds:=aJ 0 ps.length) (Z:=[#v[Shd ps],some (.dt (tb ps (cx ps.length)),.u),some (.lst [.tup []],.u),none]) (k:=0) #[none,rfl] (by
  rintro m d Z hd ⟨v,rfl⟩
  obtain ⟨hm,rfl⟩:=bv hd
  rw[FA,Int.zero_add]
  have i:=oT (n:=m) (by omega)
  obtain ⟨Y',e,a,rfl⟩:=aR (bnd:=ao 0) (c:=b9) (elt:=cj) (λY=>∃ a,Y=[a,#v[.int (m:Int)]]) (λr:List Nat=>L3.D.tup (Nd r)) (λ_=>true) (λr:List Nat=>L3.D.tup (Nd (r++[m]))) (xs:=pr m) (Y:=[none,#v[.int (m:Int)]]) #[none,rfl] (by
   rintro r f Y ⟨a,rfl⟩
   have g:=(nY m r f).len
   have ct:ba (.tup (Nd r)) (.tup [.int (m:Int)])=#v[.tup (Nd (r++[m]))]:=by
    rw[show Nd (r++[m])=Nd r++[.int (m:Int)] by simp]
    exact lY (by simp;omega)
   generalize L3.D.tup (Nd (r++[m]))=R2 at *
   generalize L3.D.tup (Nd r)=R at *
   generalize L3.D.int (m:Int)=M at *
   refine #[[#v[R],#v[M]],_,rfl,rfl,(λh=>by cases h),λ_=>#[.val R2 .z,[#v[R],#v[M]],(R2,.z),_,?_,rfl,rfl,_,rfl]]
   unfold cj
   exact aw (af rfl) (cQ (ae (af rfl) au) rfl (Nat.le_of_ble_eq_true rfl)) rfl rfl ct)
  rw[FU.mpr (λ_ _=>rfl)] at e
  have hl:(Pl (pr m)).length < 16777216:=by rw[Fh];omega
  have ad:ba (.lst (Pl (pr m))) (.lst ((pr m).map λr:List Nat=>L3.D.tup (Nd (r++[m]))))=some (.lst (Pl (pr (m+1))),.u):=by
   rw[BJ (by rw[Fh,Fh];omega)]
   show _=some (L3.D.lst ((pr m++(pr m).map (·++[m])).map λr=>L3.D.tup (Nd r)),Fl.u)
   rw[List.map_append,FW]
   rfl
  have e:bf (ao 0) b9 cj (Pl (pr m)) [none,#v[.int (m:Int)]]=_:=e
  refine #[_,_,rfl,.inl ?_,#v[.int (m:Int)],rfl]
  generalize (pr m).map (λr:List Nat=>L3.D.tup (Nd (r++[m])))=B at *
  generalize Pl (pr (m+1))=C at *
  generalize Pl (pr m)=A at *
  generalize tb ps (cx ps.length)=T at *
  generalize Shd ps=H at *
  generalize L3.D.int (m:Int)=M at *
  have c1:gh [#v[H],some (.dt T,.u),some (.lst A,.u),#v[M]]=some (.ok (.val (.lst B) .u),[#v[H],some (.dt T,.u),some (.lst A,.u),#v[M]]):=aH (rs:=[.pl 2]) (Z1:=[#v[H],some (.dt T,.u),some (.lst A,.u),#v[M]]) (Z2:=[#v[H],some (.dt T,.u),some (.lst A,.l),#v[M]]) rfl e hl rfl
  unfold cr
  exact bP (aw (af rfl) c1 rfl rfl ad) rfl (Nat.le_of_ble_eq_true rfl) rfl)
 rw[FA,aQ] at e
 exact #[v,e]
theorem Bx (v:Option (L3.D×Fl)):gg [#v[Shd ps],some (.dt (tb ps (cx ps.length)),.u),some (.lst (Pl (pr ps.length)),.u),v]=some (.ok (.val (.lst (Pl (ers ps))) .u),[#v[Shd ps],some (.dt (tb ps (cx ps.length)),.u),some (.lst (Pl (pr ps.length)),.u),v]):=by
 have ls:=fR ps
 have h:=oT h7
 obtain ⟨Y',e,a,rfl⟩:=aR (bnd:=ao 0) (c:=cq) (elt:=dE) (λY=>∃ a,Y=[a,some (.dt (tb ps (cx ps.length)),.u),#v[Shd ps]]) (λr:List Nat=>L3.D.tup (Nd r)) (emS (sgn ps)) (λr:List Nat=>L3.D.tup (Nd r)) (xs:=pr ps.length) (Y:=[none,some (.dt (tb ps (cx ps.length)),.u),#v[Shd ps]]) #[none,rfl] (by
  rintro r d Y ⟨a,rfl⟩
  have f:=tW g (nY _ r d)
  generalize emS (sgn ps) r=b at *
  generalize L3.D.tup (Nd r)=R at *
  generalize tb ps (cx ps.length)=T at *
  generalize L3.D.int (ps.length:Int)=N at *
  generalize Shd ps=H at *
  refine #[[#v[R],some (.dt T,.u),#v[H]],[#v[R],some (.dt T,.u),#v[H]],rfl,?_,λ_=>#[_,rfl],λ_=>#[_,_,(R,.z),[#v[R],some (.dt T,.u),#v[H]],af rfl,rfl,rfl,_,rfl]]
  unfold cq
  exact bG (aq f (ae (af rfl) (ae (af rfl) (ae (aG (ae (af rfl) au) rfl ls) au))) rfl rfl rfl) rfl)
 have e:bf (ao 0) cq dE (Pl (pr ps.length)) [none,some (.dt (tb ps (cx ps.length)),.u),#v[Shd ps]]=some (.ok (Pl (ers ps)),_):=e
 have hl:(Pl (pr ps.length)).length < 16777216:=by rw[Fh];omega
 generalize Pl (ers ps)=B at *
 generalize Pl (pr ps.length)=A at *
 generalize tb ps (cx ps.length)=T at *
 generalize Shd ps=H at *
 exact aH (rs:=[.pl 2]) (Z1:=[#v[H],some (.dt T,.u),some (.lst A,.u),v]) (Z2:=[#v[H],some (.dt T,.u),some (.lst A,.l),v]) rfl e hl rfl
theorem tR:bT [(Shd ps,.z)]=some (.ok (.lst (Pl (ers ps)),.u),[(Shd ps,.z)]):=by
 have at':=j2 g (by lia)
 obtain ⟨v,lo⟩:=Bw g h7
 have c:=Bx g h7 v
 have ls:=fR ps
 have a:dA [.int (ps.length:Nat)]=some (aJ 0 ps.length):=cH (by omega) (by omega)
 generalize aJ 0 ps.length=RG at *
 generalize Pl (ers ps)=B at *
 generalize Pl (pr ps.length)=A at *
 generalize tb ps (cx ps.length)=T at *
 generalize L3.D.int (ps.length:Int)=N at *
 generalize Shd ps=H at *
 apply aK (Z:=[#v[H],none,none,none]) (Z1:=[#v[H],some (.dt T,.u),some (.lst A,.u),v]) rfl rfl
 .unfold jA
  apply ak (Z1:=[#v[H],some (.dt T,.u),none,none])
  .exact bP (aq at' (ae (af rfl) au) rfl rfl rfl) rfl (Nat.le_of_ble_eq_true rfl) rfl
  apply ak (Z1:=[#v[H],some (.dt T,.u),some (.lst [.tup []],.u),none])
  .exact bP (cQ (ae (cQ au rfl (Nat.le_of_ble_eq_true rfl)) au) rfl (Nat.le_of_ble_eq_true rfl)) rfl (Nat.le_of_ble_eq_true rfl) rfl
  apply ak (dR (bZ (ae (aG (ae (af rfl) au) rfl ls) au) rfl a) rfl lo)
  exact bF c rfl
 .rfl
end
theorem tQ {n:Int} (h:n<=10):cT [(.int n,.z),(.int 10,.z)]=some (.ok (.non,.z),[(.int n,.z),(.int 10,.z)]):=by
 have l:gtI (.int n) (.int 10)=#v[.bl false]:=by
  show some (L3.D.bl (decide (n > 10)),Fl.z)=_
  rw[Fy (by omega)]
 apply BT (Z:=[#v[.int n],#v[.int 10]]) (Z1:=[#v[.int n],#v[.int 10]]) rfl rfl
 .unfold lj
  exact b7 (b:=false) (bG (aw (af rfl) (af rfl) rfl rfl l) rfl) rfl rfl
 .rfl
def ofL (k:Int) (r:List Nat):Bool:=decide ((r.length:Int)=k)
theorem uk:∀ l:List (List Nat),lq (Pl l)=some (l.map List.length)
 | []=>rfl
 | r::l=>by
  have a:=uk l
  show (match bM (Nd r),lq (Pl l) with | some ns,some l=>some (ns.length::l) | _,_=>none)=_
  rw[o8,a]
  simp
theorem Be {l:List (List Nat)} (h:l≠[]):∃ r∈l,qF (.lst (Pl l)) .non=#v[.tup (Nd r)]/\∀ q∈l,q.length<=r.length:=by
 cases e:lH (l.map List.length) with
 | none=>exact absurd (by simpa using kP e) h
 | some i =>
  obtain ⟨a,b,_⟩:=pk e
  rw[Fh] at a b
  refine #[l[i],List.getElem_mem a,?_,λq g=>?_]
  .show ((lq (Pl l)).bind λf=>match lH f with | some i=>((Pl l)[i]?).map λd=>(d,Fl.z) | none=>_)=_
   rw[uk]
   show (match lH (l.map List.length) with | some i=>((Pl l)[i]?).map λd=>(d,Fl.z) | none=>_)=_
   rw[e]
   show ((Pl l)[i]?).map (λd=>(d,Fl.z))=_
   rw[Fp,Fd a]
   rfl
  .obtain ⟨k,c,rfl⟩:=List.mem_iff_getElem.mp g
   have:=b k c
   simpa[List.getD,a,c] using this
section
variable {ps:List Pt} (g:GoodSh ps) (h7:ps.length<=7)
include g h7
theorem Cm {k:Int} (h1:3<=k) (h2:k<=24):aZ [(Shd ps,.z),(.int k,.z)]=some (.ok (.int (((ers ps).filter (ofL k)).length:Int),.z),[(Shd ps,.z),(.int k,.z)]):=by
 have d:=fZ g
 have nm:=tO h1 h2
 have fx:=tQ (n:=(ps.length:Int)) (by omega)
 have ls:=fR ps
 have f:=tR g h7
 have h:(ers ps).length<=128:=FR (List.length_filter_le _ _) (oT h7)
 obtain ⟨Y',e,a,rfl⟩:=aR (bnd:=ao 0) (c:=bY) (elt:=de) (λY=>∃ a,Y=[a,#v[.int k]]) (λr:List Nat=>L3.D.tup (Nd r)) (ofL k) (λr:List Nat=>L3.D.tup (Nd r)) (xs:=ers ps) (Y:=[none,#v[.int k]]) #[none,rfl] (by
  rintro r i Y ⟨a,rfl⟩
  have ln:bC [.tup (Nd r)]=#v[.int (r.length:Int)]:=by simp[sM,c1]
  have eq:eqX (.int (r.length:Int)) (.int k)=#v[.bl (ofL k r)]:=rfl
  generalize ofL k r=b at *
  generalize L3.D.int (r.length:Int)=LR at *
  generalize L3.D.tup (Nd r)=R at *
  generalize L3.D.int k=KK at *
  refine #[[#v[R],#v[KK]],[#v[R],#v[KK]],rfl,?_,λ_=>#[_,rfl],λ_=>#[_,_,(R,.z),[#v[R],#v[KK]],af rfl,rfl,rfl,_,rfl]]
  unfold bY
  exact bG (aw (aG (ae (af rfl) au) rfl ln) (af rfl) rfl rfl eq) rfl)
 have e:bf (ao 0) bY de (Pl (ers ps)) [none,#v[.int k]]=some (.ok (Pl ((ers ps).filter (ofL k))),_):=e
 have hl:(Pl (ers ps)).length < 16777216:=by rw[Fh];omega
 have lo:bC [.lst (Pl ((ers ps).filter (ofL k)))]=#v[.int (((ers ps).filter (ofL k)).length:Int)]:=by simp[sM,c1]
 generalize L3.D.int (((ers ps).filter (ofL k)).length:Int)=C at *
 generalize Pl ((ers ps).filter (ofL k))=B at *
 generalize Pl (ers ps)=A at *
 generalize L3.D.int (ps.length:Int)=N at *
 generalize L3.D.int k=KK at *
 generalize Shd ps=H at *
 have c:fJ [#v[H],#v[KK]]=some (.ok (.val (.lst B) .u),[#v[H],#v[KK]]):=aH (rs:=[.val (.lst A) .u]) (Z1:=[#v[H],#v[KK]]) (lU (aq f (ae (af rfl) au) rfl rfl rfl) rfl rfl) e hl rfl
 apply aK (Z:=[#v[H],#v[KK]]) (Z1:=[#v[H],#v[KK]]) rfl rfl
 .unfold iX
  apply ak (Z1:=[#v[H],#v[KK]])
  .exact fk (aq d (ae (af rfl) au) rfl rfl rfl)
  apply ak (Z1:=[#v[H],#v[KK]])
  .exact fk (aq nm (ae (af rfl) (ae i_c (ae i_c au))) rfl rfl rfl)
  apply ak (Z1:=[#v[H],#v[KK]])
  .exact fk (aq fx (ae (aG (ae (af rfl) au) rfl ls) (ae i_c au)) rfl rfl rfl)
  exact bF (aG (ae c au) rfl lo) rfl
 .rfl
theorem ge_ok:∃ R,bh [(Shd ps,.z)]=some (.ok (R,.z),[(Shd ps,.z)])/\((ers ps=[]/\R=.non)\/∃ r∈ers ps,R=.tup (Nd r)/\∀ q∈ers ps,q.length<=r.length):=by
 have d:=fZ g
 have fx:=tQ (n:=(ps.length:Int)) (by omega)
 have ls:=fR ps
 have c:=tR g h7
 have key:∀ R,qF (.lst (Pl (ers ps))) .non=#v[R]->bh [(Shd ps,.z)]=some (.ok (R,.z),[(Shd ps,.z)]):=λR a=>by
  generalize Pl (ers ps)=A at *
  generalize L3.D.int (ps.length:Int)=N at *
  generalize Shd ps=H at *
  apply aK (Z:=[#v[H]]) (Z1:=[#v[H]]) rfl rfl
  .unfold gf
   apply ak (Z1:=[#v[H]])
   .exact fk (aq d (ae (af rfl) au) rfl rfl rfl)
   apply ak (Z1:=[#v[H]])
   .exact fk (aq fx (ae (aG (ae (af rfl) au) rfl ls) (ae i_c au)) rfl rfl rfl)
   exact bF (aw (aq c (ae (af rfl) au) rfl rfl rfl) i_c rfl rfl a) rfl
  .rfl
 by_cases h:ers ps=[]
 .exact #[.non,key _ (by rw[h];rfl),.inl #[h,rfl]]
 .obtain ⟨r,b,e,up⟩:=Be h
  exact #[_,key _ e,.inr #[r,b,rfl,up]]
end
section
variable {ps:List Pt} (g:GoodSh ps) (h7:ps.length<=7)
include g h7
theorem oN {r:List Nat} (h:Ris ps.length r):aW [(.tup (Nd r),.z),(Shd ps,.z)]=some (.ok (.bl (emS (sgn ps) r),.z),[(.tup (Nd r),.z),(Shd ps,.z)]):=by
 have at':=j2 g (by lia)
 have f:=tW g h
 have ls:=fR ps
 generalize emS (sgn ps) r=b at *
 generalize L3.D.tup (Nd r)=R at *
 generalize tb ps (cx ps.length)=T at *
 generalize L3.D.int (ps.length:Int)=N at *
 generalize Shd ps=H at *
 apply aK (Z:=[#v[R],#v[H]]) (Z1:=[#v[R],#v[H]]) rfl rfl
 .unfold iC
  exact bF (aq f (ae (aq at' (ae (af rfl) au) rfl rfl rfl) (ae (af rfl) (ae (aG (ae (af rfl) au) rfl ls) au))) rfl rfl rfl) rfl
 .rfl
theorem Aa {r:List Nat} (h:Ris ps.length r) (a:isR (sgn ps) r=true):b8 [(Shd ps,.z),(.tup (Nd r),.z)]=some (.ok (.dt (tb ps (cx ps.length)),.u),[(Shd ps,.z),(.tup (Nd r),.z)]):=by
 have at':=j2 g (by lia)
 have f:=tN g (iL ps) h
 have ls:=fR ps
 rw[a] at f
 generalize L3.D.tup (Nd r)=R at *
 generalize tb ps (cx ps.length)=T at *
 generalize L3.D.int (ps.length:Int)=N at *
 generalize Shd ps=H at *
 apply aK (Z:=[#v[H],#v[R],none]) rfl rfl
 .unfold fF
  apply ak (Z1:=[#v[H],#v[R],some (.dt T,.u)])
  .exact bP (aq at' (ae (af rfl) au) rfl rfl rfl) rfl (Nat.le_of_ble_eq_true rfl) rfl
  apply ak (Z1:=[#v[H],#v[R],some (.dt T,.u)])
  .exact b7 (b:=false) (io (b:=true) (bG (aq f (ae (af rfl) (ae (af rfl) (ae (aG (ae (af rfl) au) rfl ls) au))) rfl rfl rfl) rfl)) rfl rfl
  exact bF (af rfl) rfl
 .rfl
theorem mU {r:List Nat} (he:emS (sgn ps) r=true):isR (sgn ps) r=true/\3<=r.length/\wK (sgn ps) r=[]:=by
 unfold emS at he
 rw[Bool.and_eq_true] at he
 refine #[he.1,?_,of_decide_eq_true he.2]
 rcases Nat.lt_or_ge r.length 3 with c | c
 .have:=he.1;rw[jp _ c] at this;cases this
 .exact c
theorem C5 {r:List Nat} (h:Ris ps.length r) (he:emS (sgn ps) r=true):jg [(Shd ps,.z),(.tup (Nd r),.z)]=some (.ok (.lst [],.u),[(Shd ps,.z),(.tup (Nd r),.z)]):=by
 obtain ⟨b,h3,hw⟩:=mU g h7 he
 have c:=Aa g h7 h b
 obtain ⟨a,mid,z,rfl,hm⟩:=f9 h3
 have s:=xg (iL ps) h (show (sgn ps).length<=24 from g.most)
 rw[pO] at hw
 rw[hw] at s
 generalize L3.D.tup (Nd ([a]++mid++[z]))=R at *
 generalize tb ps (cx ps.length)=T at *
 generalize Shd ps=H at *
 apply aK (Z:=[#v[H],#v[R]]) (Z1:=[#v[H],#v[R]]) rfl rfl
 .unfold qI
  exact bF (aq s (ae (aq c (ae (af rfl) (ae (af rfl) au)) rfl rfl rfl) (ae (af rfl) au)) rfl rfl rfl) rfl
 .rfl
end
def wo (ps:List Pt) (k:Nat):List Pt:=ps.take k++ps.drop (k+1)
theorem oF {ps:List Pt} {k:Nat} (a:k < ps.length):(wo ps k).length+1=ps.length:=by
 unfold wo
 rw[FD,FF,List.length_drop]
 lia
theorem rO {ps:List Pt} {k:Nat} (a:k < ps.length) (i:Nat):(wo ps k)[i]?=ps[upx k i]?:=by
 unfold wo upx
 by_cases h:i < k
 .rw[if_pos h,FN (by rw[FF];omega),List.getElem?_take_of_lt h]
 .rw[if_neg h,List.getElem?_append_right (by rw[FF];omega),List.getElem?_drop,FF]
  congr 1
  lia
theorem wC {ps:List Pt} {k:Nat} (a:k < ps.length) (i:Nat):fq (wo ps k) i=fq ps (upx k i):=by
 unfold fq
 rw[List.getD_eq_getElem?_getD,List.getD_eq_getElem?_getD,rO a]
theorem tF {ps:List Pt} (g:GoodSh ps) {k:Nat} (c:k < ps.length) (h2:2<=ps.length):GoodSh (wo ps k) where
 pos:=by have:=oF c;omega
 most:=by have:=oF c;have:=g.most;omega
 small:=λp a=>g.small p (by
  unfold wo at a
  rcases Ff.mp a with h | h
  .exact List.mem_of_mem_take h
  .exact List.mem_of_mem_drop h)
 rising:=λi j p q h a b=>by
  rw[rO c] at a b
  exact g.rising _ _ p q (upx_lt.mpr h) a b
 noline:=λi j l p q r h1 h2 a b d=>by
  rw[rO c] at a b d
  exact g.noline _ _ _ p q r (upx_lt.mpr h1) (upx_lt.mpr h2) a b d
theorem Ae {k n:Int} (h0:0<=k) (h1:k < n):dO [(.int k,.z),(.int n,.z)]=some (.ok (.non,.z),[(.int k,.z),(.int n,.z)]):=by
 have h:=nO h0 h1
 apply BT (Z:=[#v[.int k],#v[.int n]]) rfl rfl
 .exact b7 (b:=false) (io (b:=true) (bG (aq h (ae (af rfl) (ae (af rfl) au)) rfl rfl rfl) rfl)) rfl rfl
 .rfl
theorem BB (xs:List L3.D) (a:Nat):slD (.tup xs) none (some (a:Int))=#v[.tup (xs.take a)]:=by
 have e:fu xs none (some (a:Int))=xs.take a:=by
  unfold fu
  rw[HT.sIx_none,HT.sIx_nat,List.drop_zero,Nat.sub_zero]
  by_cases h:a<=xs.length
  .rw[Nat.min_eq_left h]
  .rw[Nat.min_eq_right (by omega),List.take_length,FT (by omega)]
 show some ((.tup (fu xs none (some (a:Int))),.z):L3.D×Fl)=_
 rw[e]
theorem wd (xs:List L3.D) (a:Nat):slD (.tup xs) (some (a:Int)) none=#v[.tup (xs.drop a)]:=by
 have e:fu xs (some (a:Int)) none=xs.drop a:=by
  unfold fu
  rw[HT.sIx_none,HT.sIx_nat]
  by_cases h:a<=xs.length
  .rw[Nat.min_eq_left h,FT (by rw[List.length_drop];omega)]
  .rw[Nat.min_eq_right (by omega),List.drop_length,List.drop_of_length_le (by omega),List.take_nil]
 show some ((.tup (fu xs (some (a:Int)) none),.z):L3.D×Fl)=_
 rw[e]
theorem Bz (ps:List Pt) (k:Nat) (h:ps.length<=16777216):ba (.tup ((ps.map Pd).take k)) (.tup ((ps.map Pd).drop (k+1)))=#v[Shd (ps.take k++ps.drop (k+1))]:=by
 have:=lY (A:=(ps.map Pd).take k) (B:=(ps.map Pd).drop (k+1)) (by rw[FF,List.length_drop,Fh];omega)
 rw[this,<- List.map_take,<- List.map_drop,<- List.map_append]
theorem C4 {ps:List Pt} (g:GoodSh ps) {k:Nat} (e:k < ps.length) (h1:ps.length≠1):jr [(Shd ps,.z),(.int (k:Int),.z)]=some (.ok (Shd (wo ps k),.z),[(Shd ps,.z),(.int (k:Int),.z)]):=by
 have c:=fZ g
 have f:=g.most
 have hlen:=fR ps
 have d:=Ae (k:=(k:Int)) (n:=(ps.length:Int)) (by omega) (by omega)
 have c1:slD (Shd ps) none (some (k:Int))=_:=BB (ps.map Pd) k
 have c2:slD (Shd ps) (some ((k+1:Nat):Int)) none=_:=wd (ps.map Pd) (k+1)
 rw[show ((k+1:Nat):Int)=(k:Int)+1 by omega] at c2
 have a:=Bz ps k (by omega)
 have a:_=some (Shd (wo ps k),Fl.z):=a
 have ad:ba (.int (k:Int)) (.int 1)=#v[.int ((k:Int)+1)]:=rfl
 have ne:eqX (.int (ps.length:Int)) (.int 1)=#v[.bl false]:=by
  show some (L3.D.bl (decide ((ps.length:Int)=1)),Fl.z)=_
  rw[Fy (by omega)]
 generalize Shd (wo ps k)=W at *
 generalize L3.D.tup ((ps.map Pd).take k)=W1 at *
 generalize L3.D.tup ((ps.map Pd).drop (k+1))=W2 at *
 generalize L3.D.int (ps.length:Int)=N at *
 generalize Shd ps=H at *
 apply aK (Z:=[#v[H],#v[.int (k:Int)]]) rfl rfl
 .unfold oe
  apply ak (Z1:=[#v[H],#v[.int (k:Int)]])
  .exact fk (aq c (ae (af rfl) au) rfl rfl rfl)
  apply ak (Z1:=[#v[H],#v[.int (k:Int)]])
  .exact fk (aq d (ae (af rfl) (ae (aG (ae (af rfl) au) rfl hlen) au)) rfl rfl rfl)
  apply ak (Z1:=[#v[H],#v[.int (k:Int)]])
  .exact b7 (b:=false) (bG (aw (aG (ae (af rfl) au) rfl hlen) i_c rfl rfl ne) rfl) rfl rfl
  .apply bF
   .exists c1,c2,a
   .rfl
 .rfl
def dn (k p:Nat):Nat:=if p > k then p - 1 else p
theorem wF {k p:Nat} (h:p≠k):upx k (dn k p)=p:=by unfold upx dn;split <;> split <;> omega
theorem EH {ps:List Pt} (g:GoodSh ps) {k:Nat} (c:k < ps.length) {r:List Nat} (h:Ris ps.length r) (h3:3<=r.length) (hn:k ∉ r) (he:emS (sgn ps) r=true):Ris (wo ps k).length (r.map (dn k))/\emS (sgn (wo ps k)) (r.map (dn k))=true:=by
 have d:=oF c
 have le:=h.len
 have R:Ris (wo ps k).length (r.map (dn k)):=by
  refine #[?_,λx m=>?_]
  .rw[List.pairwise_map]
   refine List.Pairwise.imp_of_mem (λ{a b} o t q=>?_) h.up
   have a1:a≠k:=λe=>hn (e ▸ o)
   have b1:b≠k:=λe=>hn (e ▸ t)
   refine upx_lt (g:=k).mp ?_
   rw[wF a1,wF b1]
   exact q
  .obtain ⟨y,f,rfl⟩:=Fo.mp m
   have:=h.lt y f
   have u:y≠k:=λe=>hn (e ▸ f)
   unfold dn
   split <;> omega
 refine #[R,qY (s:=sgn ps) (s':=sgn (wo ps k)) (g:=k) (kG g) (kG (tF g c (by omega))) d c (λi j l h1 h2 h3=>?_) R (by rw[Fh];exact h3) ?_]
 .show cb (fq (wo ps k) i) (fq (wo ps k) j) (fq (wo ps k) l)=cb _ _ _
  rw[wC c,wC c,wC c]
 .rw[FW,show r.map (upx k ∘ dn k)=r from ?_]
  .exact he
  .have:r.map (upx k ∘ dn k)=r.map id:=FX λp n=>wF λe=>hn (e ▸ n)
   rw[this,List.map_id]
theorem kT {bnd:L3.D->Sto->Option Sto} {c:M3 Bool} {elt:EM} (P:Sto->Prop) (f:Nat->L3.D):∀ {xs:List Nat} {Y:Sto},P Y ->
  (∀ x∈xs,∀ Y,P Y->∃ b Y1 Y2,bnd (f x) Y=some Y1/\c Y1=some (.ok b,Y2)/\(b=false->P Y2)/\(b=true->∃ r Y3 p Y4,elt Y2=some (.ok r,Y3)/\fX r Y3=some (.ok p,Y4)/\p.1=f x/\P Y4)) ->
  ∃ (ys:List Nat) (Y':Sto),ys.Sublist xs/\bf bnd c elt (xs.map f) Y=some (.ok (ys.map f),Y')/\P Y'
 | [],Y,h0,_=>#[[],Y,.slnil,rfl,h0]
 | x::xs,Y,h0,hs=>by
  obtain ⟨b,Y1,Y2,e1,h,hf,i⟩:=hs x E5 Y h0
  cases b with
  | false =>
   obtain ⟨ys,Y',sl,e,a⟩:=kT P f (xs:=xs) (Y:=Y2) (hf rfl) λd hd=>hs d (E6 _ hd)
   refine #[ys,Y',sl.cons _,?_,a]
   rw[Fv]
   unfold bf
   simp[e1,ag,h,e]
  | true =>
   obtain ⟨r,Y3,p,Y4,j,k,l,g⟩:=i rfl
   obtain ⟨ys,Y',sl,e,a⟩:=kT P f (xs:=xs) (Y:=Y4) g λd hd=>hs d (E6 _ hd)
   refine #[x::ys,Y',sl.cons₂ _,?_,a]
   rw[Fv,Fv]
   unfold bf
   simp[e1,ag,h,j,k,e,a9,l]
abbrev gS (n:Int) (H R:L3.D) (a b c:Option (L3.D×Fl)):Sto:=[some (.lst [.int n],.u),#v[H],#v[R],a,b,c]
section
variable {ps:List Pt} (g:GoodSh ps) (h7:ps.length<=7) {r:List Nat} (h:Ris ps.length r) (n:Int)
include h h7
theorem rt_l1:∃ (a:Int) (ys:List Nat),ys.Sublist r/\ib (gS n (Shd ps) (.tup (Nd r)) none none none)=some (.ok (.val (.lst (Nd ys)) .u),gS a (Shd ps) (.tup (Nd r)) none none none):=by
 have d:=h.len
 obtain ⟨ys,Y',sl,e,v,a,rfl⟩:=kT (bnd:=ao 0) (c:=eD) (elt:=ie) (λY=>∃ v n,Y=[v,some (.lst [.int n],.u)]) (λi:Nat=>L3.D.int (i:Int)) (xs:=r) (Y:=[none,some (.lst [.int n],.u)]) #[none,n,rfl] (by
  rintro x f Y ⟨v,n,rfl⟩
  have t:=j1 n 3 (by decide)
  have q:gtI (.int (n % 3)) (.int 0)=#v[.bl (decide (n % 3 > 0))]:=rfl
  generalize decide (n % 3 > 0)=b at *
  generalize n / 3=a at *
  generalize L3.D.int (n % 3)=y at *
  generalize L3.D.int (x:Int)=X at *
  refine #[b,[#v[X],some (.lst [.int n],.u)],[#v[X],some (.lst [.int a],.u)],rfl,?_,λ_=>#[_,_,rfl],λ_=>#[_,_,(X,.z),[#v[X],some (.lst [.int a],.u)],af rfl,rfl,rfl,_,_,rfl]]
  unfold eD
  exact bG (aw (aq t (ae (af rfl) (ae i_c au)) rfl rfl rfl) i_c rfl rfl q) rfl)
 refine #[a,ys,sl,?_]
 have hl:(Nd r).length < 16777216:=by rw[Fh];omega
 have e:bf (ao 0) eD ie (Nd r) [none,some (.lst [.int n],.u)]=some (.ok (Nd ys),_):=e
 generalize Shd ps=H at *
 generalize Nd ys=τ at *
 generalize Nd r=RR at *
 exact aH (rs:=[.pl 2]) (Z1:=gS n H (.tup RR) none none none) (Z2:=gS a H (.tup RR) none none none) rfl e hl rfl
def ft (m:Nat) (r:List Nat):List Nat:=(List.range m).filter λp=>!decide (p∈r)
theorem rt_l2 {a:Option (L3.D×Fl)}:hJ (gS n (Shd ps) (.tup (Nd r)) a none none)=some (.ok (.val (.lst (Nd (ft ps.length r))) .u),gS n (Shd ps) (.tup (Nd r)) a none none):=by
 have ls:=fR ps
 have d:dA [.int (ps.length:Int)]=some (aJ 0 ps.length):=cH (by omega) (by omega)
 obtain ⟨Y',e,v,rfl⟩:=aR (bnd:=ao 0) (c:=eC) (elt:=ic) (λY=>∃ v,Y=[v,#v[.tup (Nd r)]]) (λi:Nat=>L3.D.int (0+(i:Int))) (λp=>!decide (p∈r)) (λi:Nat=>L3.D.int (i:Int)) (xs:=List.range ps.length) (Y:=[none,#v[.tup (Nd r)]]) #[none,rfl] (by
  rintro x f Y ⟨v,rfl⟩
  rw[Int.zero_add]
  have q:=Cd x r
  generalize (!decide (x∈r))=b at *
  generalize L3.D.int (x:Int)=X at *
  generalize L3.D.tup (Nd r)=RR at *
  refine #[[#v[X],#v[RR]],[#v[X],#v[RR]],rfl,?_,λ_=>#[_,rfl],λ_=>#[_,_,(X,.z),[#v[X],#v[RR]],af rfl,rfl,rfl,_,rfl]]
  unfold eC
  exact bG (aw (af rfl) (af rfl) rfl rfl q) rfl)
 have e:bf (ao 0) eC ic (aJ 0 ps.length) [none,#v[.tup (Nd r)]]=some (.ok (Nd (ft ps.length r)),_):=e
 have hl:(aJ 0 ps.length).length < 16777216:=by rw[aQ];omega
 generalize Nd (ft ps.length r)=τ at *
 generalize L3.D.tup (Nd r)=RR at *
 generalize aJ 0 ps.length=RG at *
 generalize L3.D.int (ps.length:Int)=N at *
 generalize Shd ps=H at *
 exact aH (rs:=[]) (Z1:=gS n H RR a none none) (Z2:=gS n H RR a none none) (bZ (ae (aG (ae (af rfl) au) rfl ls) au) rfl d) e hl rfl
theorem rt_l3 {k:Nat} {a b:Option (L3.D×Fl)}:kb (gS n (Shd ps) (.tup (Nd r)) a b #v[.int (k:Int)])=some (.ok (.val (.lst (Nd (r.map (dn k)))) .u),gS n (Shd ps) (.tup (Nd r)) a b #v[.int (k:Int)]):=by
 have d:=h.len
 obtain ⟨Y',e,v,rfl⟩:=aR (bnd:=ao 0) (c:=b9) (elt:=eB) (λY=>∃ v,Y=[v,#v[.int (k:Int)]]) (λi:Nat=>L3.D.int (i:Int)) (λ_=>true) (λi:Nat=>L3.D.int ((dn k i:Nat):Int)) (xs:=r) (Y:=[none,#v[.int (k:Int)]]) #[none,rfl] (by
  rintro x m Y ⟨v,rfl⟩
  have q:gtI (.int (x:Int)) (.int (k:Int))=#v[.bl (decide ((x:Int) > (k:Int)))]:=rfl
  have j:yF [.bl (decide ((x:Int) > (k:Int)))]=#v[.int (if decide ((x:Int) > (k:Int))=true then 1 else 0)]:=rfl
  have s:cy (.int (x:Int)) (.int (if decide ((x:Int) > (k:Int))=true then 1 else 0))=#v[.int ((dn k x:Nat):Int)]:=by
   rw[show ((dn k x:Nat):Int)=(x:Int) - (if decide ((x:Int) > (k:Int))=true then 1 else 0) from ?_]
   .rfl
   .unfold dn
    by_cases c:x > k
    .rw[if_pos c,if_pos (Fw (by omega))];omega
    .rw[if_neg c,if_neg (by simp;omega)];omega
  generalize L3.D.int ((dn k x:Nat):Int)=ρ at *
  generalize L3.D.int (if decide ((x:Int) > (k:Int))=true then 1 else 0)=τ at *
  generalize decide ((x:Int) > (k:Int))=b at *
  generalize L3.D.int (x:Int)=X at *
  generalize L3.D.int (k:Int)=KK at *
  refine #[[#v[X],#v[KK]],_,rfl,rfl,(λh=>by cases h),λ_=>#[.val ρ .z,[#v[X],#v[KK]],(ρ,.z),_,?_,rfl,rfl,_,rfl]]
  unfold eB
  exact aw (af rfl) (aG (ae (aw (af rfl) (af rfl) rfl rfl q) au) rfl j) rfl rfl s)
 rw[kn] at e
 have hm:r.map (λi:Nat=>L3.D.int ((dn k i:Nat):Int))=Nd (r.map (dn k)):=(FW (l:=r) (f:=dn k) (g:=λi:Nat=>L3.D.int (i:Int))).symm
 rw[hm] at e
 have hl:(Nd r).length < 16777216:=by rw[Fh];omega
 generalize Nd (r.map (dn k))=τ at *
 have e:bf (ao 0) b9 eB (Nd r) [none,#v[.int (k:Int)]]=some (.ok τ,_):=e
 generalize Nd r=RR at *
 generalize Shd ps=H at *
 exact aH (rs:=[.pl 2]) (Z1:=gS n H (.tup RR) a b #v[.int (k:Int)]) (Z2:=gS n H (.tup RR) a b #v[.int (k:Int)]) rfl e hl rfl
include g
theorem vj (he:emS (sgn ps) r=true):∃ E,gp [(.lst [.int n],.u),(Shd ps,.z),(.tup (Nd r),.z)]=some (.ok (.bl true,.z),[(.lst [.int E],.u),(Shd ps,.z),(.tup (Nd r),.z)]):=by
 have T:=h.len
 obtain ⟨_,h3,_⟩:=mU g h7 he
 have f1:=oN g h7 h
 have f2:=C5 g h7 h he
 have i:vR (.bl true) (.bl true)=#v[.bl false]:=rfl
 have ne:neX (.lst []) (.lst [])=#v[.bl false]:=by kernel_rfl
 rw[he] at f1
 obtain ⟨d,ys,sl,J⟩:=rt_l1 (ps:=ps) h7 h n
 have A:Ris ps.length ys:=#[h.up.sublist sl,λx f=>h.lt x (sl.subset f)]
 have C:=oN g h7 A
 have B:bC [.tup (Nd ys)]=#v[.int (ys.length:Int)]:=by simp[sM,c1]
 have S:l6 [.lst (Nd ys)]=#v[.tup (Nd ys)]:=rfl
 have I:=rt_l2 (ps:=ps) h7 h d (a:=#v[.tup (Nd ys)])
 have j:=uI (ft ps.length r)
 have o:(sIf (cOr (cB (ah vR (am aW (aa (ac 2) (aa (ac 1) aj))) (mC (.bl true)))) (cB (ah neX (am jg (aa (ac 1) (aa (ac 2) aj))) (iH aj)))) (aT 3 (mC (.bl false))) cU) (gS n (Shd ps) (.tup (Nd r)) none none none)=some (.ok .nx,gS n (Shd ps) (.tup (Nd r)) none none none):=by
  generalize L3.D.tup (Nd r)=R at *
  generalize Shd ps=H at *
  exact b7 (b:=false) (kj (b:=false) (bG (aw (aq f1 (ae (af rfl) (ae (af rfl) au)) rfl rfl rfl) i_c rfl rfl i) rfl) rfl (bG (aw (aq f2 (ae (af rfl) (ae (af rfl) au)) rfl rfl rfl) (cQ au rfl (Nat.le_of_ble_eq_true rfl)) rfl rfl ne) rfl)) rfl rfl
 have p:(aN 3 (ay l6 (aa ib aj))) (gS n (Shd ps) (.tup (Nd r)) none none none)=some (.ok .nx,gS d (Shd ps) (.tup (Nd r)) #v[.tup (Nd ys)] none none):=by
  generalize L3.D.tup (Nd ys)=τ at *
  generalize Nd ys=τ' at *
  generalize L3.D.tup (Nd r)=R at *
  generalize Shd ps=H at *
  exact bP (aG (ae J au) rfl S) rfl (Nat.le_of_ble_eq_true rfl) rfl
 have v:(sIf (jx (cB (ah gtI (ay bC (aa (ac 3) aj)) (mC (.int 2)))) (cB (ah vR (am aW (aa (ac 3) (aa (ac 1) aj))) (mC (.bl true))))) (aT 3 (mC (.bl false))) cU) (gS d (Shd ps) (.tup (Nd r)) #v[.tup (Nd ys)] none none)=some (.ok .nx,gS d (Shd ps) (.tup (Nd r)) #v[.tup (Nd ys)] none none):=by
  by_cases c:2 < ys.length
  .have gt:gtI (.int (ys.length:Int)) (.int 2)=#v[.bl true]:=by
    show some (L3.D.bl (decide ((ys.length:Int) > 2)),Fl.z)=_
    rw[Fw (by omega)]
   rw[y6 (kG g) (s:=sgn ps) h A (by omega) (λx f=>sl.subset f) he] at C
   generalize L3.D.int (ys.length:Int)=N at *
   generalize L3.D.tup (Nd ys)=τ at *
   generalize L3.D.tup (Nd r)=R at *
   generalize Shd ps=H at *
   exact b7 (b:=false) (pg (b:=true) (bG (aw (aG (ae (af rfl) au) rfl B) i_c rfl rfl gt) rfl) rfl (bG (aw (aq C (ae (af rfl) (ae (af rfl) au)) rfl rfl rfl) i_c rfl rfl i) rfl)) rfl rfl
  .have gt:gtI (.int (ys.length:Int)) (.int 2)=#v[.bl false]:=by
    show some (L3.D.bl (decide ((ys.length:Int) > 2)),Fl.z)=_
    rw[Fy (by omega)]
   generalize L3.D.int (ys.length:Int)=N at *
   generalize L3.D.tup (Nd ys)=τ at *
   generalize L3.D.tup (Nd r)=R at *
   generalize Shd ps=H at *
   exact b7 (b:=false) (ph (b:=false) (bG (aw (aG (ae (af rfl) au) rfl B) i_c rfl rfl gt) rfl) rfl) rfl rfl
 have w:(aN 4 hJ) (gS d (Shd ps) (.tup (Nd r)) #v[.tup (Nd ys)] none none)=some (.ok .nx,gS d (Shd ps) (.tup (Nd r)) #v[.tup (Nd ys)] (some (.lst (Nd (ft ps.length r)),.u)) none):=by
  generalize L3.D.tup (Nd ys)=τ at *
  generalize L3.D.tup (Nd r)=R at *
  generalize Nd (ft ps.length r)=σ at *
  generalize Shd ps=H at *
  exact bP I rfl (Nat.le_of_ble_eq_true rfl) rfl
 by_cases l:ft ps.length r=[]
 .refine #[d,?_]
  rw[Fw l] at j
  generalize L3.D.tup (Nd ys)=τ at *
  generalize L3.D.tup (Nd r)=R at *
  generalize Nd (ft ps.length r)=σ at *
  generalize Shd ps=H at *
  refine aK (Z:=gS n H R none none none) rfl rfl (ak o (ak p (ak v (ak w (mh (lu (b:=true) (bG (aw (af rfl) (cQ au rfl (Nat.le_of_ble_eq_true rfl)) rfl rfl j) rfl) rfl (bF i_c rfl))))))) rfl
 .rw[Fy l] at j
  have op:0 < (ft ps.length r).length:=List.length_pos_iff.mpr l
  obtain ⟨x,f,ex⟩:=Ba d op
  have m:(ft ps.length r).length<=ps.length:=by
   unfold ft
   exact FR (List.length_filter_le _ _) (Nat.le_of_eq List.length_range)
  have t:=j1 d ((ft ps.length r).length:Int) (by omega)
  rw[ex] at t
  have lo:bC [.lst (Nd (ft ps.length r))]=#v[.int ((ft ps.length r).length:Int)]:=by simp[sM,c1]
  obtain ⟨k,q⟩:∃ k,(ft ps.length r)[x]?=some k:=#[_,Fd f]
  have e:=Fj q
  unfold ft at e
  rw[FL,List.mem_range] at e
  have G:k ∉ r:=by simpa using e.2
  have sb:aC (.lst (Nd (ft ps.length r))) (.int (x:Int))=#v[.int (k:Int)]:=jU (m8 (by rw[Fp,q];rfl))
  have wv:=C4 g e.1 (by omega)
  obtain ⟨P,L⟩:=EH g e.1 h h3 G he
  have y:=oN (tF g e.1 (by omega)) (by have:=oF e.1;omega) P
  rw[L] at y
  refine #[d / ((ft ps.length r).length:Int),?_]
  generalize K:d / ((ft ps.length r).length:Int)=n2 at *
  have F:=rt_l3 (ps:=ps) h7 h n2 (k:=k) (a:=#v[.tup (Nd ys)]) (b:=some (.lst (Nd (ft ps.length r)),.u))
  have tk:l6 [.lst (Nd (r.map (dn k)))]=#v[.tup (Nd (r.map (dn k)))]:=rfl
  generalize L3.D.tup (Nd (r.map (dn k)))=RK at *
  generalize Nd (r.map (dn k))=RK' at *
  generalize L3.D.int ((ft ps.length r).length:Int)=LO at *
  generalize Nd (ft ps.length r)=σ at *
  generalize L3.D.tup (Nd ys)=τ at *
  generalize L3.D.tup (Nd r)=R at *
  generalize Shd (wo ps k)=W at *
  generalize Shd ps=H at *
  generalize L3.D.int (k:Int)=KK at *
  generalize L3.D.int (x:Int)=X at *
  have M:(sIf (cB (ah eqX (ac 4) (iH aj))) (aT 3 (mC (.bl true))) cU) (gS d H R #v[τ] (some (.lst σ,.u)) none)=some (.ok .nx,gS d H R #v[τ] (some (.lst σ,.u)) none):=b7 (b:=false) (bG (aw (af rfl) (cQ au rfl (Nat.le_of_ble_eq_true rfl)) rfl rfl j) rfl) rfl rfl
  have Q:(aN 5 (ah aC (ac 4) (am bB (aa (ac 0) (aa (ay bC (aa (ac 4) aj)) aj))))) (gS d H R #v[τ] (some (.lst σ,.u)) none)=some (.ok .nx,gS n2 H R #v[τ] (some (.lst σ,.u)) #v[KK]):=bP (aw (af rfl) (aq t (ae (af rfl) (ae (aG (ae (af rfl) au) rfl lo) au)) rfl rfl rfl) rfl rfl sb) rfl (Nat.le_of_ble_eq_true rfl) rfl
  refine aK (Z:=gS n H R none none none) rfl rfl (ak o (ak p (ak v (ak w (ak M (ak Q (bF (aq y (ae (aG (ae F au) rfl tk) (ae (aq wv (ae (af rfl) (ae (af rfl) au)) rfl rfl rfl) au)) rfl rfl rfl) rfl))))))) rfl
end
abbrev hE (ps:List Pt):List (List Nat):=(lx ps.length 0).filter (emS (sgn ps))
theorem mT {ps:List Pt} (h7:ps.length<=7):(ers ps).Perm (hE ps):=(AH _ h7).filter _
theorem uH {ps:List Pt} (h7:ps.length<=7) (m:Nat):(((ers ps).filter (ofL (m:Int))).length:Int)=cE (hE ps) m:=by
 have e:=((mT h7).filter (ofL (m:Int))).length_eq
 rw[e]
 unfold cE
 congr 2
 refine List.filter_congr λr _=>?_
 show decide ((r.length:Int)=(m:Int))=decide (r.length=m)
 rw[decide_eq_decide]
 lia
theorem vY {ps:List Pt} (m:Nat):cE (hE ps) m<=(((rgs ps).filter (ofN m)).length:Int):=by
 unfold cE
 refine Int.ofNat_le.mpr ?_
 show ((((lx ps.length 0).filter (emS (sgn ps))).filter λr=>decide (r.length=m)).length<=(((lx ps.length 0).filter (isR (sgn ps))).filter (ofN m)).length)
 rw[List.filter_filter,List.filter_filter,<- List.countP_eq_length_filter,<- List.countP_eq_length_filter]
 refine List.countP_mono_left λr _ h=>?_
 rw[Bool.and_eq_true] at h ⊢
 have q:=h.2
 unfold emS at q
 rw[Bool.and_eq_true] at q
 exact #[h.1,q.1]
def sg (m:Nat):Int:=if m % 2=0 then 1 else -1
def tt (ps:List Pt):Nat->Int
 | 0=>0
 | m+1=>tt ps m+cE (hE ps) (3+m) * sg m
theorem EV (l:List (List Nat)) (m:Nat):0<=cE l m:=by unfold cE;exact Int.natCast_nonneg _
theorem wG {ps:List Pt} (g:GoodSh ps) (h7:ps.length<=7):tt ps 6=(ps.length:Int) * (ps.length - 1) / 2 - (ps.length - 1):=by
 have a:=BO (kG g) (show (sgn ps).length<=7 from h7) (show 1<=(sgn ps).length from g.pos)
 have a:cE (hE ps) 3 - cE (hE ps) 4+cE (hE ps) 5 - cE (hE ps) 6+cE (hE ps) 7 - cE (hE ps) 8=(ps.length:Int) * (ps.length - 1) / 2 - (ps.length - 1):=a
 rw[<- a]
 show ((((((0+cE (hE ps) 3 * 1)+cE (hE ps) 4 * (-1))+cE (hE ps) 5 * 1)+cE (hE ps) 6 * (-1))+cE (hE ps) 7 * 1)+cE (hE ps) 8 * (-1))=_
 lia
theorem uG {ps:List Pt} (g:GoodSh ps) (h7:ps.length<=7):ers ps=[] ↔ ps.length < 3:=by
 constructor
 .intro e
  refine Classical.byContradiction λc=>?_
  have t:=wG g h7
  have hn:hE ps=[]:=by
   have p:=mT (ps:=ps) h7
   rw[e] at p
   exact p.nil_eq.symm
  have z:tt ps 6=0:=by
   show ((((((0+cE (hE ps) 3 * 1)+cE (hE ps) 4 * (-1))+cE (hE ps) 5 * 1)+cE (hE ps) 6 * (-1))+cE (hE ps) 7 * 1)+cE (hE ps) 8 * (-1))=_
   rw[hn]
   rfl
  rw[z] at t
  have key:∀ n:Nat,3<=n->n<=7->(0:Int)≠(n:Int) * (n - 1) / 2 - (n - 1):=by
   intro n h1 h2
   rcases (show n=3\/n=4\/n=5\/n=6\/n=7 by omega) with rfl | rfl | rfl | rfl | rfl <;> decide
  exact key _ (by omega) h7 t
 .intro c
  rw[List.filter_eq_nil_iff]
  intro r a he
  have:=(mU g h7 he).2.1
  have:=(nY _ r a).len
  lia
theorem zM:∀ n:Nat,3<=n->n<=7->dD (.int ((n:Int) - 1)) (.int ((n:Int) - 2))=#v[.int (((n:Int) - 1) * ((n:Int) - 2))]/\nz (.int (((n:Int) - 1) * ((n:Int) - 2))) (.int 2)=#v[.int ((n:Int) * (n - 1) / 2 - (n - 1))]:=by
 intro n h1 h2
 rcases (show n=3\/n=4\/n=5\/n=6\/n=7 by omega) with rfl | rfl | rfl | rfl | rfl <;> exact #[by kernel_rfl,by kernel_rfl]
abbrev lS (S KK:L3.D) (n:Int) (H:L3.D) (v4 v5 v6 v7 v8:Option (L3.D×Fl)):Sto:=[#v[S],#v[KK],some (.lst [.int n],.u),#v[H],v4,v5,v6,v7,v8]
theorem Ef:∀ k:Nat,k < 6->∃ M,o1 (.int ((3+(k:Int)) - 3)) (.int 2)=#v[M]/\aC (.lst [.int 1,.int (-1)]) M=#v[.int (sg k)]
 | 0,_=>#[.int 0,by kernel_rfl,by kernel_rfl]
 | 1,_=>#[.int 1,by kernel_rfl,by kernel_rfl]
 | 2,_=>#[.int 0,by kernel_rfl,by kernel_rfl]
 | 3,_=>#[.int 1,by kernel_rfl,by kernel_rfl]
 | 4,_=>#[.int 0,by kernel_rfl,by kernel_rfl]
 | 5,_=>#[.int 1,by kernel_rfl,by kernel_rfl]
 | k+6,h=>absurd h (by omega)
theorem ne_b (b:Bool):neX (.bl b) (.bl b)=#v[.bl false]:=by cases b <;> kernel_rfl
section
variable {ps:List Pt} (g:GoodSh ps) (h7:ps.length<=7) {S KK N:L3.D} {n:Int}
include g h7
theorem El {k:Nat} (f:k < 6) {v7 v8:Option (L3.D×Fl)}:∃ l,iV (lS S KK n (Shd ps) #v[N] #v[.int (tt ps k)] #v[.int (3+(k:Int))] v7 v8)=some (.ok .nx,lS S KK n (Shd ps) #v[N] #v[.int (tt ps (k+1))] #v[.int (3+(k:Int))] v7 l):=by
 have em:=Cm g h7 (k:=((3+k:Nat):Int)) (by omega) (by omega)
 have a:=C6 g h7 (m:=3+k) (by omega) (by omega)
 have p:=vY (ps:=ps) (3+k)
 rw[uH h7] at em
 have q:cE (hE ps) (3+k) < 1000:=by
  unfold cE
  have h1:=(mT (ps:=ps) h7).length_eq
  have h2:(ers ps).length<=128:=FR (List.length_filter_le _ _) (oT h7)
  have h3:((hE ps).filter λr=>decide (r.length=3+k)).length<=(hE ps).length:=List.length_filter_le _ _
  lia
 have h:=EV (hE ps) (3+k)
 have gt:gtI (.int (cE (hE ps) (3+k))) (.int (((rgs ps).filter (ofN (3+k))).length:Int))=#v[.bl false]:=by
  show some (L3.D.bl (decide (cE (hE ps) (3+k) > (((rgs ps).filter (ofN (3+k))).length:Int))),Fl.z)=_
  rw[Fy (by omega)]
 obtain ⟨M,o,e⟩:=Ef k f
 have c:=fE (i:=cE (hE ps) (3+k)) (j:=sg k) #[by omega,by omega]
 have ad:ba (.int (tt ps k)) (.int (cE (hE ps) (3+k) * sg k))=#v[.int (tt ps (k+1))]:=rfl
 have sb:cy (.int (3+(k:Int))) (.int 3)=#v[.int ((3+(k:Int)) - 3)]:=rfl
 have d:qB (.int 1)=#v[.int (-1)]:=rfl
 rw[show ((3+k:Nat):Int)=3+(k:Int) by omega] at em a
 refine #[#v[.int (cE (hE ps) (3+k))],?_]
 generalize L3.D.int (cE (hE ps) (3+k) * sg k)=τ1 at *
 generalize L3.D.int (cE (hE ps) (3+k))=C at *
 generalize L3.D.int (((rgs ps).filter (ofN (3+k))).length:Int)=Q at *
 generalize L3.D.int (tt ps (k+1))=T2 at *
 generalize L3.D.int (tt ps k)=T1 at *
 generalize L3.D.int (sg k)=G at *
 generalize L3.D.int ((3+(k:Int)) - 3)=D3 at *
 generalize L3.D.int (3+(k:Int))=X at *
 generalize Shd ps=H at *
 unfold iV
 apply ak (Z1:=lS S KK n H #v[N] #v[T1] #v[X] v7 #v[C])
 .exact bP (aq em (ae (af rfl) (ae (af rfl) au)) rfl rfl rfl) rfl (Nat.le_of_ble_eq_true rfl) rfl
 apply ak (Z1:=lS S KK n H #v[N] #v[T1] #v[X] v7 #v[C])
 .exact b7 (b:=false) (bG (aw (af rfl) (aq a (ae (af rfl) (ae (af rfl) au)) rfl rfl rfl) rfl rfl gt) rfl) rfl rfl
 have dl:(iH (aa (mC (.int 1)) (aa (mUn qB (mC (.int 1))) aj))) (lS S KK n H #v[N] #v[T1] #v[X] v7 #v[C])=some (.ok (.val (.lst [.int 1,.int (-1)]) .u),lS S KK n H #v[N] #v[T1] #v[X] v7 #v[C]):=cQ (ae i_c (ae (i_un i_c rfl d) au)) rfl (Nat.le_of_ble_eq_true rfl)
 exact bP (aw (af rfl) (aw (af rfl) (aw dl (aw (aw (af rfl) i_c rfl rfl sb) i_c rfl rfl o) rfl rfl e) rfl rfl c) rfl rfl ad) rfl (Nat.le_of_ble_eq_true rfl) rfl
theorem yq {v6 v7 v8:Option (L3.D×Fl)}:∃ c a,dw (aX cN (aa (mC (.int 3)) (aa (mC (.int 9)) aj))) (ao 6) iV (lS S KK n (Shd ps) #v[N] #v[.int 0] v6 v7 v8)=some (.ok .nx,lS S KK n (Shd ps) #v[N] #v[.int ((ps.length:Int) * (ps.length - 1) / 2 - (ps.length - 1))] c v7 a):=by
 obtain ⟨Z',e,c,a,rfl⟩:=bb (bnd:=ao 6) (b:=iV) (λk Z=>∃ c a,Z=lS S KK n (Shd ps) #v[N] #v[.int (tt ps k)] c v7 a) (ds:=aJ 3 6) (Z:=lS S KK n (Shd ps) #v[N] #v[.int 0] v6 v7 v8) (k:=0) #[v6,v8,rfl] (by
  rintro k d Z hd ⟨c,a,rfl⟩
  obtain ⟨f,rfl⟩:=bv hd
  rw[FA]
  obtain ⟨i,e⟩:=El g h7 (S:=S) (KK:=KK) (N:=N) (n:=n) f (v7:=v7) (v8:=a)
  exact #[_,_,rfl,.inl e,_,_,rfl])
 rw[aQ,FA,wG g h7] at e
 have h:cN [.int 3,.int 9]=some (aJ 3 6):=c0 (by decide) (by decide) (by decide)
 exact #[c,a,dR (bZ (ae i_c (ae i_c au)) rfl h) rfl e]
theorem Bm {v6 v7 v8:Option (L3.D×Fl)}:(sIf (cOr (jx (cB (ah gtI (ac 4) (mC (.int 2)))) (cB (ah neX (ac 5) (ah nz (ah dD (ah cy (ac 4) (mC (.int 1))) (ah cy (ac 4) (mC (.int 2)))) (mC (.int 2)))))) (jx (cB (ah gtI (ac 4) (mC (.int 4)))) (cB (ah ltI (am aZ (aa (ac 3) (aa (mC (.int 4)) aj))) (mC (.int 1)))))) (aT 1 (mC (.bl false))) cU) (lS S KK n (Shd ps) #v[.int (ps.length:Int)] #v[.int ((ps.length:Int) * (ps.length - 1) / 2 - (ps.length - 1))] v6 v7 v8)=some (.ok .nx,lS S KK n (Shd ps) #v[.int (ps.length:Int)] #v[.int ((ps.length:Int) * (ps.length - 1) / 2 - (ps.length - 1))] v6 v7 v8):=by
 have em:=Cm g h7 (k:=((4:Nat):Int)) (by decide) (by decide)
 rw[uH h7] at em
 have em:aZ [(Shd ps,.z),(.int 4,.z)]=some (.ok (.int (cE (hE ps) 4),.z),[(Shd ps,.z),(.int 4,.z)]):=em
 have g2:gtI (.int (ps.length:Int)) (.int 2)=#v[.bl (decide ((ps.length:Int) > 2))]:=rfl
 have a:gtI (.int (ps.length:Int)) (.int 4)=#v[.bl (decide ((ps.length:Int) > 4))]:=rfl
 have s1:cy (.int (ps.length:Int)) (.int 1)=#v[.int ((ps.length:Int) - 1)]:=rfl
 have s2:cy (.int (ps.length:Int)) (.int 2)=#v[.int ((ps.length:Int) - 2)]:=rfl
 have A:(jx (cB (ah gtI (ac 4) (mC (.int 2)))) (cB (ah neX (ac 5) (ah nz (ah dD (ah cy (ac 4) (mC (.int 1))) (ah cy (ac 4) (mC (.int 2)))) (mC (.int 2)))))) (lS S KK n (Shd ps) #v[.int (ps.length:Int)] #v[.int ((ps.length:Int) * (ps.length - 1) / 2 - (ps.length - 1))] v6 v7 v8)=some (.ok false,lS S KK n (Shd ps) #v[.int (ps.length:Int)] #v[.int ((ps.length:Int) * (ps.length - 1) / 2 - (ps.length - 1))] v6 v7 v8):=by
  by_cases c:3<=ps.length
  .rw[Fw (by omega)] at g2
   obtain ⟨t1,d⟩:=zM _ c h7
   have ne:neX (.int ((ps.length:Int) * (ps.length - 1) / 2 - (ps.length - 1))) (.int ((ps.length:Int) * (ps.length - 1) / 2 - (ps.length - 1)))=#v[.bl false]:=by
    show some (L3.D.bl (!decide (((ps.length:Int) * (ps.length - 1) / 2 - (ps.length - 1))=((ps.length:Int) * (ps.length - 1) / 2 - (ps.length - 1)))),Fl.z)=_
    rw[Fw rfl];rfl
   generalize L3.D.int ((ps.length:Int) * (ps.length - 1) / 2 - (ps.length - 1))=V at *
   generalize L3.D.int (((ps.length:Int) - 1) * ((ps.length:Int) - 2))=V1 at *
   generalize L3.D.int ((ps.length:Int) - 1)=V2 at *
   generalize L3.D.int ((ps.length:Int) - 2)=V3 at *
   generalize L3.D.int (ps.length:Int)=L at *
   generalize Shd ps=H at *
   exact pg (b:=true) (bG (aw (af rfl) i_c rfl rfl g2) rfl) rfl (bG (aw (af rfl) (aw (aw (aw (af rfl) i_c rfl rfl s1) (aw (af rfl) i_c rfl rfl s2) rfl rfl t1) i_c rfl rfl d) rfl rfl ne) rfl)
  .rw[Fy (by omega)] at g2
   generalize L3.D.int (ps.length:Int)=L at *
   generalize Shd ps=H at *
   exact ph (b:=false) (bG (aw (af rfl) i_c rfl rfl g2) rfl) rfl
 have B:(jx (cB (ah gtI (ac 4) (mC (.int 4)))) (cB (ah ltI (am aZ (aa (ac 3) (aa (mC (.int 4)) aj))) (mC (.int 1))))) (lS S KK n (Shd ps) #v[.int (ps.length:Int)] #v[.int ((ps.length:Int) * (ps.length - 1) / 2 - (ps.length - 1))] v6 v7 v8)=some (.ok false,lS S KK n (Shd ps) #v[.int (ps.length:Int)] #v[.int ((ps.length:Int) * (ps.length - 1) / 2 - (ps.length - 1))] v6 v7 v8):=by
  by_cases c:5<=ps.length
  .rw[Fw (by omega)] at a
   have one:0 < cE (hE ps) 4:=by
    obtain ⟨r,e,he,hl⟩:=Bu (kG g) (show 5<=(sgn ps).length from c)
    have:r∈(hE ps).filter λr=>decide (r.length=4):=FL.mpr #[FL.mpr #[e,he],Fw hl]
    have:=List.length_pos_of_mem this
    unfold cE
    lia
   have lt:ltI (.int (cE (hE ps) 4)) (.int 1)=#v[.bl false]:=by
    show some (L3.D.bl (decide (cE (hE ps) 4 < 1)),Fl.z)=_
    rw[Fy (by omega)]
   generalize L3.D.int (cE (hE ps) 4)=C at *
   generalize L3.D.int ((ps.length:Int) * (ps.length - 1) / 2 - (ps.length - 1))=V at *
   generalize L3.D.int (ps.length:Int)=L at *
   generalize Shd ps=H at *
   exact pg (b:=true) (bG (aw (af rfl) i_c rfl rfl a) rfl) rfl (bG (aw (aq em (ae (af rfl) (ae i_c au)) rfl rfl rfl) i_c rfl rfl lt) rfl)
  .rw[Fy (by omega)] at a
   generalize L3.D.int (ps.length:Int)=L at *
   generalize Shd ps=H at *
   exact ph (b:=false) (bG (aw (af rfl) i_c rfl rfl a) rfl) rfl
 exact b7 (b:=false) (kj (b:=false) A rfl B) rfl rfl
theorem Bp {V:L3.D} {v6 v7 v8:Option (L3.D×Fl)}:∃ a l,(aB (aN 7 (am bh (aa (ac 3) aj))) (sIf (cOr (cB (ah neX (ah isN (ac 7) (mC .non)) (ah ltI (ac 4) (mC (.int 3))))) (jx (cB (ah vA (ac 7) (mC .non))) (jf (cB (am gp (aa (ac 2) (aa (ac 3) (aa (ac 7) aj)))))))) (aT 1 (mC (.bl false))) cU)) (lS S KK n (Shd ps) #v[.int (ps.length:Int)] #v[V] v6 v7 v8)=some (.ok .nx,lS S KK a (Shd ps) #v[.int (ps.length:Int)] #v[V] v6 l v8):=by
 obtain ⟨R,ge,i⟩:=ge_ok g h7
 have lt:ltI (.int (ps.length:Int)) (.int 3)=#v[.bl (decide ((ps.length:Int) < 3))]:=rfl
 have nb:=ne_b
 rcases i with ⟨e,rfl⟩ | ⟨r,h,rfl,up⟩
 .have c:=(uG g h7).mp e
  rw[Fw (by omega)] at lt
  have d:isN .non .non=#v[.bl true]:=rfl
  have f:vA .non .non=#v[.bl false]:=rfl
  refine #[n,#v[.non],?_]
  generalize L3.D.int (ps.length:Int)=L at *
  generalize Shd ps=H at *
  apply ak (Z1:=lS S KK n H #v[L] #v[V] v6 #v[.non] v8)
  .exact bP (aq ge (ae (af rfl) au) rfl rfl rfl) rfl (Nat.le_of_ble_eq_true rfl) rfl
  exact b7 (b:=false) (kj (b:=false) (bG (aw (aw (af rfl) i_c rfl rfl d) (aw (af rfl) i_c rfl rfl lt) rfl rfl (nb true)) rfl) rfl (ph (b:=false) (bG (aw (af rfl) i_c rfl rfl f) rfl) rfl)) rfl rfl
 .have c:¬ ps.length < 3:=λc=>by rw[(uG g h7).mpr c] at h;cases h
  obtain ⟨m,k⟩:=FL.mp h
  obtain ⟨a,j⟩:=vj g h7 (nY _ r m) n k
  rw[Fy (by omega)] at lt
  have d:isN (.tup (Nd r)) .non=#v[.bl false]:=rfl
  have f:vA (.tup (Nd r)) .non=#v[.bl true]:=rfl
  refine #[a,#v[.tup (Nd r)],?_]
  clear up
  generalize L3.D.tup (Nd r)=R at *
  generalize L3.D.int (ps.length:Int)=L at *
  generalize Shd ps=H at *
  apply ak (Z1:=lS S KK n H #v[L] #v[V] v6 #v[R] v8)
  .exact bP (aq ge (ae (af rfl) au) rfl rfl rfl) rfl (Nat.le_of_ble_eq_true rfl) rfl
  exact b7 (b:=false) (kj (b:=false) (bG (aw (aw (af rfl) i_c rfl rfl d) (aw (af rfl) i_c rfl rfl lt) rfl rfl (nb false)) rfl) rfl (pg (b:=true) (bG (aw (af rfl) i_c rfl rfl f) rfl) rfl (io (b:=true) (bG (aq j (ae (af rfl) (ae (af rfl) (ae (af rfl) au))) rfl rfl rfl) rfl)))) rfl rfl
end
theorem yt {ns:List Int} (k:Nat) {v2 v3 v4 v5 v6 v7 v8:Option (L3.D×Fl)}:∃ j e l m c d b,j9 [#v[.fls (ns.map .int)],#v[.int k],v2,v3,v4,v5,v6,v7,v8]=some (.ok .nx,[#v[.fls (ns.map .int)],#v[.int k],j,e,l,m,c,d,b]):=by
 obtain ⟨n,h⟩:=Af ns k
 obtain ⟨a,ps,es,g,o⟩:=vh n 7 (by decide) (by decide)
 have h7:ps.length<=7:=by omega
 have es:gl [(.lst [.int n],.u),(.int 7,.z)]=some (.ok (Shd ps,.z),[(.lst [.int a],.u),(.int 7,.z)]):=es
 generalize L3.D.fls (ns.map .int)=S at *
 generalize L3.D.int (k:Int)=KK at *
 obtain ⟨c,b,lo⟩:=yq g h7 (S:=S) (KK:=KK) (N:=.int (ps.length:Int)) (n:=a) (v6:=v6) (v7:=v7) (v8:=v8)
 have f1:=Bm g h7 (S:=S) (KK:=KK) (n:=a) (v6:=c) (v7:=v7) (v8:=b)
 generalize L3.D.int ((ps.length:Int) * (ps.length - 1) / 2 - (ps.length - 1))=V at *
 obtain ⟨f,d,i⟩:=Bp g h7 (S:=S) (KK:=KK) (n:=a) (V:=V) (v6:=c) (v7:=v7) (v8:=b)
 have ls:=fR ps
 refine #[some (.lst [.int f],.u),#v[Shd ps],#v[.int (ps.length:Int)],#v[V],c,d,b,?_]
 generalize L3.D.int (ps.length:Int)=L at *
 generalize Shd ps=H at *
 unfold j9
 apply ak (Z1:=[#v[S],#v[KK],some (.lst [.int n],.u),v3,v4,v5,v6,v7,v8])
 .nomatch [h]
 apply ak (Z1:=lS S KK a H v4 v5 v6 v7 v8)
 .nomatch [es]
 apply ak (Z1:=lS S KK a H #v[L] v5 v6 v7 v8)
 .exact bP (aG (ae (af rfl) au) rfl ls) rfl (Nat.le_of_ble_eq_true rfl) rfl
 apply ak (Z1:=lS S KK a H #v[L] #v[.int 0] v6 v7 v8)
 .exact bP i_c rfl (Nat.le_of_ble_eq_true rfl) rfl
 exact ak lo (ak f1 i)
set_option tactic.hygienic true in
theorem Ac (ns:List Int) (hn:ns.length<=63):Cr [(.fls (ns.map .int),.z)]=some (.ok (.bl true,.z),[(.fls (ns.map .int),.z)]):=by
 have f:∃ m:Nat,(if (if ((2:Int) < ((ns.map L3.D.int).length:Int)) then (2:Int) else ((ns.map L3.D.int).length:Int)) > 1 then (if ((2:Int) < ((ns.map L3.D.int).length:Int)) then (2:Int) else ((ns.map L3.D.int).length:Int)) else (1:Int))=(m:Int)/\m<=2:=by
  refine #[max 1 (min ns.length 2),?_,by lia]
  simp only[Fh]
  split <;> split <;> lia
 obtain ⟨m,hm,c⟩:=f
 obtain ⟨Z',e,v1,v2,v3,v4,v5,v6,v7,v8,rfl⟩:=bb (bnd:=ao 1) (b:=j9) (λ_ Z=>∃ v1 v2 v3 v4 v5 v6 v7 v8,Z=[#v[.fls (ns.map .int)],v1,v2,v3,v4,v5,v6,v7,v8]) (ds:=aJ 0 m) (Z:=[#v[.fls (ns.map .int)],none,none,none,none,none,none,none,none]) (k:=0) #[_,_,_,_,_,_,_,_,rfl] (by
  rintro i d Z hd ⟨v1,v2,v3,v4,v5,v6,v7,v8,rfl⟩
  obtain ⟨hi,rfl⟩:=bv hd
  rw[Int.zero_add]
  obtain ⟨l,g,h,p,o,n,j,e⟩:=yt (ns:=ns) i (v2:=v2) (v3:=v3) (v4:=v4) (v5:=v5) (v6:=v6) (v7:=v7) (v8:=v8)
  exact #[_,_,rfl,.inl e,_,_,_,_,_,_,_,_,rfl])
 have a:dA [.int (if (if ((2:Int) < ((ns.map L3.D.int).length:Int)) then (2:Int) else ((ns.map L3.D.int).length:Int)) > 1 then (if ((2:Int) < ((ns.map L3.D.int).length:Int)) then (2:Int) else ((ns.map L3.D.int).length:Int)) else (1:Int))]=some (aJ 0 m):=by
  rw[hm]
  exact cH (by lia) (by lia)
 apply aK (Z:=[#v[.fls (ns.map .int)],none,none,none,none,none,none,none,none]) rfl rfl
 .apply ak
  .apply dR
   ·(repeat' (first | with_reducible apply bZ (h3:=a) | infer_instance | eq_refl))
   .rfl
   .exact e
  .nofun
 .rfl
end Bn
end
namespace Bn
open PySem L2 L3
theorem EZ {l:PySem.W.OpenLaw} {w:World} {K:FG} {h:Heap} {mg:Str -> Option Value} {fa:Addr} (X:K.In h) (G:h.Ns mainGlobals mg) (ck:mg "law"=some (.ref fa)) (e:z8 K=uz) :
  ∃ fd:FuncData,(∀ (s:Shared) (v:Value),BindsTo s fd #[[v],[]] [("_law_script",v)]) /\ ∀ base:Heap,K.In base -> base.Ns mainGlobals mg -> FnOk l.prog w K mg base CX0 10 fa fd ["_law_script"] (wX K):=by
 have c:dsL.map (λp=>qW K p.1)=dsL.map (λp=>mS p.1 p.2):=congrArg (λx=>x.1) e
 have e1:blL.map (PySem.W.nsIn K mainGlobals)=blL.map (λ_=>some none):=congrArg (λx=>x.2.1) e
 have e2:ciL.map (λp=>o9 K p.1)=ciL.map (λp=>some p.2):=congrArg (λx=>x.2.2.1) e
 have e3:csL.map (λp=>wW K p.1)=csL.map (λp=>some p.2):=congrArg (λx=>x.2.2.2) e
 have B:Bl mg:=#[cz X G e1 0 rfl,cz X G e1 1 rfl,cz X G e1 2 rfl,cz X G e1 3 rfl,cz X G e1 4 rfl,cz X G e1 5 rfl,cz X G e1 6 rfl,cz X G e1 7 rfl,cz X G e1 8 rfl,cz X G e1 9 rfl,cz X G e1 10 rfl,cz X G e1 11 rfl,cz X G e1 12 rfl,cz X G e1 13 rfl,cz X G e1 14 rfl,cz X G e1 15 rfl,cz X G e1 16 rfl,cz X G e1 17 rfl,cz X G e1 18 rfl,cz X G e1 19 rfl,cz X G e1 20 rfl]
 have D0:Def K mg "is_whole" gr:=aD X G c 0 rfl
 have D1:Def K mg "is_point" gv:=aD X G c 1 rfl
 have D2:Def K mg "is_place" gw:=aD X G c 2 rfl
 have D3:Def K mg "are_rising_places" bD:=aD X G c 3 rfl
 have D4:Def K mg "check_place" dM:=aD X G c 4 rfl
 have D5:Def K mg "check_number" cZ:=aD X G c 5 rfl
 have D6:Def K mg "check_few" fA:=aD X G c 6 rfl
 have D7:Def K mg "are_points" d9:=aD X G c 7 rfl
 have D8:Def K mg "has_rising_x" cW:=aD X G c 8 rfl
 have D9:Def K mg "bend" oM:=aD X G c 9 rfl
 have dy:Def K mg "threes" jW:=aD X G c 10 rfl
 have ei:Def K mg "first_on_line" cG:=aD X G c 11 rfl
 have dd:Def K mg "is_sheet" gu:=aD X G c 12 rfl
 have dc:Def K mg "check_sheet" dL:=aD X G c 13 rfl
 have bp:Def K mg "turn_at" jj:=aD X G c 14 rfl
 have b5:Def K mg "all_turns" fB:=aD X G c 15 rfl
 have dz:Def K mg "without" ji:=aD X G c 16 rfl
 have b6:Def K mg "row_bends" fv:=aD X G c 17 rfl
 have b0:Def K mg "side_row" gq:=aD X G c 18 rfl
 have cp:Def K mg "is_ring_by" d8:=aD X G c 19 rfl
 have ed:Def K mg "turns_with_ring" bU:=aD X G c 20 rfl
 have ec:Def K mg "tallies_from" cV:=aD X G c 21 rfl
 have b4:Def K mg "tally_between" cC:=aD X G c 22 rfl
 have d4:Def K mg "rings_many" d7:=aD X G c 23 rfl
 have d2:Def K mg "fits_between" cX:=aD X G c 24 rfl
 have cm:Def K mg "places_within" cD:=aD X G c 25 rfl
 have b3:Def K mg "within" jV:=aD X G c 26 rfl
 have ee:Def K mg "is_empty_by" dI:=aD X G c 27 rfl
 have c3:Def K mg "is_empty_ring" cF:=aD X G c 28 rfl
 have eb:Def K mg "empty_rings" dJ:=aD X G c 29 rfl
 have dx:Def K mg "empties_many" cY:=aD X G c 30 rfl
 have d1:Def K mg "greatest_empty" cg:=aD X G c 31 rfl
 have dm:Def K mg "_law_cell" jZ:=aD X G c 32 rfl
 have bc:Def K mg "_law_mix" lO:=aD X G c 33 rfl
 have dr:Def K mg "_law_box" lP:=aD X G c 34 rfl
 have be:Def K mg "_law_take" jX:=aD X G c 35 rfl
 have d3:Def K mg "_law_bend" j0:=aD X G c 36 rfl
 have ea:Def K mg "_law_free" jY:=aD X G c 37 rfl
 have d0:Def K mg "_law_sheet" jl:=aD X G c 38 rfl
 have cP:Def K mg "_law_right" jm:=aD X G c 39 rfl
 obtain ⟨f,fd,F0,hf⟩:Def K mg "law" iM:=aD X G c 40 rfl
 cases ck.symm.trans hf
 have F:=F0
 obtain ⟨oc,od,kV,doc,pm,an,dV,ct,eo,ef,lk,ek⟩:=F0.ex
 subst ef
 obtain ⟨et,Q0⟩:=mP X G e2 0 (n:="MOST_POINTS") (v:=24) rfl
 obtain ⟨ep,Q1⟩:=mP X G e2 1 (n:="DOWN") (v := -1) rfl
 obtain ⟨ej,Q2⟩:=mP X G e2 2 (n:="LEAST_CORNERS") (v:=3) rfl
 obtain ⟨en,Q3⟩:=mP X G e2 3 (n:="UP") (v:=1) rfl
 obtain ⟨er,Q4⟩:=mP X G e2 4 (n:="MOST_FOR_EMPTIES") (v:=10) rfl
 refine #[PySem.W.fnOf "law" "law" (aY iM) (aS iM) (ai iM) .none kV doc pm an dV ct,λs v=>.of_eq rfl,λbase _ _=>?_]
 have j:=pC (P:=l.prog) (w:=w) (base:=base) B D0
 have a3:=pE (P:=l.prog) (w:=w) (base:=base) B D1 j
 have C:=pF (P:=l.prog) (w:=w) (base:=base) B D2 j
 have m:=iI (P:=l.prog) (w:=w) (base:=base) B D3 C
 have N:=lN (P:=l.prog) (w:=w) (base:=base) B D4 C
 have g:=k4 (P:=l.prog) (w:=w) (base:=base) B D5 j
 have t:=nF (P:=l.prog) (w:=w) (base:=base) B D6
 have R:=m7 (P:=l.prog) (w:=w) (base:=base) B D7 a3 Q0
 have I:=kX (P:=l.prog) (w:=w) (base:=base) B D8
 have a6:=zm (P:=l.prog) (w:=w) (base:=base) B D9
 have U:=sW (P:=l.prog) (w:=w) (base:=base) B dy
 have A:=kA (P:=l.prog) (w:=w) (base:=base) B ei a6 U
 have az:=pD (P:=l.prog) (w:=w) (base:=base) B dd R A I
 have a:=lM (P:=l.prog) (w:=w) (base:=base) B dc az
 have a4:=rB (P:=l.prog) (w:=w) (base:=base) B bp a6
 have b:=nG (P:=l.prog) (w:=w) (base:=base) B b5 a U a4
 have a5:=rq (P:=l.prog) (w:=w) (base:=base) B dz N a
 have ab:=nE (P:=l.prog) (w:=w) (base:=base) B b6
 have D:=pB (P:=l.prog) (w:=w) (base:=base) B b0
 have o:=m6 (P:=l.prog) (w:=w) (base:=base) B cp m ab D Q1 Q2 Q3
 have q:=jw (P:=l.prog) (w:=w) (base:=base) B ed b o
 have J:=kW (P:=l.prog) (w:=w) (base:=base) B ec Q0
 have y:=ku (P:=l.prog) (w:=w) (base:=base) B b4 Q0
 have σ:=m5 (P:=l.prog) (w:=w) (base:=base) B d4 b g a J y Q1 Q2 Q0 Q3
 have L:=kY (P:=l.prog) (w:=w) (base:=base) B d2
 have d:=ky (P:=l.prog) (w:=w) (base:=base) B cm L D Q1 Q3
 have a8:=sV (P:=l.prog) (w:=w) (base:=base) B b3 d q
 have i:=lK (P:=l.prog) (w:=w) (base:=base) B ee o d
 have z:=kz (P:=l.prog) (w:=w) (base:=base) B c3 b i
 have k:=lL (P:=l.prog) (w:=w) (base:=base) B eb b i
 have M:=kZ (P:=l.prog) (w:=w) (base:=base) B dx t g a k Q2 Q4 Q0
 have r:=jO (P:=l.prog) (w:=w) (base:=base) B d1 t a k Q4
 have τ:=sZ (P:=l.prog) (w:=w) (base:=base) B dm
 have ar:=wr (P:=l.prog) (w:=w) (base:=base) B bc
 have a0:=wu (P:=l.prog) (w:=w) (base:=base) B dr τ ar
 have u:=sX (P:=l.prog) (w:=w) (base:=base) B be
 have ρ:=s9 (P:=l.prog) (w:=w) (base:=base) B d3
 have V:=sY (P:=l.prog) (w:=w) (base:=base) B ea ρ
 have T:=rC (P:=l.prog) (w:=w) (base:=base) B d0 V u
 have S:=rD (P:=l.prog) (w:=w) (base:=base) B cP u z a8 a5
 exact FnOk.imp (Bv (P:=l.prog) (w:=w) (base:=base) B F a0 S T M r σ) λvs H Q E h=>Bo (λns hn=>#[_,Ac ns hn]) h
theorem walkL:PySem.W.WalkO viL loL (λ_ _=>True) (λ_ h=>∃ K:FG,K.In h /\ z8 K=uz) PySem.Challenge.rw_bentrows_k34_whole_empty_rings.row.toRowW ⟨"law",aY iM,aS iM,ai iM,stPos iM⟩ [] (λf vs=>PySem.call f vs) :=
 L2.walk_ofS (l:=PySem.Challenge.rw_bentrows_k34_whole_empty_rings) (n:=63) (k:=10) (x:="_law_script") (S:=λK=>z8 K=uz) (CX:=CX0) (sp:=wX) rfl (by decide) rfl ⟨rfl,by decide,by decide,rfl⟩ (λ_ _ z=>z) (λ_ _ _ _ _ e X G hm=>EZ X G hm e) (λ_ _ a ns hl c b=>⟨a,ns,rfl,b,c,hl,λ_=>rfl⟩) λ_ _ _ _ z=>z
end Bn
set_option tactic.hygienic true
open PySem PySem.W PyProof.Rows
set_option maxRecDepth 100000 in
set_option maxHeartbeats 0 in
theorem PySem.Challenge.cw_bentrows_k34_whole_empty_rings_holds : PySem.Challenge.rw_bentrows_k34_whole_empty_rings.Holds :=
 holds_law Bn.okL λsaid=>holds_open (r:=PySem.Challenge.rw_bentrows_k34_whole_empty_rings.row) Bn.leftL (λ_ _ e=>⟨_,L2.fragAt_in _,e⟩) (λ_ _ _ ⟨K,X,e⟩ k=>⟨K,X.keeps k,e⟩) (λ_ _=>trivial) (λ_ _ _ _ _=>trivial) (by kernel_rfl) (by kernel_rfl) (by kernel_rfl) (λs e=>recFacts_of e) (by rfl) said (by kernel_rfl) ⟨rfl,rfl,rfl,rfl,rfl,by decide +kernel⟩ ⟨[.list []],by decide +kernel,by decide +kernel⟩ Bn.walkL
